import PyProof.Rows.All
import Wide.All
import OpenK.AllK
import Wide.FinOn
import Lean
import PyProof.EqAt
import PyProof.EqKinds
import PyProof.TupleCall
import PySem.Challenge.RW_acre_k65_no_name
open Option renaming bind_eq_some_iff->kA,bind_some->pC,isSome_map->Us,map_eq_some_iff->gk,map_some->Bu,getD_none->Dv,join->FU
open PySem renaming wpAny_bind->kB,Value->kC,Shared->kE,wpAny_pure->kH,starEach->kJ,Program->kW,mainGlobals->km,World->kq,isSubtype_type->kz,Around->pI,backTo->pX,FuncData->pZ,bootBuiltins->pp,mem_of_lookup->uB,wpAny_seqItems->uE,wpAny_Call_Name_kw->uQ,wpAny_mono->uT,wpAny_callSpecial?_slot->uW,wpAny_call_entry->uX,foldedSetIterable->uY,sysModules->ua,compareOp->ug,swapsWith->uh,behindInMarks->um,wpAny_holding->uq,keywordEach->ux,wpAny_field->uz,codeAny_builtin->QD,wpAny_isInstance->QG,wpAny_truthy_bool->QO,wpAny_newObj_type->QQ,wpAny_loadPart'->QU,bindArgs->QW,rawInt->QY,Builtin->Qe,wpAny_typeNameOfWhole_keyiter->Qi,call_isinstance->Ql,wpAny_specialOf->Qo,wpAny_updateSeq->Qp,codeAny_mono->Qs,wpAny_attempt->Qu,plainId_quiet->Qw,Arguments->Qy,tupleKind_room_in1->UC,builtinLookup_eq_fast->UF,wpAny_passesOwn->UH,codeAny->UK,backToKw->UL,attributeBase->UO,wpAny_rule->UP,wpAny_typeNameOf_keyiter->UQ,wpAny_forIn_list->UW,wpAny_letGo->Ua,wpAny_setField_rec->Ue,isSubtype_tuple_tuple->Uo,assignEach->Uu,binaryOp->Uv,wpAny_of_eq->Uy,firstArgMember->Uz,isSubtype->hW,wpAny_execs_nil->gH,Keyword->gI,typeLookup_type->gL,wpAny_call->gM,isInstance->gP,closureFor->gQ,tupleKind->gS,sliceBounds->gW,DictEntry->gX,pyNext->gb,wpAny_setField->gh,IsPair->gi,argBest->gl,wpAny_tryCatch->gp,wpAny_dictEntries->gr,tupleKeyHash->gv,wpAny_isOneOf_keyiter->AB,Spec->AC,Fin->AE,wpAny_newList->AH,sizeLine_eq->AI,codeAny_call_builtin->AK,compEnvC->AM,wpAny_newFunctionEnv->AN,letOwnedTupleGo->AO,seqItems?->Ad,Paired->Ae,wpAny_pyIter_tuple->Ag,NameKind->Ak,wpAny_newFunctionEnv_cells->Al,PyData->Ao,wpAny_nameGoes->Aq,defaultsOf->Au,wpAny_fieldsOf->Av,wpAny_tupleItemsOf->Aw,typeOf->BG,checkBuiltinCall->BS,wpAny_Dict_empty->BV,builtinsNs->Bc,typeLookup->Bf,wpAny_Assign_Subscript->Bk,richCompare_meets_room->Bn,wpAny_dictEpoch->Bv,wpAny_isTrue_Compare1->CA,codeAny_call_function->CB,isinstance_false_dict->CC,codeAny_handlers_test->CD,wpAny_notOrdered_dict->CG,Result->CL,intBits_le_iff->CM,wpAny_updateSeq_pair->CO,isSubtype_stop->CP,richCompare->CQ,codeAny_extend_loopS->CZ,dictSetDefault->Ca,BindsTo->Cf,callerA->Cg,valueAt->Ch,wpAny_Tuple_spliced->Cj,wpAny_handleBy_cons->Cm,wpAny_standAt->Cv,wpAny_handled->Cz,wpAny_onRaise->DA,call_meets->DF,argsOk->DI,wpAny_getItem_heap->DJ,wpAny_setItem_heap->DL,Within->DM,wpAny_assign_Name->DN,wpAny_pyIter_list->DO,getItem->DS,slot_list_getitem->DT,storedH->DZ,wpAny_pyIter_slot->Db,ItemsOf->De,wpAny_typeOf->Df,wpAny_pyIter_enum->Dh,wpAny_execs_cons->Dn,PassesOwn->Do,getMethod->Dr,cellsFrom->Ds,noFill_tuple_add->Du,wpAny_pyIter_zip->Dy,updateSeq->ED,entryFor_of_tree->EE,eqIsQuiet->EF,wpAny_throw->EL,storedH_new->ER,codeAny_of_tree->Ea,standAt->Ec,entryOfKey->Ef,wpAny_Name->Eh,typeIs_str->Ek,call->El,newExc->Ep,onTheHeap->FF,Str->FG,pyIter->FI
open PySem.W renaming Frag->kF,nsIn->pO,findIn->pY,mg_none_of->pf,fnOf->uG,exmOne->uV,keepIn->uf,emptyDict->uw,codeIn->QP,codeHdIn->Qa,mg_of->Qf,instObj->Qk,codeHd_of_K->Qr,Looks->Uk,tabIn->Um,looks_findIn->Uw,plainGet->hU,callWith_K->gO,hasDictIn->gc,cellsFrom_some->ge,kitOne->gf,mroIn->AF,plainGet_of->AW,isFn->AZ,lookIn->Ai,methodObj->BA,plainOver->BB,excIn->BH,clsIn->BI,hideAll->Bq,takerIn->Br,makesIn->Bt,OpenLaw->By,tabObj->CT,kla_callFunE->CU,kla_codeExpr->CV,hideAll_get->Ci,looks_mroIn->Ck,of_hideAll->DD,codeRec_of->DE,specialIn->DU,handedIn->Dq,kat_cons->EB,takesIn->ET,kat_yes->EY,kat_no->Ew,WalkO->FE
open PySem.Heap renaming get?_push_of_some->kG,get?_push_size->kQ,lt_size->kR,get?_update_ne->pj,get?_update_other->uH,get?_update_self->uM,size_push->QB,SameBut->Qc,size_update->BU,FlyingW->Bi,ExtBut->EK,MadeExcOf->Em,IsTuple->FJ
open List renaming getElem?_eq_getElem->kK,length_map->kL,getElem?_eq_some_iff->kM,length_append->kO,mem_append_right->kT,mem_cons->kX,map_cons->kY,mem_singleton->kf,getElem?_map->kg,size_toArray->kh,getD_eq_getElem?_getD->pB,Nodup->pE,mem_cons_of_mem->pG,length_cons->pH,getElem?_append_right->pJ,length_replicate->pQ,mem_append->pS,map_append->pT,mem_cons_self->pU,getElem?_append_left->pW,lookup_cons->pb,range->pe,not_mem_nil->pi,replicate->uC,mem_of_getElem?->uD,length_zip->uN,length_range->uO,map_map->uP,nodup_cons->uS,zip_cons_cons->uc,pairwise_cons->ue,toArray->uk,getElem?_replicate->ul,append_nil->uo,find?_cons->ur,nodup_append->QA,mem_iff_getElem->QH,getElem?_set_self->QN,ext_getElem?->QT,drop_eq_getElem_cons->QV,length_singleton->QX,getElem?_set_ne->Qg,length_reverse->Qq,length_take->Qx,length_drop->Qz,all_eq_true->UA,getElem?_eq_none->UE,pairwise_iff_getElem->UG,mem_append_left->UJ,mem_map->UM,append_assoc->UN,getElem?_range->UU,mem_range->UV,eq_nil_of_length_eq_zero->Ub,mem_filterMap->Uc,length_set->Ui,getElem?_toArray->Up,getElem?_set->Ut,forIn_cons->gJ,length_nil->gK,lookup->gU,pairwise_singleton->gY,drop_of_length_le->gt,reverse_cons->gu,zipWith_cons_cons->gw,take_of_length_le->gz,of_mem_zip->AQ,filterMap_cons->AV,length_zipWith->AX,forIn_nil->Ap,zip_nil_right->Ar,take_zero->Ay,zip_nil_left->BC,range'->BE,drop_length->Bb,map_nil->Be,zipWith->Bo,all_append->Bz,getElem?_reverse->CI,mem_iff_getElem?->CJ,getElem?_zipWith->CK,drop_eq_nil_iff->CW,range_eq_range'->Cc,map_congr_left->Ct,any_cons->DB,take_add_one->Dj,getElem_inj->Dm,zipIdx_cons->Dx,ext_getElem->Dz,getElem_mem->EC,any_eq_true->EG,range'_succ->EH,length->EJ,mem_filter->ES,zipIdx_nil->EV,drop_zero->Eu,nodup_nil->Ex
open Nat renaming le_refl->kN,lt_of_lt_of_le->ka,ne_of_lt->kc,le_trans->pd,zero_le->uF,le_of_lt->ub,lt_irrefl->Qb,le_succ->Qh,lt_succ_self->hV,ne_of_gt->gZ,add_assoc->BM,lt_of_le_of_lt->DG,not_lt->DH,le_of_eq->DP,lt_succ_of_lt->Da,lt_trichotomy->Dg,succ_pos->Di,sub_self->Dk,min_le_left->EW,add_comm->FK,min_self->FM
open Bool renaming false_ne_true->kZ,false_eq_true->kr,and_eq_true->ui,not_true->Qv,eq_iff_iff->UI,and_false->CN,or_false->Cy,eq_false_iff->DV
open PySem.Value renaming ref->ki,none->pN,type->uj,builtin->Ul,int->Ce,str->Dl,bool->Ee,isStrOf->FA,isInt->FN,bytes->FO,float->FP
open PySem.Obj renaming mapSeq->kj,data_mapFields->gR,isFreed_of_fields->CF,data_mapDictKeys->Cb,mapFields->DC,cls_mapFields->DW
open PyProof.Rows renaming seqObj->ko,callWith_type1->py,envOfC->QL,listItems_at->QS,get?_update_seq->Qn,IntsAre->UD,AllBare->AY,listUpdate_at->BK,SortKind->BT,subscriptTail_builtinR->Bg,call_function_entry_kw->Bj,lt_int->Cn,wpAny_call_entry_kw->Co,getElem?_mirror_all->Cp,subscriptTail->Cw,callWith_kw->EM,mirror_size->EQ,entry_list_sort->EX,sortedS->Ed,boot_range->Ei,Subscript_->Ej,keyKind'->Es,SortSt->Et,size_push'->Ev
open PySem.Str renaming ofString->kx
open PySem.PassesOwn renaming never->pF
open Option.some renaming inj->pL
open PySem.NameKind renaming free->pM,cell->AG
open Array renaming getElem?_eq_getElem->pR,getD_eq_getD_getElem?->pz,getElem?_toList->uR,getElem?_eq_none->ud,length_toList->US,toList_append->UT,forIn_toList->Ax,replicate->Bw,size_append->Dd,toList_inj->EA,getD->Er,toList->FH
open PySem.Builtin.List renaming listExtendWith->uA,listTooLong->Qd,listSameRef->UR,listItems->Ug,listLengthHint->Ac,listUpdate->BY
open Lean renaming maxHeartbeats->uI
open PySem.PyData renaming canLayAll0->uJ,eqv->QE,depthAll->Qm,int->Uf,depth->gj,str->Bp,canLay0->CS,tuple->DY,eqvAll->FB
open False renaming elim->uK
open PySem.Calls renaming spliced_cons->uL,spliced_nil->Ur,evalArgs_plain->Ux,Name_function_global->Af,callWith_builtin->Bh
open Or renaming inr->uU,inl->QZ
open PySem.Builtin.SmallTypes renaming nextOf->uZ,ownedTupleIsFree->QC,ownedTupleHandOut->hX
open PySem.SeqAt renaming shaped->ut,eqBoolOverData->As
open PySem.Builtin.Tuple renaming tupleHashOf->uu,tupleCompareSizes->AA
open PySem.Heap.SameBut renaming update->uv
open PySem.F renaming slot_dict_keyiterator_next->QF,plainAttrs_list->Qj,slot_tuple_iterator_next->UB,plain_max_loop->UX,slot_tuple_hash->UZ,slot_tuple_eq->Uq,args_dict_keyiterator_next_1->hZ,entry_dict_keyiterator_next->gC,slot_list_extend->gE,slot_list_append->gF,type_list_append->gG,args_tuple_iterator_next_1->AR,slot_zip_next->AS,slot_dict_setdefault->AU,entry_tuple_iterator_next->Aa,excBase_ValueError->Am,slot_dict_getitem->Az,args_tuple_add_2->BF,args_list_init_2->BL,type_list_extend->BN,entry_tuple_add->BQ,entry_max_loop->BW,typeCall_list_1->BZ,entry_list_init->Ba,slot_tuple_add->Bd,slot_dict_iter->Bl,slot_list_lt->CY,plain_extend_loop->Cq,called_list->Cr,args_zip_next_1->DX,entry_zip_next->Dw
open PySem.Around renaming under_plainId->QI,frames_deeper->AJ,under->DQ
open Prod renaming fst->QJ,ext->Ey
open Sum renaming inr->QK,inl->Cd
open Ne renaming symm->QM
open Int renaming toNat_natCast->QR,fmod_nonneg_of_pos->Qt,fmod_lt_of_pos->Uh,toNat_of_nonneg->Cu,le_refl->EO,le_antisymm->Eb
open PySem.MeetsSeq3 renaming plain_eq_loop->UY,entry_eq_loop->BX
open True renaming intro->Ud
open PySem.Paired renaming length->Uj,snoc->EN
open PySem.W.Looks renaming ld->AD,here->Aj
open PySem.Builtin.Dict_items renaming ownsTuple->AT
open PySem.Builtin.Builtins renaming bindParams->Ab
open ToString renaming toString->Ah
open PySem.Code renaming quiet_builtin->An,isFrame->DR,frames->FQ
open PySem.Scope renaming names->BD
open PySem.AutoSeq1 renaming sub_tuple_tuple->BJ,sub_list_list->Bm
open PySem.Data renaming cell->BO,fields->EI,seq->FS
open PySem.Builtin.Range renaming rangeSize->BP
open PySem.Heap.UpToSlots renaming of_keeps->BR
open PySem.Builtin.Dict renaming showsAll->CH
open ForInStep renaming yield->EU
open List.cons renaming injEq->EZ
open PySem.Bind renaming checkArgs->Eo
open PySem.Manifest renaming find?->Ez
open PySem.Shared renaming TypeIs->FC,heap->FR
open PySem.Moved renaming eq_with->FD
open Iff renaming rfl->FL
open PySem.ItemsOf renaming nil->FT
set_option Elab.async false
set_option linter.all false
set_option maxRecDepth 100000
set_option maxHeartbeats 4000000
namespace L2
open PySem PySem.Spec PyProof.Rows
abbrev Key:=Sum Int Str
def vf:Key->kC->Bool
 |.inl k,v=>FN k v
 |.inr x,v=>FA x v
def keyH(w:kq):Key->Int
 |.inl k=>hashInt k
 |.inr x=>hashStr w x
theorem wc:∀{k:Key}{v:kC},vf k v=true->(∃i t,k=Cd i/\v=Ce i t)∨(∃x t,k=QK x/\v=Dl x t)
 |.inl i,v,h=>by
  obtain⟨t,e⟩:=Value.isInt_shape (k:=i) (v:=v) h;exact .inl ⟨i,t,rfl,e⟩
 |.inr x,v,h=>by
  obtain⟨t,e⟩:=Value.isStrOf_shape (x:=x) (v:=v) h;exact .inr ⟨x,t,rfl,e⟩
def zcw(i:Int)(t:Tok):vf (.inl i) (.int i t)=true:=by simp[vf,FN]
def ze7(x:Str)(t:Tok):vf (.inr x) (.str x t)=true:=by simp[vf,FA]
def key_ll(a b:Int):decide ((Cd a:Key)=Cd b)=(a==b):=by
 by_cases e:a=b
 ·subst e;simp
 ·have h:¬(Cd a:Key)=Cd b:=λq=>e (Sum.inl.inj q);rw[decide_eq_false h];exact(beq_eq_false_iff_ne.mpr e).symm
def key_rr(a b:Str):decide ((QK a:Key)=QK b)=decide (a=b):=by
 by_cases e:a=b
 ·subst e;simp
 ·have h:¬(QK a:Key)=QK b:=λq=>e (Sum.inr.inj q);rw[decide_eq_false h,decide_eq_false e]
def key_lr(a:Int)(b:Str):decide ((Cd a:Key)=QK b)=false:=decide_eq_false (λq=>nomatch q)
def key_rl(a:Str)(b:Int):decide ((QK a:Key)=Cd b)=false:=decide_eq_false (λq=>nomatch q)
def yA(prog:kW)(w:kq):PySem.KeyKind prog w Key where
 is:=vf
 hash:=keyH w
 inj:=λv a b ha hb=>by
  rcases wc ha with⟨i,t,rfl,rfl⟩|⟨x,t,rfl,rfl⟩
  ·rcases wc hb with⟨j,u,rfl,e⟩|⟨y,u,rfl,e⟩
   ·injection e with e1 _;rw[e1]
   ·exact nomatch e
  ·rcases wc hb with⟨j,u,rfl,e⟩|⟨y,u,rfl,e⟩
   ·exact nomatch e
   ·injection e with e1 _;rw[e1]
 byValue:=λk v h=>by
  rcases wc h with⟨i,t,rfl,rfl⟩|⟨x,t,rfl,rfl⟩<;>rfl
 pyHash:=λhv h=>by
  rcases wc hv with⟨i,t,rfl,rfl⟩|⟨x,t,rfl,rfl⟩
  ·exact wpAny_pyHash_int h
  ·exact wpAny_pyHash_str h
 eqBool:=λhu hv h=>by
  rcases wc hu with⟨i,t,rfl,rfl⟩|⟨x,t,rfl,rfl⟩
  ·rcases wc hv with⟨j,u,rfl,rfl⟩|⟨y,u,rfl,rfl⟩
   ·rw[key_ll] at h;exact wpAny_eqBool_int h
   ·rw[key_lr] at h;exact SeqAt.EqAt.int_str i t y u _ _ _ _ h
  ·rcases wc hv with⟨j,u,rfl,rfl⟩|⟨y,u,rfl,rfl⟩
   ·rw[key_rl] at h;exact SeqAt.EqAt.str_int x t j u _ _ _ _ h
   ·rw[key_rr] at h;exact wpAny_eqBool_str h
 «strs»:=λk x t v h=>by
  rcases wc h with⟨i,u,rfl,e⟩|⟨y,u,rfl,e⟩
  ·exact nomatch e
  ·injection e with e1 _
   subst e1
   cases v<;>rfl
def zal(prog:kW)(w:kq)(i:Int)(t:Tok):(yA prog w).is (.inl i) (.int i t)=true:=zcw i t
def zdw(prog:kW)(w:kq)(x:Str)(t:Tok):(yA prog w).is (.inr x) (.str x t)=true:=ze7 x t
inductive V where
 |non|bl (b:Bool)|int (i:Int)|str (x:Str)|byt (b:Array UInt8)|flt (b:UInt64)|ref (a:Addr)|ty (n:String)
 deriving DecidableEq
def zt:V->kC->Prop
 |.non,u=>u=pN
 |.bl b,u=>u=Ee b
 |.int i,u=>∃t,u=Ce i t
 |.str x,u=>∃t,u=Dl x t
 |.byt b,u=>∃t,u=FO b t
 |.flt b,u=>∃t,u=FP b t
 |.ref a,u=>u=ki a
 |.ty n,u=>u=uj n
abbrev zr:List V->List kC->Prop:=Ae zt
def zr.length{xs:List V}{us:List kC}(r:zr xs us):xs.length=us.length:=Uj r
theorem zr.get:∀{xs:List V}{us:List kC}{i:Nat}{x:V},zr xs us->xs[i]?=some x->∃u,us[i]?=some u/\zt x u
 |_,_,_,_,.nil,e=>by simp at e
 |_,_,0,_,.cons r _,e=>by simp at e;subst e;exact⟨_,rfl,r⟩
 |_,_,i+1,x,.cons _ t,e=>by
  obtain⟨u,h1,h2⟩:=zr.get (i:=i) (x:=x) t (by simpa using e)
  exact⟨u,by simpa using h1,h2⟩
theorem zr.append:∀{xs ys:List V}{us ws:List kC},zr xs us->zr ys ws->zr (xs++ys) (us++ws)
 |_,_,_,_,.nil,s=>s
 |_,_,_,_,.cons r t,s=>.cons r (zr.append t s)
theorem zr.take:∀{xs:List V}{us:List kC}(n:Nat),zr xs us->zr (xs.take n) (us.take n)
 |_,_,0,_=>.nil
 |_,_,_+1,.nil=>.nil
 |_,_,n+1,.cons r t=>.cons r (zr.take n t)
theorem zr.drop:∀{xs:List V}{us:List kC}(n:Nat),zr xs us->zr (xs.drop n) (us.drop n)
 |_,_,0,r=>r
 |_,_,_+1,.nil=>.nil
 |_,_,n+1,.cons _ t=>zr.drop n t
def yT:Option V->Option kC->Prop
 |some v,some u=>zt v u
 |none,none=>True
 |_,_=>False
def KV{κ:Type}:List (κ×V)->List (κ×kC)->Prop:=Ae λ(p:κ×V)(q:κ×kC)=>p.1=q.1/\zt p.2 q.2
def kV:Key->V
 |.inl i=>.int i
 |.inr x=>.str x
inductive HO where
 /--a list-/
 |lst (xs:List V)
 /--a tuple (never changes)-/
 |tup (xs:List V)
 /--a dict whose keys are ints and texts;one whose keys are tuples of ints and texts (the empty one is both)-/
 |dK (kvs:List (Key×V))|dT (kvs:List (List Key×V))
 /--a set of ints:its members,its size-/
 |set (S:Int->Bool) (n:Nat)
 /--an instance of the class at C,its dict at dx,its attributes-/
 |ins (C dx:Addr) (fs:List (Str×V))
 /--the dict of the instance at x-/
 |own (x:Addr)
 /--the dict of an exception-/
 |xd (fs:List (Str×V))
 /--a bound method,f of x-/
 |met (f x:Addr)
 /--a range object lo,lo+1,.. below hi-/
 |rng (lo hi:Int)
 /--a thing that is known to the object (the script;a dict while a loop walks it):read,never written while it is so-/
 |frz (o:Obj) (u:HO)
 /--a code object's table-/
 |tbl (ps:Array kC)
 /--any other thing,by what is true of its one object (a def of one's own:SetO a S n:=HO.ext λh=>..)-/
 |ext (φ:Heap->Prop)
abbrev Hp:=Addr->Option HO
def upd(H:Hp)(a:Addr)(o:HO):Hp:=λb=>if b=a then some o else H b
def zM{H:Hp}{a:Addr}{o:HO}:upd H a o a=some o:=by unfold upd;rw[if_pos rfl]
def zp{H:Hp}{a b:Addr}{o:HO}(h:b≠a):upd H a o b=H b:=by unfold upd;rw[if_neg h]
def ne_of{H:Hp}{a b:Addr}{o u:HO}(h:H a=some o)(h':H b=some u)(d:o≠u):a≠b:=by
 intro e;subst e;rw[h] at h';exact d (pL h')
def yK{H:Hp}{a b:Addr}{o:HO}(h:H a=some o)(h':H b=none):a≠b:=by
 intro e;subst e;rw[h] at h';cases h'
section
variable(P:kW)(w:kq)
def zV(H:Hp)(h:Heap)(a:Addr):HO->Prop
 |.lst xs=>xs.length<=sizeLine/\∃(its:List kC)(n:Nat),zr xs its/\h.get? a=some {cls:=.type "list",data:=.seq its.toArray n}
 |.tup xs=>xs.length<=sizeLine/\∃its:List kC,zr xs its/\IsTup h a its.toArray
 |.dK kvs=>kvs.length<=sizeLine/\(a==ua)=false/\∃vs,KV kvs vs/\h.DictOf (yA P w) a vs
 |.dT kvs=>kvs.length<=sizeLine/\(a==ua)=false/\∃xs:List (List Key×Addr×kC),
   Ae (λ(p:List Key×V)(q:List Key×Addr×kC)=>p.1=q.1/\H q.2.1=some (.tup (p.1.map kV))/\zt p.2 q.2.2) kvs xs/\
   ∃o es ep,h.get? a=some o/\o.ExactDict/\o.data=.dict es ep/\es.toList=xs.map (Ef (gS (yA P w)))/\(xs.map (·.1)).Nodup
 |.set S n=>h.SetOf (intKind P w) a S n
 |.ins C dx fs=>H dx=some (.own a)/\fs.length<=1000/\dx≠a/\h.get? a=some (Qk C dx)/\
   ∃mA,h.Ns1 dx mA/\(∀f,yT (fs.lookup f) (mA f))/\DM mA (fs.map (·.1))
 |.own _=>∃o,h.get? a=some o
 |.xd fs=>∃mA,h.Ns1 a mA/\∀f,yT (fs.lookup f) (mA f)
 |.rng lo hi=>∃t u v,h.get? a=some {cls:=.type "range",data:=.fields #[.int lo t,.int hi u,.int 1 v]}
 |.frz o u=>h.get? a=some o/\zV H h a u
 |.tbl ps=>h.get? a=some {cls:=.none,data:=.fields ps}
 |.met f x=>h.get? a=some (BA (.ref f) (.ref x))
 |.ext φ=>φ h/\(∃o,h.get? a=some o)/\∀h1 h2:Heap,φ h1->(∀o,h1.get? a=some o->h2.get? a=some o)->φ h2
def HOk(H:Hp)(h:Heap):Prop:=∀a o,H a=some o->zV P w H h a o
end
section
variable{P:kW}{w:kq}{H H':Hp}{h h':Heap}{a:Addr}{o:HO}
theorem zV.lt(x:zV P w H h a o):a<h.objs.size:=by
 cases o with
 |lst xs=>obtain⟨_,_,_,_,e⟩:=x;exact kR e
 |tup xs=>obtain⟨_,_,_,p⟩:=x;exact p.lt
 |dK kvs=>obtain⟨_,_,_,_,o,_,_,e,_⟩:=x;exact kR e
 |dT kvs=>obtain⟨_,_,_,_,o,_,_,e,_⟩:=x;exact kR e
 |set S n=>obtain⟨o,_,_,_,e,_⟩:=x;exact kR e
 |ins C dx fs=>obtain⟨_,_,_,e,_⟩:=x;exact kR e
 |own y=>obtain⟨_,e⟩:=x;exact kR e
 |xd fs=>obtain⟨_,⟨_,_,_,e,_⟩,_⟩:=x;exact kR e
 |rng lo hi=>obtain⟨_,_,_,e⟩:=x;exact kR e
 |frz ob u=>obtain⟨e,_⟩:=x;exact kR e
 |tbl ps=>exact kR (show h.get? a=some _ from x)
 |met f y=>exact kR (show h.get? a=some _ from x)
 |ext φ=>obtain⟨_,⟨_,e⟩,_⟩:=x;exact kR e
theorem Paired.mapP{α β:Type}{F G:α->β->Prop}:∀{l₁:List α}{l₂:List β},Ae F l₁ l₂->(∀a b,F a b->G a b)->Ae G l₁ l₂
 |_,_,.nil,_=>.nil
 |_,_,.cons r t,f=>.cons (f _ _ r) (Paired.mapP t f)
theorem zV.stay(x:zV P w H h a o)(k:∀b u,(b=a∨H b=some (.own a))->h.get? b=some u->h'.get? b=some u)
  (ho:∀b,H b=some (.own a)->H' b=some (.own a))(ht:∀b xs,H b=some (.tup xs)->H' b=some (.tup xs)):zV P w H' h' a o:=by
 induction o with
 |lst xs=>obtain⟨z,its,n,r,e⟩:=x;exact⟨z,its,n,r,k _ _ (.inl rfl) e⟩
 |tup xs=>obtain⟨z,its,r,ob,e,c⟩:=x;exact⟨z,its,r,ob,k _ _ (.inl rfl) e,c⟩
 |dK kvs=>obtain⟨z,y,vs,r,ob,es,ep,e,c⟩:=x;exact⟨z,y,vs,r,ob,es,ep,k _ _ (.inl rfl) e,c⟩
 |dT kvs=>
  obtain⟨z,y,xs,r,ob,es,ep,e,c⟩:=x;exact⟨z,y,xs,Paired.mapP r λp q z=>⟨z.1,ht _ _ z.2.1,z.2.2⟩,ob,es,ep,k _ _ (.inl rfl) e,c⟩
 |set S n=>obtain⟨ob,es,ep,t,e,c⟩:=x;exact⟨ob,es,ep,t,k _ _ (.inl rfl) e,c⟩
 |ins C dx fs=>
  obtain⟨d,z,ne,e,mA,⟨od,es,ep,e2,c⟩,r⟩:=x;exact⟨ho _ d,z,ne,k _ _ (.inl rfl) e,mA,⟨od,es,ep,k _ _ (.inr d) e2,c⟩,r⟩
 |own y=>obtain⟨ob,e⟩:=x;exact⟨ob,k _ _ (.inl rfl) e⟩
 |xd fs=>obtain⟨mA,⟨od,es,ep,e,c⟩,r⟩:=x;exact⟨mA,⟨od,es,ep,k _ _ (.inl rfl) e,c⟩,r⟩
 |rng lo hi=>obtain⟨t,u,v,e⟩:=x;exact⟨t,u,v,k _ _ (.inl rfl) e⟩
 |frz ob u ih=>obtain⟨e,q⟩:=x;exact⟨k _ _ (.inl rfl) e,ih q⟩
 |tbl ps=>
  have e:h.get? a=some {cls:=.none,data:=.fields ps}:=x;show h'.get? a=some {cls:=.none,data:=.fields ps};exact k a _ (.inl rfl) e
 |met f y=>
  have e:h.get? a=some (BA (.ref f) (.ref y)):=x;show h'.get? a=some (BA (.ref f) (.ref y));exact k a _ (.inl rfl) e
 |ext φ=>obtain⟨p,⟨o,e⟩,st⟩:=x;exact⟨st _ _ p λo q=>k _ _ (.inl rfl) q,⟨o,k _ _ (.inl rfl) e⟩,st⟩
def HOk.lt(x:HOk P w H h)(e:H a=some o):a<h.objs.size:=(x a o e).lt
theorem HOk.fresh(x:HOk P w H h)(e:h.objs.size<=a):H a=none:=by
 cases q:H a with
 |none=>rfl
 |some u=>exact absurd (ka (x.lt q) e) (Qb _)
def HOk.kept(x:HOk P w H h)(k:∀b u,h.get? b=some u->h'.get? b=some u):HOk P w H h':=λa o e=>
 (x a o e).stay (λb u _ q=>k b u q) (λ_ q=>q) λ_ _ q=>q
def HOk.laid(x:HOk P w H h)(k:∀b u,h.get? b=some u->h'.get? b=some u)(hp:h.objs.size<=a)(new:zV P w (upd H a o) h' a o):HOk P w (upd H a o) h':=λb u e=>by
 have hn:=x.fresh hp
 by_cases hb:b=a
 ·subst hb;rw[zM] at e;cases e;exact new
 ·rw[zp hb] at e;exact(x b u e).stay (λc v _ q=>k c v q) (λc q=>by rw[zp (yK q hn)];exact q) λc xs q=>by rw[zp (yK q hn)];exact q
end
def Rd(H:Hp)(a:Addr)(u:HO):Prop:=H a=some u∨∃o,H a=some (.frz o u)
def Rd.of{H:Hp}{a:Addr}{u:HO}(h:H a=some u):Rd H a u:=.inl h
def Rd.ok{P:kW}{w:kq}{H:Hp}{h:Heap}{a:Addr}{u:HO}(r:Rd H a u)(x:HOk P w H h):zV P w H h a u:=by
 rcases r with r|⟨o,r⟩
 ·exact x a u r
 ·obtain⟨_,q⟩:=x a _ r;exact q
def Mut:Option HO->Prop
 |some (.lst _)=>True
 |some (.dK _)=>True
 |some (.dT _)=>True
 |some (.set _ _)=>True
 |some (.ins _ _ _)=>True
 |some (.ext _)=>True
 |_=>False
section
variable{P:kW}{w:kq}{H:Hp}{h h':Heap}{x e:Addr}{o':HO}
def HOk.write(ok:HOk P w H h)(mu:Mut (H x))(he:e=x∨H e=some (.own x))(k:∀b u,b≠e->h.get? b=some u->h'.get? b=some u)(heo:∃u,h'.get? e=some u)
  (new:zV P w (upd H x o') h' x o'):HOk P w (upd H x o') h':=λb u q=>by
 have nown:∀c y,H c=some (.own y)->c≠x:=λc y r z=>by subst z;rw[r] at mu;exact mu
 have ntup:∀c xs,H c=some (.tup xs)->c≠x:=λc xs r z=>by subst z;rw[r] at mu;exact mu
 by_cases hb:b=x
 ·subst hb;rw[zM] at q;cases q;exact new
 ·rw[zp hb] at q
  by_cases hbe:b=e
  ·have q':H b=some (.own x):=by
    rcases he with z|z
    ·exact absurd (hbe.trans z) hb
    ·rw[hbe];exact z
   rw[q] at q';cases q';obtain⟨v,hv⟩:=heo;exact⟨v,by rw[hbe];exact hv⟩
  ·refine(ok b u q).stay (λc v hc r=>k c v ?_ r) (λc r=>by rw[zp (nown c b r)];exact r) λc xs r=>by rw[zp (ntup c xs r)];exact r
   rcases hc with rfl|hc
   ·exact hbe
   ·rintro rfl;rcases he with z|z
    ·exact nown c b hc z
    ·rw[hc] at z;cases z;exact hb rfl
end
structure Un(fs ex:List Addr)(H H':Hp)(h h':Heap):Prop where
 keep:∀b o,h.get? b=some o->H b=none->b∉fs->b∉ex->h'.get? b=some o
 slot:∀b o,h.get? b=some o->H b=none->b∈fs->b∉ex->∃sl,h'.get? b=some {o with slots:=sl}
 free:∀b o,h.get? b=some o->H b=none->b∉ex->H' b=none
 there:∀b o,h.get? b=some o->b∉ex->∃o',h'.get? b=some o'
 tups:∀b xs,H b=some (.tup xs)->H' b=some (.tup xs)
 frzs:∀b o u,H b=some (.frz o u)->H' b=some (.frz o u)
 tbls:∀b ps,H b=some (.tbl ps)->∃more,H' b=some (.tbl (ps++more))
section
variable{fs fs' ex ex':List Addr}{H H1 H2:Hp}{h h1 h2 h':Heap}{a x e:Addr}{o:HO}
def Un.any(u:Un fs ex H H1 h h1){b:Addr}{ob:Obj}(q:h.get? b=some ob)(n:H b=none)(hx:b∉ex):∃sl,h1.get? b=some {ob with slots:=sl}:=by
 by_cases hb:b∈fs
 ·exact u.slot b ob q n hb hx
 ·exact⟨ob.slots,u.keep b ob q n hb hx⟩
def Un.kept(k:∀b u,h.get? b=some u->h'.get? b=some u):Un fs ex H H h h':=
 ⟨λb ob q _ _ _=>k b ob q,λb ob q _ _ _=>⟨ob.slots,k b ob q⟩,λ_ _ _ n _=>n,λb ob q _=>⟨ob,k b ob q⟩,λ_ _ q=>q,λ_ _ _ q=>q,λ_ ps q=>⟨#[],by rw[q];simp⟩⟩
def Un.refl:Un fs ex H H h h:=Un.kept λ_ _ q=>q
def Un.laid(k:∀b u,h.get? b=some u->h'.get? b=some u)(hp:h.objs.size<=a)(hn:H a=none):Un fs ex H (upd H a o) h h' where
 keep:=λb u q _ _ _=>k b u q
 slot:=λb u q _ _ _=>⟨u.slots,k b u q⟩
 free:=λb u q n _=>by rw[zp (kc (ka (kR q) hp))];exact n
 there:=λb u q _=>⟨u,k b u q⟩
 tups:=λb xs q=>by rw[zp (yK q hn)];exact q
 frzs:=λb u xs q=>by rw[zp (yK q hn)];exact q
 tbls:=λb ps q=>⟨#[],by rw[zp (yK q hn),q];simp⟩
def Un.write(mu:Mut (H x))(he:e=x∨H e=some (.own x))(k:∀b u,b≠e->h.get? b=some u->h'.get? b=some u)(heo:∃u,h'.get? e=some u):Un fs ex H (upd H x o) h h':=by
 have hx:∀b,H b=none->b≠x:=λb n z=>by subst z;rw[n] at mu;exact mu
 have hb:∀b,H b=none->b≠e:=λb n z=>by
  subst z;rcases he with r|r
  ·exact hx b n r
  ·rw[n] at r;cases r
 have hm:∀b u,H b=some u->¬Mut (some u)->b≠x:=λb u q nm z=>by subst z;rw[q] at mu;exact nm mu
 refine⟨λb u q n _ _=>k b u (hb b n) q,λb u q n _ _=>⟨u.slots,k b u (hb b n) q⟩,λb u q n _=>by rw[zp (hx b n)];exact n,λb u q _=>?_,
  λb xs q=>by rw[zp (hm b _ q λz=>z)];exact q,λb u xs q=>by rw[zp (hm b _ q λz=>z)];exact q,λb ps q=>⟨#[],by rw[zp (hm b _ q λz=>z),q];simp⟩⟩
 by_cases hbe:b=e
 ·subst hbe;exact heo
 ·exact⟨u,k b u hbe q⟩
end
def trk(h:Heap)(H:Hp):List Addr:=(pe h.objs.size).filter λa=>(H a).isSome
def x8(h:Heap)(H:Hp):Heap:=Bq h (trk h H)
def zei(h:Heap)(H:Hp):(x8 h H).objs.size=h.objs.size:=PySem.W.hideAll_size _ _
def zcq{h:Heap}{H:Hp}{b:Addr}{o:Obj}(e:h.get? b=some o)(n:H b=none):(x8 h H).get? b=some o:=
 Ci _ e λhm=>by
  have q:(H b).isSome=true:=(ES.mp hm).2;rw[n] at q;simp at q
theorem of_hidT{h:Heap}{H:Hp}{b:Addr}{o:Obj}(e:(x8 h H).get? b=some o):h.get? b=some o/\H b=none:=by
 have e':h.get? b=some o:=DD (trk h H) e;refine⟨e',?_⟩
 cases q:H b with
 |none=>rfl
 |some x=>
  have hm:b∈trk h H:=List.mem_filter.mpr ⟨UV.mpr (kR e'),by simp[q]⟩
  have z:(x8 h H).get? b=none:=PySem.W.hideAll_none (trk h H) hm;rw[z] at e;cases e
def allNews(g h:Heap)(L:Addr):List (Addr×Obj):=(pe h.objs.size).filterMap λa=>if a=L∨(g.get? a).isSome=true then none else(h.get? a).map λo=>(a,o)
def rest(g h:Heap)(L d:Addr):List (Addr×Obj):=(allNews g h L).filter λp=>decide (p.1≠d)
structure Mod(K:kF)(mg:Str->Option kC)(base:Heap):Prop where
 kin:K.In base
 glob:base.Ns km mg
 blt:∃mb,base.Ns Bc mb/\∀x:Str,x≠"__name__"->mb x=pp x
 nolimit:base.NoLimit
structure Cx where
 prog:kW
 w:kq
 K:kF
 mg:Str->Option kC
 base:Heap
 A:pI
 N:List Str
 s₀:kE
 H₀:Hp
 env:Env
 outer:List Env
 stack:List Env
 ex:List Addr
 fn:Str->Bool
 calm:Bool
 pn:List (Addr×Obj)
 xe:kC->kE->Prop
def frs(l:List Env):List Addr:=l.filterMap (·.frame)
abbrev Cx.fs(X:Cx):List Addr:=frs X.outer
def Vis(sc:Scope)(x:Str):Prop:=sc.names.lookup x=some .local∨sc.names.lookup x=some .cell∨sc.names.lookup x=some .free
def Loc(sc:Scope)(x:Str):Prop:=sc.names.lookup x=some .local∨sc.names.lookup x=some .cell
def Look(env:Env)(h:Heap)(m:Str->Option kC)(x:Str)(u:kC):Prop:=
 (env.kindOf x=some .local/\m x=some u)∨((env.kindOf x=some .cell∨env.kindOf x=some .free)/\∃c,env.cells.lookup x=some c/\h.IsCell c (some u))
structure Cx.Ok(X:Cx):Prop where
 mod:Mod X.K X.mg X.base
 kind:X.env.scope.kind=.function
 glob:X.env.globals=km
 blt:X.env.builtins=Bc
 above:X.s₀.heap.objs.size<=X.env.locals
 inj:∀x y c,X.env.cells.lookup x=some c->X.env.cells.lookup y=some c->x=y
 has:∀x,(X.env.kindOf x=some .cell∨X.env.kindOf x=some .free)->∃c,X.env.cells.lookup x=some c
 cab:∀x c,X.fn x=true->X.env.cells.lookup x=some c->X.s₀.heap.objs.size<=c
 hd:X.calm=true->X.A.handled=none
 frames:X.A.frames=some X.stack
 stk:X.stack=X.outer∨(X.stack=X.env::X.outer/\X.env.frame=some X.env.locals)
 exf:∀b∈X.ex,b≠X.env.locals/\∀x c,X.env.cells.lookup x=some c->c≠b
 bs:∀b o,X.base.get? b=some o->X.s₀.heap.get? b=some o/\X.H₀ b=none
 bsz:X.base.objs.size<=X.s₀.heap.objs.size
 noex:∀b o,X.base.get? b=some o->b∉X.ex
 exfs:∀b∈X.ex,b∉X.fs
 funs:X.s₀.heap.FunFrames X.base X.outer
 frf:∀b∈X.fs,X.H₀ b=none
structure Inv(X:Cx)(pins:List (Addr×Obj))(σ:List (Option V))(H:Hp)(s:kE):Prop where
 ok:X.Ok
 os:s.os=X.s₀.os
 bare:AY s.gens
 base:Un X.fs X.ex X.H₀ H X.s₀.heap s.heap
 loc:∃m,s.heap.Ns X.env.locals m/\∀(i:Nat)(x:Str)(v:V),X.N[i]?=some x->σ[i]?=some (some v)->Vis X.env.scope x->∃u,zt v u/\Look X.env s.heap m x u
 cell:∀x c,X.env.cells.lookup x=some c->∃v,s.heap.IsCell c v
 free:H X.env.locals=none
 freeC:∀x c,X.env.cells.lookup x=some c->H c=none
 pin:∀p∈X.pn++pins,s.heap.get? p.1=some p.2/\H p.1=none/\p.1≠X.env.locals/\p.1∉X.fs/\∀v,p.2.data≠.cell v
 hok:HOk X.prog X.w H s.heap
 len:σ.length=X.N.length
variable{g':Array GenState}{t':Nat}{ch:List Addr}{M:Model}
section
variable{X:Cx}{pins:List (Addr×Obj)}{σ:List (Option V)}{H H':Hp}{s:kE}{h':Heap}
def Cx.Ok.nofr(ok:X.Ok){b:Addr}{o:Obj}(e:X.base.get? b=some o):b∉X.fs:=λhb=>by
 have:=(ok.funs.mem hb).1;rw[e] at this;cases this
def Inv.bs(I:Inv X pins σ H s):∀b o,X.base.get? b=some o->s.heap.get? b=some o/\H b=none:=λb o e=>
 ⟨I.base.keep b o (I.ok.bs b o e).1 (I.ok.bs b o e).2 (I.ok.nofr e) (I.ok.noex b o e),I.base.free b o (I.ok.bs b o e).1 (I.ok.bs b o e).2 (I.ok.noex b o e)⟩
def Inv.bk(I:Inv X pins σ H s):∀b o,X.base.get? b=some o->s.heap.get? b=some o:=λb o e=>(I.bs b o e).1
def Inv.mod(I:Inv X pins σ H s):Mod X.K X.mg X.base:=I.ok.mod
def Inv.kIn(I:Inv X pins σ H s):X.K.In s.heap:=I.ok.mod.kin.keeps I.bk
def Inv.nolimit(I:Inv X pins σ H s):s.heap.NoLimit:=I.ok.mod.nolimit.keeps I.bk
def Inv.lt(I:Inv X pins σ H s):X.env.locals<s.heap.objs.size:=let⟨_,hn,_⟩:=I.loc;hn.lt
def Inv.sz(I:Inv X pins σ H s):X.s₀.heap.objs.size<=s.heap.objs.size:=pd I.ok.above (ub I.lt)
def Inv.nofs(I:Inv X pins σ H s){a:Addr}(h:s.heap.objs.size<=a):a∉X.fs:=λhb=>by
 obtain⟨_,o,ho,_⟩:=I.ok.funs.mem hb;exact absurd (ka (kR ho) (pd I.sz h)) (Qb _)
def Inv.cne(I:Inv X pins σ H s):∀x c,X.env.cells.lookup x=some c->c≠X.env.locals:=λx c e z=>by
 obtain⟨v,o,ho,hd⟩:=I.cell x c e;obtain⟨m,⟨o',es,ep,ho',hd',_⟩,_⟩:=I.loc;rw[z,ho'] at ho;cases ho;rw[hd'] at hd;cases hd
theorem Inv.funs(I:Inv X pins σ H s):s.heap.FunFrames X.base X.outer:=by
 have all:∀(l:List Env),(∀b∈frs l,b∈X.fs)->X.s₀.heap.FunFrames X.base l->s.heap.FunFrames X.base l:=by
  intro l
  induction l with
  |nil=>intro _ _;trivial
  |cons env r ih=>
   intro hs hl;obtain⟨hk,⟨L,o,hf,hn,ho,hd⟩,hr⟩:=hl;have hL:L∈X.fs:=hs L (by unfold frs;rw[AV,hf];exact pU)
   obtain⟨sl,e⟩:=I.base.slot L o ho (I.ok.frf L hL) hL λz=>I.ok.exfs L z hL;exact⟨hk,⟨L,_,hf,hn,e,hd⟩,ih (λb hb=>hs b (by unfold frs;rw[AV,hf];exact pG _ hb)) hr⟩
 exact all X.outer (λ_ hb=>hb) I.ok.funs
def Inv.stack(I:Inv X pins σ H s):s.heap.FunFrames X.base X.stack:=by
 rcases I.ok.stk with e|⟨e,hf⟩
 ·rw[e];exact I.funs
 ·rw[e];obtain⟨m,hn,_⟩:=I.loc;refine .cons (by rw[I.ok.kind];decide) hf hn ?_ I.funs
  exact Heap.get?_none_of_le (pd I.ok.bsz I.ok.above)
def Inv.stkSub(I:Inv X pins σ H s):∀b∈frs X.stack,b∈X.env.locals::X.fs:=λb hb=>by
 rcases I.ok.stk with e|⟨e,hf⟩
 ·rw[e] at hb;exact pG _ hb
 ·rw[e] at hb;unfold frs at hb;rw[AV,hf] at hb;exact hb
def Inv.stkFree(I:Inv X pins σ H s):∀b∈frs X.stack,H b=none:=λb hb=>by
 rcases kX.mp (I.stkSub b hb) with e|hb
 ·rw[e];exact I.free
 ·obtain⟨_,o,ho,_⟩:=I.ok.funs.mem hb;exact I.base.free b o ho (I.ok.frf b hb) λz=>I.ok.exfs b z hb
def Inv.step{d':Drawn}(I:Inv X pins σ H s)
  (hch:∀b∈ch,(b∈X.ex∨X.s₀.heap.objs.size<=b)/\b≠X.env.locals/\(∀x c,X.env.cells.lookup x=some c->c≠b)/\∀p∈X.pn++pins,p.1≠b)
  (keep:∀b o,b≠X.env.locals->b∉X.fs->b∉ch->s.heap.get? b=some o->H b=none->h'.get? b=some o)
  (slot:∀b o,b≠X.env.locals->b∈X.fs->b∉ch->s.heap.get? b=some o->H b=none->∃sl,h'.get? b=some {o with slots:=sl})(free:∀b o,b∉ch->s.heap.get? b=some o->H b=none->H' b=none)
  (there:∀b o,b∉ch->s.heap.get? b=some o->∃o',h'.get? b=some o')
  (tups:∀b xs,H b=some (.tup xs)->H' b=some (.tup xs)) (frzs:∀b o u,H b=some (.frz o u)->H' b=some (.frz o u)) (tbls:∀b ps,H b=some (.tbl ps)->∃more,H' b=some (.tbl (ps++more)))
  (ns:∀m,s.heap.Ns X.env.locals m->h'.Ns X.env.locals m) (hok:HOk X.prog X.w H' h') (hg:AY g'):
  Inv X pins σ H' {s with heap:=h',gens:=g',drawn:=d',toks:=t'}:=by
 have neL:∀b o,X.s₀.heap.get? b=some o->b≠X.env.locals:=λb o e=>kc (ka (kR e) I.ok.above);have neC:∀b o,X.s₀.heap.get? b=some o->b∉X.ex->b∉ch:=λb o e hx hb=>by
  rcases(hch b hb).1 with z|z
  ·exact hx z
  ·exact absurd (ka (kR e) z) (Qb _)
 have cellK:∀x c,X.env.cells.lookup x=some c->∀v,s.heap.IsCell c v->h'.IsCell c v:=λx c e v⟨o,ho,hd⟩=>by
  have nch:c∉ch:=λz=>(hch c z).2.2.1 x c e rfl
  by_cases hc:c∈X.fs
  ·obtain⟨sl,q⟩:=slot c o (I.cne x c e) hc nch ho (I.freeC x c e);exact⟨_,q,hd⟩
  ·exact⟨o,keep c o (I.cne x c e) hc nch ho (I.freeC x c e),hd⟩
 refine⟨I.ok,I.os,hg,⟨λb o e n hb hx=>?_,λb o e n hb hx=>?_,λb o e n hx=>?_,λb o e hx=>?_,λb xs e=>tups b xs (I.base.tups b xs e),λb o xs e=>frzs b o xs (I.base.frzs b o xs e),λb ps e=>?_⟩,?_,λx c e=>?_,?_,λx c e=>?_,λp hp=>?_,hok,I.len⟩
 ·exact keep b o (neL b o e) hb (neC b o e hx) (I.base.keep b o e n hb hx) (I.base.free b o e n hx)
 ·obtain⟨sl,e1⟩:=I.base.slot b o e n hb hx;obtain⟨sl',e2⟩:=slot b _ (neL b o e) hb (neC b o e hx) e1 (I.base.free b o e n hx);exact⟨sl',e2⟩
 ·obtain⟨o',e1⟩:=I.base.there b o e hx;exact free b o' (neC b o e hx) e1 (I.base.free b o e n hx)
 ·obtain⟨o',e1⟩:=I.base.there b o e hx;exact there b o' (neC b o e hx) e1
 ·obtain⟨m1,e1⟩:=I.base.tbls b ps e;obtain⟨m2,e2⟩:=tbls b _ e1;exact⟨m1++m2,by rw[e2,Array.append_assoc]⟩
 ·obtain⟨m,hn,hl⟩:=I.loc;refine⟨m,ns m hn,λi x v e1 e2 e3=>?_⟩;obtain⟨u,r,l⟩:=hl i x v e1 e2 e3;refine⟨u,r,?_⟩;rcases l with l|⟨k,c,e,z⟩
  ·exact .inl l
  ·exact .inr ⟨k,c,e,cellK x c e _ z⟩
 ·obtain⟨v,z⟩:=I.cell x c e;exact⟨v,cellK x c e v z⟩
 ·obtain⟨m,⟨o,_,_,ho,_⟩,_⟩:=I.loc;exact free _ o (λz=>(hch _ z).2.1 rfl) ho I.free
 ·obtain⟨v,o,ho,hd⟩:=I.cell x c e;exact free c o (λz=>(hch c z).2.2.1 x c e rfl) ho (I.freeC x c e)
 ·obtain⟨e,n,ne,nf,d⟩:=I.pin p hp;have nch:p.1∉ch:=λz=>(hch p.1 z).2.2.2 p hp rfl;exact⟨keep p.1 p.2 ne nf nch e n,free p.1 p.2 nch e n,ne,nf,d⟩
def Inv.un(I:Inv X pins σ H s)(u:Un X.fs [] H H' s.heap h')(hok:HOk X.prog X.w H' h'):Inv X pins σ H' {s with heap:=h',toks:=t'}:=by
 obtain⟨m,⟨o,es,ep,ho,r⟩,_⟩:=id I.loc;obtain⟨sl,hL⟩:=u.any ho I.free (by simp)
 exact I.step (g':=s.gens) (d':=s.drawn) (ch:=[]) (λ_ z=>nomatch z) (λb o _ hb _ e n=>u.keep b o e n hb (by simp)) (λb o _ hb _ e n=>u.slot b o e n hb (by simp)) (λb o _ e n=>u.free b o e n (by simp)) (λb o _ e=>u.there b o e (by simp)) u.tups u.frzs u.tbls (λm' hm=>by
  obtain⟨o',es',ep',ho',r'⟩:=hm;rw[ho] at ho';cases ho';exact⟨_,es',ep',hL,r'⟩) hok I.bare
def Inv.call{d':Drawn}(I:Inv X pins σ H s)(u:Un (frs X.stack) ch H H' s.heap h')(hok:HOk X.prog X.w H' h')(hg:AY g')
  (hch:∀b∈ch,(b∈X.ex∨X.s₀.heap.objs.size<=b)/\b≠X.env.locals/\(∀x c,X.env.cells.lookup x=some c->c≠b)/\∀p∈X.pn++pins,p.1≠b):
  Inv X pins σ H' {s with heap:=h',gens:=g',drawn:=d',toks:=t'}:=by
 obtain⟨m,⟨o,es,ep,ho,r⟩,_⟩:=id I.loc;obtain⟨sl,hL⟩:=u.any ho I.free λz=>(hch _ z).2.1 rfl;exact I.step (ch:=ch) hch (λb o hL hb hc e n=>u.keep b o e n (λz=>(kX.mp (I.stkSub b z)).elim hL hb) hc) (λb o _ _ hc e n=>u.any e n hc) (λb o hc e n=>u.free b o e n hc) (λb o hc e=>u.there b o e hc) u.tups u.frzs u.tbls (λm' hm=>by
  obtain⟨o',es',ep',ho',r'⟩:=hm;rw[ho] at ho';cases ho';exact⟨_,es',ep',hL,r'⟩) hok hg
def Inv.turned{it:Addr}(I:Inv X pins σ H s)(k:∀b o,b≠it->s.heap.get? b=some o->h'.get? b=some o)(hn:H it=none)(hL:it≠X.env.locals)
  (h1:it∈X.ex∨X.s₀.heap.objs.size<=it)(h2:∀x c,X.env.cells.lookup x=some c->c≠it)(h3:∀p∈X.pn++pins,p.1≠it):Inv X pins σ H {s with heap:=h',toks:=t'}:=by
 have nit:∀b u,H b=some u->b≠it:=λb u e z=>by rw[z,hn] at e;cases e
 refine I.step (g':=s.gens) (d':=s.drawn) (ch:=[it]) (λb hb=>?_) (λb o _ _ hc e _=>k b o (λz=>hc (by simp[z])) e) (λb o _ _ hc e _=>⟨o.slots,k b o (λz=>hc (by simp[z])) e⟩) (λ_ _ _ _ n=>n)
  (λb o hc e=>⟨o,k b o (λz=>hc (by simp[z])) e⟩) (λ_ _ e=>e) (λ_ _ _ e=>e) (λb ps e=>⟨#[],by rw[e];simp⟩) (λm hm=>?_) (λb u e=>?_) I.bare
 ·have e:b=it:=by simpa using hb
  subst e;exact⟨h1,hL,h2,h3⟩
 ·obtain⟨o,es,ep,ho,r⟩:=hm;exact⟨o,es,ep,k _ o (QM hL) ho,r⟩
 ·refine(I.hok b u e).stay (λc v hc q=>k c v ?_ q) (λ_ q=>q) λ_ _ q=>q;rcases hc with z|z
  ·rw[z];exact nit b u e
  ·exact nit c _ z
def Inv.tok(I:Inv X pins σ H s)(t:Nat):Inv X pins σ H {s with toks:=t}:=I.un (h':=s.heap) (t':=t) Un.refl I.hok
def Inv.kept(I:Inv X pins σ H s)(k:∀b u,s.heap.get? b=some u->h'.get? b=some u):Inv X pins σ H {s with heap:=h',toks:=t'}:=I.un (Un.kept k) (I.hok.kept k)
def Inv.laid{a:Addr}{o:HO}(I:Inv X pins σ H s)(k:∀b u,s.heap.get? b=some u->h'.get? b=some u)(hp:s.heap.objs.size<=a)(new:zV X.prog X.w (upd H a o) h' a o):
  Inv X pins σ (upd H a o) {s with heap:=h',toks:=t'}:=I.un (Un.laid k hp (I.hok.fresh hp)) (I.hok.laid k hp new)
def Inv.write{x e:Addr}{o:HO}(I:Inv X pins σ H s)(mu:Mut (H x))(he:e=x∨H e=some (.own x))(k:∀b u,b≠e->s.heap.get? b=some u->h'.get? b=some u)(heo:∃u,h'.get? e=some u)
  (new:zV X.prog X.w (upd H x o) h' x o):Inv X pins σ (upd H x o) {s with heap:=h',toks:=t'}:=I.un (Un.write mu he k heo) (I.hok.write mu he k heo new)
def Inv.pins_of{pins':List (Addr×Obj)}(I:Inv X pins σ H s)(h:∀p∈pins',s.heap.get? p.1=some p.2/\H p.1=none/\p.1≠X.env.locals/\p.1∉X.fs/\∀v,p.2.data≠.cell v):Inv X pins' σ H s:=
 ⟨I.ok,I.os,I.bare,I.base,I.loc,I.cell,I.free,I.freeC,λp hp=>(pS.mp hp).elim (λz=>I.pin p (UJ _ z)) (h p),I.hok,I.len⟩
variable{x:Str}{i:Nat}
def Vk{N:List Str}(hN:N.Nodup){j:Nat}(a:N[i]?=some x)(b:N[j]?=some x):i=j:=by
 obtain⟨h1,e1⟩:=kM.mp a;obtain⟨h2,e2⟩:=kM.mp b;exact(Dm hN).mp (e1.trans e2.symm)
variable{E:kC->kE->Prop}{Q:Unit->kE->Prop}
theorem zes{A:pI}{v:V}{u:kC}(I:Inv X pins σ H s)(hN:X.N.Nodup)(hi:X.N[i]?=some x)(hx:Loc X.env.scope x)(r:zt v u)
  (h:∀s',Inv X pins (σ.set i (some v)) H s'->(∃a,Qc a s.heap s'.heap/\(a=X.env.locals∨X.env.cells.lookup x=some a))->Q () s')(hf:X.fn x=true∨X.env.scope.names.lookup x=some .local:=by first|exact .inl rfl|exact .inr rfl|assumption):wpAny M A (storeName X.env x u) Q E s:=by
 obtain⟨m,hn,hl⟩:=id I.loc;have hcls:(X.env.scope.kind==.class||(X.env.scope.kind==.module&&X.env.locals !=X.env.globals))=false:=by rw[I.ok.kind];rfl
 have hiσ:i<σ.length:=by rw[I.len];exact(kM.mp hi).1
 have cne:=I.cne;have tracked:∀{a:Addr}{h':Heap},(∃o,s.heap.get? a=some o/\H a=none)->Qc a s.heap h'->HOk X.prog X.w H h':=λ{a h'} ha hs b ob e=>by
  obtain⟨_,_,hfree⟩:=ha;refine(I.hok b ob e).stay (λc w' hc q=>(hs.2 c ?_).trans q) (λ_ q=>q) λ_ _ q=>q;rintro rfl;rcases hc with rfl|hc
  ·rw[hfree] at e;cases e
  ·rw[hfree] at hc;cases hc
 rcases hx with hk|hk
 ·refine wpAny_storeName_local hk hn (λh' hn' hs=>?_) hcls;obtain⟨oL,_,_,hoL,_⟩:=id hn;refine h _ ⟨I.ok,I.os,I.bare,⟨λb o e n hb hx=>?_,λb o e n hb hx=>?_,I.base.free,λb o e hx=>?_,I.base.tups,I.base.frzs,I.base.tbls⟩,⟨_,hn',λj y v' e1 e2 e3=>?_⟩,λy c e=>?_,I.free,I.freeC,λp hp=>?_,tracked ⟨oL,hoL,I.free⟩ hs,by simpa using I.len⟩ ⟨_,hs,.inl rfl⟩
  ·exact(hs.2 b (kc (ka (kR e) I.ok.above))).trans (I.base.keep b o e n hb hx)
  ·obtain⟨sl,e1⟩:=I.base.slot b o e n hb hx;exact⟨sl,(hs.2 b (kc (ka (kR e) I.ok.above))).trans e1⟩
  ·obtain⟨o',e1⟩:=I.base.there b o e hx;exact⟨o',(hs.2 b (kc (ka (kR e) I.ok.above))).trans e1⟩
  ·by_cases hj:j=i
   ·subst hj;rw[hi] at e1;cases e1;rw[QN hiσ] at e2
    cases e2;exact⟨u,r,.inl ⟨hk,by simp⟩⟩
   ·rw[Qg (QM hj)] at e2;obtain⟨u',r',q⟩:=hl j y v' e1 e2 e3;refine⟨u',r',?_⟩;rcases q with⟨k,e⟩|⟨k,c,e,z⟩
    ·refine .inl ⟨k,?_⟩;have:y≠x:=λe=>hj (Vk hN e1 (e▸hi))
     simp[this,e]
    ·exact .inr ⟨k,c,e,z.sameBut hs (cne y c e)⟩
  ·obtain⟨w',z⟩:=I.cell y c e;exact⟨w',z.sameBut hs (cne y c e)⟩
  ·obtain⟨e,n,ne,nf,d⟩:=I.pin p hp;exact⟨(hs.2 p.1 ne).trans e,n,ne,nf,d⟩
 ·have hfn:X.fn x=true:=by
   rcases hf with z|z
   ·exact z
   ·rw[z] at hk;cases hk
  obtain⟨c,hc⟩:=I.ok.has x (.inl hk);obtain⟨w',z⟩:=I.cell x c hc;refine wpAny_storeName_cell I.ok.kind hk hc z (λh' hc' hs=>?_);obtain⟨oc,hoc,hocd⟩:=id z;refine h {s with heap:=h'} ⟨I.ok,I.os,I.bare,⟨λb o e n hb hx=>?_,λb o e n hb hx=>?_,I.base.free,λb o e hx=>?_,I.base.tups,I.base.frzs,I.base.tbls⟩,⟨m,hn.sameBut hs (QM (cne x c hc)),λj y v' e1 e2 e3=>?_⟩,λy c' e=>?_,I.free,I.freeC,λp hp=>?_,tracked ⟨oc,hoc,I.freeC x c hc⟩ hs,by simpa using I.len⟩ ⟨c,hs,.inr hc⟩
  ·exact(hs.2 b (kc (ka (kR e) (I.ok.cab x c hfn hc)))).trans (I.base.keep b o e n hb hx)
  ·obtain⟨sl,e1⟩:=I.base.slot b o e n hb hx;exact⟨sl,(hs.2 b (kc (ka (kR e) (I.ok.cab x c hfn hc)))).trans e1⟩
  ·obtain⟨o',e1⟩:=I.base.there b o e hx;exact⟨o',(hs.2 b (kc (ka (kR e) (I.ok.cab x c hfn hc)))).trans e1⟩
  ·by_cases hj:j=i
   ·subst hj;rw[hi] at e1;cases e1;rw[QN hiσ] at e2
    cases e2;exact⟨u,r,.inr ⟨.inl hk,c,hc,hc'⟩⟩
   ·rw[Qg (QM hj)] at e2;obtain⟨u',r',q⟩:=hl j y v' e1 e2 e3;refine⟨u',r',?_⟩;rcases q with q|⟨k,c',e,z'⟩
    ·exact .inl q
    ·refine .inr ⟨k,c',e,z'.sameBut hs ?_⟩;rintro rfl;exact hj (Vk hN e1 (I.ok.inj _ _ _ e hc▸hi))
  ·by_cases hcc:c'=c
   ·subst hcc;exact⟨_,hc'⟩
   ·obtain⟨w2,z2⟩:=I.cell y c' e;exact⟨w2,z2.sameBut hs hcc⟩
  ·obtain⟨e,n,ne,nf,d⟩:=I.pin p hp;refine⟨(hs.2 p.1 ?_).trans e,n,ne,nf,d⟩;intro q;rw[q,hoc] at e;have q':oc=p.2:=pL e;exact d w' (by rw[←q'];exact hocd)
theorem qu{A:pI}{v:V}{u:kC}(I:Inv X pins σ H s)(hN:X.N.Nodup)(hi:X.N[i]?=some x)(hx:Loc X.env.scope x)(r:zt v u)
  (h:∀s',Inv X pins (σ.set i (some v)) H s'->Q () s')(hf:X.fn x=true∨X.env.scope.names.lookup x=some .local:=by first|exact .inl rfl|exact .inr rfl|assumption):wpAny M A (storeName X.env x u) Q E s:=
 zes I hN hi hx r (λs' I' _=>h s' I') hf
def Inv.call'{s':kE}(I:Inv X pins σ H s)(ho:s'.os=s.os)(u:Un (frs X.stack) ch H H' s.heap s'.heap)(hok:HOk X.prog X.w H' s'.heap)(hg:AY s'.gens)
  (hch:∀b∈ch,(b∈X.ex∨X.s₀.heap.objs.size<=b)/\b≠X.env.locals/\(∀x c,X.env.cells.lookup x=some c->c≠b)/\∀p∈X.pn++pins,p.1≠b):Inv X pins σ H' s':=by
 obtain⟨h',g',d',t',o'⟩:=s';have e:o'=s.os:=ho;subst e;exact I.call (g':=g') (t':=t') (d':=d') u hok hg hch
end
abbrev XK:=kC->Option Addr->Hp->Prop
abbrev St:=List (Option V)
abbrev VK:=V->Hp->Prop
abbrev TE:=St->Hp->VK->Prop
abbrev TT:=St->Hp->(Bool->Hp->Prop)->Prop
abbrev TA:=St->Hp->(List V->Hp->Prop)->Prop
structure Ends where
 nx:St->Hp->Prop
 rt:VK
 bk:St->Hp->Prop:=λ_ _=>False
 ct:St->Hp->Prop:=λ_ _=>False
abbrev TS:=Ends->St->Hp->Prop
def EP(X:Cx)(pins:List (Addr×Obj))(σ:St)(Q:VK)(u:kC)(s':kE):Prop:=∃v H',Inv X pins σ H' s'/\zt v u/\Q v H'
def TP(X:Cx)(pins:List (Addr×Obj))(σ:St)(Q:Bool->Hp->Prop)(b:Bool)(s':kE):Prop:=∃H',Inv X pins σ H' s'/\Q b H'
def AP(X:Cx)(pins:List (Addr×Obj))(σ:St)(Q:List V->Hp->Prop)(us:List kC)(s':kE):Prop:=∃vs H',Inv X pins σ H' s'/\zr vs us/\Q vs H'
def SP(X:Cx)(pins:List (Addr×Obj))(D:Ends)(f:Flow)(s':kE):Prop:=
 match f with
 |.next=>∃σ' H',Inv X pins σ' H' s'/\D.nx σ' H'
 |.brk=>∃σ' H',Inv X pins σ' H' s'/\D.bk σ' H'
 |.cont=>∃σ' H',Inv X pins σ' H' s'/\D.ct σ' H'
 |.ret u=>∃v σ' H',Inv X pins σ' H' s'/\zt v u/\D.rt v H'
def PE(X:Cx)(e:Expr)(t:TE):Prop:=
 ∀(pins:List (Addr×Obj))(s:kE)(σ:St)(H:Hp)(Q:VK),Inv X pins σ H s->t σ H Q->wpAny (model X.prog X.w) X.A (eval e X.env) (EP X pins σ Q) X.xe s
def PT(X:Cx)(e:Expr)(t:TT):Prop:=
 ∀(pins:List (Addr×Obj))(s:kE)(σ:St)(H:Hp)(Q:Bool->Hp->Prop),Inv X pins σ H s->t σ H Q->wpAny (model X.prog X.w) X.A (isTrue e X.env (eval e X.env)) (TP X pins σ Q) X.xe s
def PW(X:Cx)(e:Expr)(t:TT):Prop:=
 ∀(whole:Sem kC)(pins:List (Addr×Obj))(s:kE)(σ:St)(H:Hp)(Q:Bool->Hp->Prop),Inv X pins σ H s->t σ H Q->wpAny (model X.prog X.w) X.A (isTrue e X.env whole) (TP X pins σ Q) X.xe s
def PW.pt{X:Cx}{e:Expr}{t:TT}(h:PW X e t):PT X e t:=h _
def PA(X:Cx)(es:List Expr)(t:TA):Prop:=
 ∀(pos:Pos)(pins:List (Addr×Obj))(s:kE)(σ:St)(H:Hp)(Q:List V->Hp->Prop),Inv X pins σ H s->t σ H Q->wpAny (model X.prog X.w) X.A (spliced (pX pos (kJ es X.env))) (AP X pins σ Q) X.xe s
def PS(X:Cx)(st:Stmt)(t:TS):Prop:=
 ∀(pins:List (Addr×Obj))(s:kE)(σ:St)(H:Hp)(D:Ends),Inv X pins σ H s->t D σ H->wpAny (model X.prog X.w) X.A (exec st X.env) (SP X pins D) X.xe s
def PSs(X:Cx)(st:List Stmt)(t:TS):Prop:=
 ∀(pins:List (Addr×Obj))(s:kE)(σ:St)(H:Hp)(D:Ends),Inv X pins σ H s->t D σ H->wpAny (model X.prog X.w) X.A (execs st X.env) (SP X pins D) X.xe s
def thn{α:Type}{t:Sem α}{Q Q':α->kE->Prop}{A:pI}{E:kC->kE->Prop}{s:kE}(h:wpAny M A t Q E s)(hQ:∀a s,Q a s->Q' a s):wpAny M A t Q' E s:=uT h hQ λ_ _ x=>x
variable{c:Expr}
section
variable{X:Cx}
def yW(i:Nat):TE:=λσ H Q=>∃v,σ[i]?=some (some v)/\Q v H
def tC(v:V):TE:=λ_ H Q=>Q v H
def yX{i:Nat}{x:Str}{pos:Pos}(hN:X.N[i]?=some x)(hv:Vis X.env.scope x)(hd:(x==("__debug__":Str))=false:=by decide)(hcd:(x==("__classdict__":Str))=false:=by decide):PE X (.Name x pos) (yW i):=by
 intro pins s σ H Q I h;obtain⟨v,e,h⟩:=h;obtain⟨m,hn,hl⟩:=I.loc;obtain⟨u,r,l⟩:=hl i x v hN e hv;have fin:EP X pins σ Q u s:=⟨v,H,I,r,h⟩;rcases l with⟨hk,hm⟩|⟨hk,c,hc,hcell⟩
 ·exact Eh (wpAny_loadName_local I.ok.kind hk hn hm fin) hd
 ·rcases hk with hk|hk
  ·exact Eh (wpAny_loadName_cell I.ok.kind hk hc hcell fin) hd
  ·exact Eh (wpAny_loadName_free I.ok.kind hk hc hcell fin hcd) hd
def wZ{i j pos}:PE X (.Constant (.int i) j pos) (tC (.int i)):=λ_ _ _ H _ I h=>wpAny_Constant_int ⟨.int i,H,I.tok _,⟨_,rfl⟩,h⟩
def pe_bl{b j pos}:PE X (.Constant (.bool b) j pos) (tC (.bl b)):=λ_ _ _ H _ I h=>Constant_bool ⟨.bl b,H,I,rfl,h⟩
def pe_non{j pos}:PE X (.Constant .none j pos) (tC .non):=λ_ _ _ H _ I h=>Constant_none ⟨.non,H,I,rfl,h⟩
def pe_str{x j pos}:PE X (.Constant (.str x) j pos) (tC (.str x)):=λ_ _ _ H _ I h=>Calls.Constant_str ⟨.str x,H,I.tok _,⟨_,rfl⟩,h⟩
def Gl(X:Cx)(x:Str):Prop:=X.env.kindOf x=some .globalImplicit
variable{x:Str}{E Q:kC->kE->Prop}{pins:List (Addr×Obj)}{u:kC}
def xV{s:kE}{σ:St}{H:Hp}{pos:Pos}(I:Inv X pins σ H s)(hg:Gl X x)(hm:X.mg x=some u)(h:Q u s)
  (hd:(x==("__debug__":Str))=false:=by decide):wpAny (model X.prog X.w) X.A (eval (.Name x pos) X.env) Q E s:=
 Af I.ok.kind hg (Calls.loadGlobal_global (by rw[I.ok.glob];exact I.mod.glob.keeps I.bk) hm h) hd
def xk{s:kE}{σ:St}{H:Hp}{pos:Pos}(I:Inv X pins σ H s)(hg:Gl X x)(hm:X.mg x=none)(hv:pp x=some u)(h:Q u s)
  (hn:x≠"__name__":=by decide)(hd:(x==("__debug__":Str))=false:=by decide):wpAny (model X.prog X.w) X.A (eval (.Name x pos) X.env) Q E s:=by
 obtain⟨mb,h1,h2⟩:=I.mod.blt;exact Af I.ok.kind hg (Calls.loadGlobal_builtin (by rw[I.ok.glob];exact I.mod.glob.keeps I.bk) hm (by rw[I.ok.blt];exact h1.keeps I.bk) ((h2 x hn).trans hv) h) hd
def pe_glob{v:V}{pos:Pos}(hg:Gl X x)(hm:X.mg x=some u)(r:zt v u)(hd:(x==("__debug__":Str))=false:=by decide):PE X (.Name x pos) (tC v):=
 λ_ _ _ H _ I h=>xV I hg hm ⟨v,H,I,r,h⟩ hd
def jg{v:V}{pos:Pos}(hg:Gl X x)(hm:X.mg x=none)(hv:pp x=some u)(r:zt v u)(hn:x≠"__name__":=by decide)(hd:(x==("__debug__":Str))=false:=by decide):PE X (.Name x pos) (tC v):=
 λ_ _ _ H _ I h=>xk I hg hm hv ⟨v,H,I,r,h⟩ hn hd
variable{a b:Expr}{ta tb:TE}{pos:Pos}
def PC(X:Cx)(op:CmpOp)(a b:Expr)(t:TE):Prop:=
 ∀(pins:List (Addr×Obj))(s:kE)(σ:St)(H:Hp)(Q:VK),Inv X pins σ H s->t σ H Q->
  wpAny (model X.prog X.w) X.A (eval a X.env) (λv s₁=>wpAny (model X.prog X.w) X.A (eval b X.env) (λu s₂=>wpAny (model X.prog X.w) X.A (ug op v u) (EP X pins σ Q) X.xe s₂) X.xe s₁) X.xe s
def tB(t:TE):TT:=λσ H Q=>t σ H λx H1=>∃c,x=.bl c/\Q c H1
variable{t:TE}
def XQ{op:CmpOp}(h:PC X op a b t)(h1:um op b=false:=by first|exact nobehind _ (by decide) (by decide)|rfl):PT X (.Compare a [op] [b] pos) (tB t):=by
 intro pins s σ H Q I hw;refine CA (thn (h pins s σ H _ I hw) λv s1 h1=>thn h1 λu s2 h2=>thn h2 λc s3⟨x,H1,I1,r1,q1⟩=>?_) h1;obtain⟨d,rfl,q⟩:=q1
 cases r1;exact QO ⟨H1,I1,q⟩
def Xb{e:Expr}(h:PE X e t)(he:∀whole,isTrue e X.env whole=(do let v ←whole;Ec e.pos;holding [v] (truthy v)):=by intro _;rfl):PT X e (tB t):=by
 intro pins s σ H Q I hw;refine isTrue_plain (thn (h pins s σ H _ I hw) λv s1⟨x,H1,I1,r1,q1⟩=>?_) (he _);obtain⟨d,rfl,q⟩:=q1
 cases r1;exact QO ⟨H1,I1,q⟩
variable{tA tB':TT}{rest:List Expr}
def tAnd(t u:TT):TT:=λσ H Q=>t σ H λc H1=>if c=true then u σ H1 Q else Q false H1
def tOr(t u:TT):TT:=λσ H Q=>t σ H λc H1=>if c=true then Q true H1 else u σ H1 Q
def tNot(t:TT):TT:=λσ H Q=>t σ H λc H1=>Q (!c) H1
theorem pw_and1(ha:PT X a tA):PW X (.BoolOp .And [a] pos) tA:=by
 intro wh pins s σ H Q I h;refine isTrue_and (thn (ha pins s σ H Q I h) λc s1 e=>?_)
 cases c with
 |true=>exact isTrue_and_nil e
 |false=>exact e
theorem pw_or1(ha:PT X a tA):PW X (.BoolOp .Or [a] pos) tA:=by
 intro wh pins s σ H Q I h;refine isTrue_or (thn (ha pins s σ H Q I h) λc s1 e=>?_)
 cases c with
 |false=>exact isTrue_or_nil e
 |true=>exact e
theorem pw_and(ha:PT X a tA)(hb:PW X (.BoolOp .And (b::rest) pos) tB'):PW X (.BoolOp .And (a::b::rest) pos) (tAnd tA tB'):=by
 intro wh pins s σ H Q I h;refine isTrue_and (thn (ha pins s σ H _ I h) λc s1⟨H1,I1,q1⟩=>?_)
 cases c with
 |true=>exact hb wh pins s1 σ H1 Q I1 q1
 |false=>exact⟨H1,I1,q1⟩
theorem pw_or(ha:PT X a tA)(hb:PW X (.BoolOp .Or (b::rest) pos) tB'):PW X (.BoolOp .Or (a::b::rest) pos) (tOr tA tB'):=by
 intro wh pins s σ H Q I h;refine isTrue_or (thn (ha pins s σ H _ I h) λc s1⟨H1,I1,q1⟩=>?_)
 cases c with
 |true=>exact⟨H1,I1,q1⟩
 |false=>exact hb wh pins s1 σ H1 Q I1 q1
def pt_not(ha:PT X a tA):PT X (.UnaryOp .Not a pos) (tNot tA):=by
 intro pins s σ H Q I h;exact isTrue_not (ha pins s σ H (λc H1=>Q (!c) H1) I h)
def tAndV(ta tb:TE):TE:=λσ H Q=>ta σ H λx H1=>∃c,x=.bl c/\if c=true then tb σ H1 Q else Q (.bl false) H1
def tNotV(ta:TE):TE:=λσ H Q=>ta σ H λx H1=>∃c,x=.bl c/\Q (.bl (!c)) H1
def Zp{op}(h:PE X a t):PE X (.BoolOp op [a] pos) t:=λpins s σ H Q I hw=>BoolOp_one (h pins s σ H Q I hw)
theorem WU(ha:PE X a ta)(hb:PE X (.BoolOp .And (b::rest) pos) tb):PE X (.BoolOp .And (a::b::rest) pos) (tAndV ta tb):=by
 intro pins s σ H Q I h;refine BoolOp_and (thn (ha pins s σ H _ I h) λv s1⟨x,H1,I1,r1,q1⟩=>?_);obtain⟨c,rfl,q1⟩:=q1
 cases r1;refine QO ?_
 cases c with
 |true=>exact hb pins s1 σ H1 Q I1 q1
 |false=>exact⟨.bl false,H1,I1,rfl,q1⟩
def pe_not(ha:PE X a ta):PE X (.UnaryOp .Not a pos) (tNotV ta):=by
 intro pins s σ H Q I h;refine UnaryOp_ (thn (ha pins s σ H _ I h) λv s1⟨x,H1,I1,r1,q1⟩=>?_);obtain⟨c,rfl,q1⟩:=q1
 cases r1;exact not_of (QO ⟨.bl (!c),H1,I1,rfl,q1⟩)
def tIf(t:TT)(ta tb:TE):TE:=λσ H Q=>t σ H λc H1=>if c=true then ta σ H1 Q else tb σ H1 Q
theorem zbl(hc:PT X c tA)(ha:PE X a ta)(hb:PE X b tb):PE X (.IfExp c a b pos) (tIf tA ta tb):=by
 intro pins s σ H Q I h;refine wpAny_IfExp (thn (hc pins s σ H _ I h) λd s1⟨H1,I1,q1⟩=>?_)
 cases d with
 |true=>exact ha pins s1 σ H1 Q I1 q1
 |false=>exact hb pins s1 σ H1 Q I1 q1
end
def SqL(K:kF)(H:Hp)(a:Addr)(xs:List V):Prop:=
 Rd H a (.lst xs)∨
  ∃(o:Obj)(its:Array kC)(n:Nat),K.lookup a=some o/\o.cls=.type "list"/\o.dict=none/\o.data=.seq its n/\its.size<=sizeLine/\zr xs its.toList
def SqT(K:kF)(H:Hp)(a:Addr)(xs:List V):Prop:=
 Rd H a (.tup xs)∨
  ∃(o:Obj)(its:Array kC)(n:Nat),K.lookup a=some o/\o.cls=.type "tuple"/\o.data=.seq its n/\its.size<=sizeLine/\zr xs its.toList
def absV:kC->Option V
 |.none=>some .non
 |.bool b=>some (.bl b)
 |.int i _=>some (.int i)
 |.str x _=>some (.str x)
 |.bytes b _=>some (.byt b)
 |.float b _=>some (.flt b)
 |.ref a=>some (.ref a)
 |.type n=>some (.ty n)
 |_=>none
theorem zt.abs{x:V}{u:kC}(r:zt x u):absV u=some x:=by
 cases x with
 |non=>cases r;rfl
 |bl _=>cases r;rfl
 |int _=>obtain⟨t,rfl⟩:=r;rfl
 |str _=>obtain⟨t,rfl⟩:=r;rfl
 |byt _=>obtain⟨t,rfl⟩:=r;rfl
 |flt _=>obtain⟨t,rfl⟩:=r;rfl
 |ref _=>cases r;rfl
 |ty _=>cases r;rfl
def zt.inj{x y:V}{u:kC}(r:zt x u)(q:zt y u):x=y:=pL (r.abs.symm.trans q.abs)
theorem zr.inj:∀{xs ys:List V}{us:List kC},zr xs us->zr ys us->xs=ys
 |_,_,_,.nil,.nil=>rfl
 |_,_,_,.cons r t,.cons r' t'=>by rw[r.inj r',zr.inj t t']
section
variable{X:Cx}{pins:List (Addr×Obj)}{σ:St}{H:Hp}{s:kE}{a:Addr}{xs ys:List V}
def SqL.of{K:kF}(h:H a=some (.lst xs)):SqL K H a xs:=.inl (.inl h)
def SqT.of{K:kF}(h:H a=some (.tup xs)):SqT K H a xs:=.inl (.inl h)
theorem Inv.list(I:Inv X pins σ H s)(h:SqL X.K H a xs):∃its:List kC,zr xs its/\PlainL s.heap a its.toArray/\xs.length<=sizeLine:=by
 rcases h with h|⟨o,its,n,hk,hc,hd,hs,hz,r⟩
 ·obtain⟨z,its,n,r,e⟩:=h.ok I.hok;exact⟨its,r,⟨_,n,e,rfl,rfl,rfl⟩,z⟩
 ·refine⟨its.toList,r,⟨o,n,I.kIn a o hk,hc,hd,by simpa using hs⟩,?_⟩
  have e:=r.length;simp only[US] at e;omega
theorem Inv.tuple(I:Inv X pins σ H s)(h:SqT X.K H a xs):∃its:List kC,zr xs its/\IsTup s.heap a its.toArray/\xs.length<=sizeLine:=by
 rcases h with h|⟨o,its,n,hk,hc,hs,hz,r⟩
 ·obtain⟨z,its,r,p⟩:=h.ok I.hok;exact⟨its,r,p,z⟩
 ·refine⟨its.toList,r,⟨o,I.kIn a o hk,hc,n,by simpa using hs⟩,?_⟩
  have e:=r.length;simp only[US] at e;omega
def Inv.list_inj(I:Inv X pins σ H s)(h:SqL X.K H a xs)(h':SqL X.K H a ys):xs=ys:=by
 obtain⟨its,r,⟨o,n,e,_,_,d⟩,_⟩:=I.list h;obtain⟨its',r',⟨o',n',e',_,_,d'⟩,_⟩:=I.list h';rw[e] at e';cases e';rw[d] at d'
 injection d' with d1 _
 have:its=its':=by simpa using congrArg FH d1
 subst this;exact r.inj r'
def Inv.tuple_inj(I:Inv X pins σ H s)(h:SqT X.K H a xs)(h':SqT X.K H a ys):xs=ys:=by
 obtain⟨its,r,⟨o,e,_,n,d⟩,_⟩:=I.tuple h;obtain⟨its',r',⟨o',e',_,n',d'⟩,_⟩:=I.tuple h';rw[e] at e';cases e';rw[d] at d'
 injection d' with d1 _
 have:its=its':=by simpa using congrArg FH d1
 subst this;exact r.inj r'
end
abbrev Cx.wish(X:Cx)(E:kC->kE->Prop):Cx:={X with xe:=E}
abbrev Cx.nox(X:Cx):Cx:=X.wish λ_ _=>False
def Cx.Ok.wish{X:Cx}(ok:X.Ok)(E:kC->kE->Prop):(X.wish E).Ok:=
 ⟨ok.mod,ok.kind,ok.glob,ok.blt,ok.above,ok.inj,ok.has,ok.cab,ok.hd,ok.frames,ok.stk,ok.exf,ok.bs,ok.bsz,ok.noex,ok.exfs,ok.funs,ok.frf⟩
def Cx.Ok.unwish{X:Cx}{E:kC->kE->Prop}(ok:(X.wish E).Ok):X.Ok:=
 ⟨ok.mod,ok.kind,ok.glob,ok.blt,ok.above,ok.inj,ok.has,ok.cab,ok.hd,ok.frames,ok.stk,ok.exf,ok.bs,ok.bsz,ok.noex,ok.exfs,ok.funs,ok.frf⟩
section
variable{X:Cx}{pins:List (Addr×Obj)}{σ:St}{H:Hp}{s:kE}{E:kC->kE->Prop}
def Inv.wish(I:Inv X pins σ H s)(E:kC->kE->Prop):Inv (X.wish E) pins σ H s:=⟨I.ok.wish E,I.os,I.bare,I.base,I.loc,I.cell,I.free,I.freeC,I.pin,I.hok,I.len⟩
def Inv.unwish(I:Inv (X.wish E) pins σ H s):Inv X pins σ H s:=⟨I.ok.unwish,I.os,I.bare,I.base,I.loc,I.cell,I.free,I.freeC,I.pin,I.hok,I.len⟩
theorem SP.unwish{D:Ends}{f:Flow}{s':kE}(h:SP (X.wish E) pins D f s'):SP X pins D f s':=by
 cases f with
 |next=>obtain⟨σ',H',I,q⟩:=h;exact⟨σ',H',I.unwish,q⟩
 |brk=>obtain⟨σ',H',I,q⟩:=h;exact⟨σ',H',I.unwish,q⟩
 |cont=>obtain⟨σ',H',I,q⟩:=h;exact⟨σ',H',I.unwish,q⟩
 |ret u=>obtain⟨v,σ',H',I,r,q⟩:=h;exact⟨v,σ',H',I.unwish,r,q⟩
def PSs.nox{st:List Stmt}{t:TS}(h:PSs X.nox st t):PSs X st t:=λpins s σ H D I hw=>
 uT (h pins s σ H D (I.wish _) hw) (λ_ _ q=>q.unwish) λ_ _ z=>uK z
end
section
variable{X:Cx}{st:Stmt}{rest:List Stmt}{t u:TS}{e:Expr}{te:TE}{pos:Pos}
def tNext:TS:=λD σ H=>D.nx σ H
def xP(t u:TS):TS:=λD σ H=>t {D with nx:=u D} σ H
def pss_nil:PSs X [] tNext:=λ_ _ σ H _ I h=>gH ⟨σ,H,I,h⟩
theorem yI(h1:PS X st t)(h2:PSs X rest u):PSs X (st::rest) (xP t u):=by
 intro pins s σ H D I h;refine Dn (thn (h1 pins s σ H {D with nx:=u D} I h) λf s1 q=>?_)
 cases f with
 |next=>
  obtain⟨σ',H',I',q⟩:=q;exact h2 pins s1 σ' H' D I' q
 |ret v=>exact q
 |brk=>exact q
 |cont=>exact q
theorem xh(h1:PS X st t):PSs X [st] t:=by
 intro pins s σ H D I h;refine Dn (thn (h1 pins s σ H D I h) λf s1 q=>?_)
 cases f with
 |next=>exact gH q
 |ret v=>exact q
 |brk=>exact q
 |cont=>exact q
def Inv.quiet{pins:List (Addr×Obj)}{σ:St}{H:Hp}{s:kE}(I:Inv X pins σ H s):interactive X.env=false:=by simp[interactive,I.ok.kind]
def X4(te:TE):TS:=λD σ H=>te σ H λ_ H1=>D.nx σ H1
def wz(he:PE X e te)(hs:uh e none pos.line X.env=pure false:=by rfl):PS X (.Expr e pos) (X4 te):=by
 intro pins s σ H D I h;exact wpAny_Expr_any (thn (he pins s σ H _ I h) λv s1⟨x,H1,I1,r1,q1⟩=>⟨σ,H1,I1,q1⟩) I.quiet hs
def tRet(te:TE):TS:=λD σ H=>te σ H D.rt
def jr(he:PE X e te):PS X (.Return (some e) pos) (tRet te):=by
 intro pins s σ H D I h;exact wpAny_Return_some (thn (he pins s σ H _ I h) λv s1⟨x,H1,I1,r1,q1⟩=>⟨x,σ,H1,I1,r1,q1⟩)
def tIfS(c:TT)(t u:TS):TS:=λD σ H=>c σ H λb H1=>if b=true then t D σ H1 else u D σ H1
theorem Xn{a b:List Stmt}{tc:TT}(hc:PT X c tc)(ha:PSs X a t)(hb:PSs X b u):PS X (.If c a b pos) (tIfS tc t u):=by
 intro pins s σ H D I h;refine wpAny_If (thn (hc pins s σ H _ I h) λd s1⟨H1,I1,q1⟩=>?_)
 cases d with
 |true=>exact ha pins s1 σ H1 D I1 q1
 |false=>exact hb pins s1 σ H1 D I1 q1
end
abbrev TG:=V->St->Hp->(St->Hp->Prop)->Prop
abbrev TGs:=List V->St->Hp->(St->Hp->Prop)->Prop
def PG(X:Cx)(target:Expr)(t:TG):Prop:=
 ∀(pins:List (Addr×Obj))(s:kE)(σ:St)(H:Hp)(v:V)(u:kC)(Q:St->Hp->Prop),Inv X pins σ H s->zt v u->t v σ H Q->
  wpAny (model X.prog X.w) X.A (assign target X.env u) (λ_ s'=>∃σ' H',Inv X pins σ' H' s'/\Q σ' H') X.xe s
def PGs(X:Cx)(ts:List Expr)(t:TGs):Prop:=
 ∀(pins:List (Addr×Obj))(s:kE)(σ:St)(H:Hp)(vs:List V)(us:List kC)(Q:St->Hp->Prop),Inv X pins σ H s->zr vs us->t vs σ H Q->
  wpAny (model X.prog X.w) X.A (assignInOrder ((Uu ts X.env).map (·.2)) us) (λ_ s'=>∃σ' H',Inv X pins σ' H' s'/\Q σ' H') X.xe s
section
variable{X:Cx}{pos:Pos}
def xT(i:Nat):TG:=λv σ H Q=>Q (σ.set i (some v)) H
theorem pg_name{i:Nat}{x:Str}(hN:X.N.Nodup)(hi:X.N[i]?=some x)(hx:Loc X.env.scope x)(hf:X.fn x=true∨X.env.scope.names.lookup x=some .local:=by first|exact .inl rfl|exact .inr rfl|assumption):PG X (.Name x pos) (xT i):=by
 intro pins s σ H v u Q I r h;exact DN (qu I hN hi hx r (λs' I'=>⟨_,H,I',h⟩) hf)
def gNil:TGs:=λvs σ H Q=>vs=[]/\Q σ H
def gCons(t:TG)(u:TGs):TGs:=λvs σ H Q=>∃v r,vs=v::r/\t v σ H λσ' H'=>u r σ' H' Q
def pgs_nil:PGs X [] gNil:=by
 intro pins s σ H vs us Q I r h;obtain⟨e,h⟩:=h;subst e
 cases r;exact assignInOrder_nil ⟨σ,H,I,h⟩
variable{es:List Expr}
theorem zc8{e:Expr}{t:TG}{u:TGs}(h1:PG X e t)(h2:PGs X es u)
  (hs:(Uu (e::es) X.env).map (·.2)=assign e X.env::(Uu es X.env).map (·.2):=by rfl):PGs X (e::es) (gCons t u):=by
 intro pins s σ H vs us Q I r h;obtain⟨v,vr,e1,h⟩:=h;subst e1
 cases r with
 |cons r rr=>
  rw[hs];refine assignInOrder_cons (thn (h1 pins s σ H _ _ _ I r h) λ_ s1⟨σ1,H1,I1,q1⟩=>?_);exact h2 pins s1 σ1 H1 _ _ Q I1 rr q1
def gTup(K:kF)(n:Nat)(t:TGs):TG:=λv σ H Q=>∃a xs,v=.ref a/\SqT K H a xs/\xs.length=n/\t xs σ H Q
def pg_tup{k:Nat}{t:TGs}{n:Nat}(hc:X.calm=true)(h:PGs X es t)
  (hn:(Uu es X.env).length=n:=by rfl)(hst:(Uu es X.env).findIdx? (·.1)=none:=by rfl):PG X (.Tuple es k pos) (gTup X.K n t):=by
 intro pins s σ H v u Q I r hw;obtain⟨a,xs,e1,hq,hl,hw⟩:=hw;subst e1
 cases r;obtain⟨its,rv,ht,hz⟩:=I.tuple hq;refine assign_Tuple_tuple (I.ok.hd hc) ht (by simp[hn,←hl,rv.length]) hst λh' hx=>?_
 have I1:Inv X pins σ H {s with heap:=h'}:=I.kept (t':=s.toks) λb o e=>hx b o (kc (kR e)) e;exact h pins _ σ H xs _ Q I1 (by simpa using rv) hw
def wg(te:TE)(g:TG):TS:=λD σ H=>te σ H λx H1=>g x σ H1 D.nx
theorem YZ{i:Nat}{x:Str}{e:Expr}{te:TE}{pos':Pos}(hN:X.N.Nodup)(hi:X.N[i]?=some x)(hx:Loc X.env.scope x)(he:PE X e te)(hs:uh e (some (.Name x pos')) pos.line X.env=pure false:=by rfl)(hf:X.fn x=true∨X.env.scope.names.lookup x=some .local:=by first|exact .inl rfl|exact .inr rfl|assumption):
  PS X (.Assign [.Name x pos'] e pos) (wg te (xT i)):=by
 intro pins s σ H D I h;refine wpAny_Assign_Name (thn (he pins s σ H _ I h) λv s1⟨y,H1,I1,r1,q1⟩=>?_) hs;exact qu I1 hN hi hx r1 (λs2 I2=>⟨_,H1,I2,q1⟩) hf
end
variable{body:List Stmt}
section
variable{X:Cx}{pos:Pos}
def Xm(c:TT)(tb:TS):TS:=λD σ H=>∃W:Nat->St->Hp->Prop,(∃m,W m σ H)/\∀m σ H,W m σ H->
 c σ H λb H1=>if b=true then ∃N:St->Hp->Prop,(∀σ' H',N σ' H'->∃m',m'<m/\W m' σ' H')/\tb {D with nx:=N,ct:=N,bk:=D.nx} σ H1 else D.nx σ H1
theorem Wp{tc:TT}{tb:TS}(hp:Do (model X.prog X.w) X.A X.env X.xe)(hc:PT X c tc)(hb:PSs X body tb):PS X (.While c body [] pos) (Xm tc tb):=by
 intro pins s σ H D I h;obtain⟨W,⟨m0,w0⟩,turn⟩:=h;refine wpAny_While (codeAny_whileLoop (λn s'=>∃σ' H',Inv X pins σ' H' s'/\W n σ' H') ?_ m0 ⟨σ,H,I,w0⟩);rintro n s1 ⟨σ1,H1,I1,w1⟩;refine UH hp (thn (hc pins s1 σ1 H1 _ I1 (turn n σ1 H1 w1)) λb s2⟨H2,I2,q2⟩=>?_)
 cases b with
 |true=>
  obtain⟨N,hN,q2⟩:=q2;rw[if_pos rfl];refine UH hp (thn (hb pins s2 σ1 H2 _ I2 q2) λf s3 q3=>?_)
  cases f with
  |next=>
   obtain⟨σ3,H3,I3,n3⟩:=q3;obtain⟨m',hm,w3⟩:=hN σ3 H3 n3;exact⟨m',hm,σ3,H3,I3,w3⟩
  |cont=>
   obtain⟨σ3,H3,I3,n3⟩:=q3;obtain⟨m',hm,w3⟩:=hN σ3 H3 n3;exact⟨m',hm,σ3,H3,I3,w3⟩
  |brk=>exact q3
  |ret v=>exact q3
 |false=>
  rw[if_neg kZ];exact gH ⟨σ1,H2,I2,q2⟩
end
structure It where
 go:Nat->Hp->Prop
 yld:Nat->Hp->V->Hp->Prop
 stop:Nat->Hp->Prop
def yS(X:Cx)(pins:List (Addr×Obj))(H:Hp)(b:Addr):Prop:=
 H b=none/\b≠X.env.locals/\b∉X.fs/\(b∈X.ex∨X.s₀.heap.objs.size<=b)/\(∀x c,X.env.cells.lookup x=some c->c≠b)/\∀p∈X.pn++pins,p.1≠b
def Inv.fpOk{X:Cx}{pins:List (Addr×Obj)}{σ:St}{H H':Hp}{s:kE}{b:Addr}(I:Inv X pins σ H s)(hb:s.heap.objs.size<=b)(hn:H' b=none):yS X pins H' b:=by
 refine⟨hn,gZ (ka I.lt hb),I.nofs hb,.inr (pd I.sz hb),λx c e z=>?_,λp hp z=>?_⟩
 ·obtain⟨v,q⟩:=I.cell x c e;exact absurd (ka q.lt (by rw[z];exact hb)) (Qb _)
 ·exact absurd (ka (kR (I.pin p hp).1) (by rw[z];exact hb)) (Qb _)
structure Turn(P:kW)(w:kq)(K:kF)(tg:Expr)(J:It)(fp:List Addr)(it:Addr)(tn:Nat->Heap->Prop):Prop where
 mem:it∈fp
 obj:∀i h,tn i h->∀b∈fp,∃o,h.get? b=some o/\∀v,o.data≠.cell v
 keep:∀i h h',tn i h->(∀b∈fp,∀o,h.get? b=some o->h'.get? b=some o)->tn i h'
 item:∀(X:Cx),X.prog=P->X.w=w->X.K=K->X.calm=true->∀(i:Nat)(pins:List (Addr×Obj))(s:kE)(σ:St)(H:Hp)(E:kC->kE->Prop),Inv X pins σ H s->(∀b∈fp,yS X pins H b)->tn i s.heap->J.go i H->
  wpAny (model P w) X.A (gb (.ref it)) (λr s1=>∃u,r=some u/\
   wpAny (model P w) X.A (AO tg (.ref it) u) (λ_ s2=>∃x H',Inv X pins σ H' s2/\zt x u/\J.yld i H x H'/\tn (i+1) s2.heap/\∀b∈fp,H' b=none) E s1) E s
 done:∀(X:Cx),X.prog=P->X.w=w->X.K=K->X.calm=true->∀(i:Nat)(pins:List (Addr×Obj))(s:kE)(σ:St)(H:Hp)(E:kC->kE->Prop),Inv X pins σ H s->(∀b∈fp,yS X pins H b)->tn i s.heap->J.stop i H->
  wpAny (model P w) X.A (gb (.ref it)) (λr s1=>r=none/\Inv X pins σ H s1) E s
 self:∀(A:pI)(i:Nat)(s:kE)(Q:kC->kE->Prop)(E:kC->kE->Prop),tn i s.heap->Q (.ref it) s->wpAny (model P w) A (FI (.ref it)) Q E s
abbrev TI:=St->Hp->(It->Hp->Prop)->Prop
def PIE(X:Cx)(pins:List (Addr×Obj))(σ:St)(tg:Expr)(R:It->Hp->Prop)(itv:kC)(s2:kE):Prop:=
 ∃(it:Addr)(fp:List Addr)(tn:Nat->Heap->Prop)(J:It)(H':Hp),itv=.ref it/\Inv X pins σ H' s2/\Turn X.prog X.w X.K tg J fp it tn/\tn 0 s2.heap/\(∀b∈fp,yS X pins H' b)/\R J H'
def PI(X:Cx)(tg iter:Expr)(wi:TI):Prop:=
 ∀(pins:List (Addr×Obj))(s:kE)(σ:St)(H:Hp)(R:It->Hp->Prop),Inv X pins σ H s->wi σ H R->
  wpAny (model X.prog X.w) X.A (eval iter X.env) (λv s1=>wpAny (model X.prog X.w) X.A (FI v) (PIE X pins σ tg R) X.xe s1) X.xe s
variable{u:kC}
theorem qD{A:pI}{E:kC->kE->Prop}{s:kE}{tg:Expr}{it:Addr}{o:Obj}{n:String}{vs:Array kC}{Q:Unit->kE->Prop}(ho:s.heap.get? it=some o)(hc:o.cls=.type n)(hd:o.data=.fields vs)
  (hn:["enumerate","zip","dict_itemiterator","dict_reverseitemiterator","odict_iterator","itertools.zip_longest","itertools.pairwise"].contains n=false)(hQ:Q () s):wpAny M A (AO tg (.ref it) u) Q E s:=by
 unfold AO
 cases tg<;>first
  |exact kH hQ
  |(cases u<;>first
    |exact kH hQ
    |(refine kB (wpAny_load ho ?_)
      rw[hc,hd];show wpAny M A (if(["enumerate","zip","dict_itemiterator","dict_reverseitemiterator","odict_iterator","itertools.zip_longest","itertools.pairwise"].contains n&&vs[0]?==some (QY _))=true then _ else _) Q E s;rw[if_neg (by intro h;rw[hn,Bool.false_and] at h;cases h)]
      exact kH hQ))
def Itl(K:kF)(a:Addr):It:=
 ⟨λi H=>∃xs x,SqL K H a xs/\xs[i]?=some x,λi H x H'=>H'=H/\∀xs,SqL K H a xs->xs[i]?=some x,λi H=>∃xs,SqL K H a xs/\xs.length<=i⟩
def Itt(K:kF)(a:Addr):It:=
 ⟨λi H=>∃xs x,SqT K H a xs/\xs[i]?=some x,λi H x H'=>H'=H/\∀xs,SqT K H a xs->xs[i]?=some x,λi H=>∃xs,SqT K H a xs/\xs.length<=i⟩
def Itr(lo:Int)(n:Nat):It:=⟨λi _=>i<n,λi H x H'=>H'=H/\x=.int (lo+i),λi _=>n<=i⟩
theorem zca{P:kW}{w:kq}{K:kF}{tg:Expr}(a it:Addr):Turn P w K tg (Itl K a) [it] it (λi h=>h.IsListIter it a i) where
 mem:=by simp
 obj:=λi h st b hb=>by
  have e:b=it:=by simpa using hb
  subst e;obtain⟨o,e,c,d⟩:=st;exact⟨o,e,λv z=>by rw[d] at z;cases z⟩
 keep:=λi h h' st k=>st.at λo e=>k it (by simp) o e
 item:=by
  intro X hP hw hK hc i pins s σ H E I hf st hg;subst hP hw hK;obtain⟨xs,x,hq,hx⟩:=hg;obtain⟨its,rv,p,hz⟩:=I.list hq;obtain⟨u,hu,ru⟩:=rv.get hx;obtain⟨f0,f1,f2,f3,f4,f5⟩:=hf it (by simp)
  refine wpAny_pyNext_list_item st p.isList (x:=u) (by simpa using hu) λh' st' sb=>?_
  have I1:Inv X pins σ H {s with heap:=h'}:=I.turned (t':=s.toks) (λb o hb e=>(sb.2 b hb).trans e) f0 f1 f3 f4 f5;obtain⟨o,e,c,d⟩:=id st';exact⟨u,rfl,qD (s:={s with heap:=h'}) e c d (by decide) ⟨x,H,I1,ru,⟨rfl,λys hy=>by rw[I.list_inj hy hq];exact hx⟩,st',λb hb=>(hf b hb).1⟩⟩
 done:=by
  intro X hP hw hK hc i pins s σ H E I hf st hg;subst hP hw hK;obtain⟨xs,hq,hx⟩:=hg;obtain⟨its,rv,p,hz⟩:=I.list hq;obtain⟨f0,f1,f2,f3,f4,f5⟩:=hf it (by simp)
  have hl:=rv.length;exact wpAny_pyNext_list_end (I.ok.hd hc) st p.isList (by simp;omega) λh' eb=>⟨rfl,I.turned (t':=s.toks) (λb o hb e=>eb b o hb e) f0 f1 f3 f4 f5⟩
 self:=λ_ _ _ _ _ st h=>wpAny_pyIter_listiter st h
theorem zc7{P:kW}{w:kq}{K:kF}{tg:Expr}(a it:Addr):Turn P w K tg (Itt K a) [it] it (λi h=>h.IsTupleIter it a i) where
 mem:=by simp
 obj:=λi h st b hb=>by
  have e:b=it:=by simpa using hb
  subst e;obtain⟨o,e,c,d⟩:=st;exact⟨o,e,λv z=>by rw[d] at z;cases z⟩
 keep:=λi h h' st k=>st.at λo e=>k it (by simp) o e
 item:=by
  intro X hP hw hK hc i pins s σ H E I hf st hg;subst hP hw hK;obtain⟨xs,x,hq,hx⟩:=hg;obtain⟨its,rv,p,hz⟩:=I.tuple hq;obtain⟨u,hu,ru⟩:=rv.get hx;obtain⟨f0,f1,f2,f3,f4,f5⟩:=hf it (by simp)
  refine wpAny_pyNext_tuple_item st (show s.heap.IsTuple a its.toArray from p) (x:=u) (by simpa using hu) λh' st' sb=>?_
  have I1:Inv X pins σ H {s with heap:=h'}:=I.turned (t':=s.toks) (λb o hb e=>(sb.2 b hb).trans e) f0 f1 f3 f4 f5;obtain⟨o,e,c,d⟩:=id st';exact⟨u,rfl,qD (s:={s with heap:=h'}) e c d (by decide) ⟨x,H,I1,ru,⟨rfl,λys hy=>by rw[I.tuple_inj hy hq];exact hx⟩,st',λb hb=>(hf b hb).1⟩⟩
 done:=by
  intro X hP hw hK hc i pins s σ H E I hf st hg;subst hP hw hK;obtain⟨xs,hq,hx⟩:=hg;obtain⟨its,rv,p,hz⟩:=I.tuple hq;obtain⟨f0,f1,f2,f3,f4,f5⟩:=hf it (by simp)
  have hl:=rv.length;exact wpAny_pyNext_tuple_end (I.ok.hd hc) st (show s.heap.IsTuple a its.toArray from p) (by simp;omega) λh' eb=>⟨rfl,I.turned (t':=s.toks) (λb o hb e=>eb b o hb e) f0 f1 f3 f4 f5⟩
 self:=λ_ _ _ _ _ st h=>wpAny_pyIter_tupleiter st h
theorem zf4{P:kW}{w:kq}{K:kF}{tg:Expr}(it:Addr)(lo:Int)(n:Nat):Turn P w K tg (Itr lo n) [it] it (λi h=>IsRangeIter h it (lo+(i:Nat)*1) ((n:Int)-(i:Nat)) 1) where
 mem:=by simp
 obj:=λi h st b hb=>by
  have e:b=it:=by simpa using hb
  subst e;exact⟨_,st,λv z=>by
   have z':EI _=BO v:=z
   cases z'⟩
 keep:=λi h h' st k=>k it (by simp) _ st
 item:=by
  intro X hP hw hK hc i pins s σ H E I hf st hg;subst hP hw hK;obtain⟨f0,f1,f2,f3,f4,f5⟩:=hf it (by simp)
  have W:=Walks.range (prog:=X.prog) (w:=X.w) (I.ok.hd hc) it lo 1 n;refine W.item i s _ _ hg st λv h' tk hv st' kk=>?_;obtain⟨t,rfl⟩:=hv;have I1:Inv X pins σ H {s with heap:=h',toks:=tk}:=I.turned (λb o hb e=>kk b o (by simpa using hb) e) f0 f1 f3 f4 f5
  refine⟨_,rfl,qD (s:={s with heap:=h',toks:=tk}) (n:="range_iterator") st' rfl rfl (by decide) ⟨.int (lo+i),H,I1,⟨t,?_⟩,⟨rfl,rfl⟩,st',λb hb=>(hf b hb).1⟩⟩
  rw[Int.mul_one]
 done:=by
  intro X hP hw hK hc i pins s σ H E I hf st hg;subst hP hw hK;obtain⟨f0,f1,f2,f3,f4,f5⟩:=hf it (by simp)
  exact wpAny_pyNext_range_end (I.ok.hd hc) st (by have:n<=i:=hg;omega) λh' eb=>⟨rfl,I.turned (t':=s.toks) (λb o hb e=>eb b o hb e) f0 f1 f3 f4 f5⟩
 self:=λ_ _ _ _ _ st h=>wpAny_pyIter_rangeiter st h
variable{fp:List Addr}
section
variable{X:Cx}{tg:Expr}
def iList(K:kF)(tl:TE):TI:=λσ H R=>tl σ H λx H1=>∃a,x=.ref a/\(∃xs,SqL K H1 a xs)/\R (Itl K a) H1
def iTup(K:kF)(tl:TE):TI:=λσ H R=>tl σ H λx H1=>∃a,x=.ref a/\(∃xs,SqT K H1 a xs)/\R (Itt K a) H1
def JW{l:Expr}{tl:TE}(hl:PE X l tl):PI X tg l (iList X.K tl):=by
 intro pins s σ H R I h;refine thn (hl pins s σ H _ I h) λv s1⟨x,H1,I1,r1,q1⟩=>?_;obtain⟨a,e,⟨xs,hq⟩,q⟩:=q1;subst e
 cases r1;obtain⟨its,rv,p,hz⟩:=I1.list hq;refine DO p.isList ?_;refine⟨s1.heap.objs.size,[s1.heap.objs.size],_,_,H1,rfl,I1.kept (t':=s1.toks) λb o e=>kG _ e,zca a _,⟨_,kQ _ rfl,rfl,rfl⟩,λb hb=>?_,q⟩;have e:b=s1.heap.objs.size:=by simpa using hb
 subst e;exact I1.fpOk (kN _) (I1.hok.fresh (kN _))
def pi_tup{l:Expr}{tl:TE}(hl:PE X l tl):PI X tg l (iTup X.K tl):=by
 intro pins s σ H R I h;refine thn (hl pins s σ H _ I h) λv s1⟨x,H1,I1,r1,q1⟩=>?_;obtain⟨a,e,⟨xs,hq⟩,q⟩:=q1;subst e
 cases r1;obtain⟨its,rv,p,hz⟩:=I1.tuple hq;refine Ag (show s1.heap.IsTuple a its.toArray from p) ?_;refine⟨s1.heap.objs.size,[s1.heap.objs.size],_,_,H1,rfl,I1.kept (t':=s1.toks) λb o e=>kG _ e,zc7 a _,⟨_,kQ _ rfl,rfl,rfl⟩,λb hb=>?_,q⟩;have e:b=s1.heap.objs.size:=by simpa using hb
 subst e;exact I1.fpOk (kN _) (I1.hok.fresh (kN _))
variable{pins:List (Addr×Obj)}{σ:St}{H:Hp}
theorem Zw{s:kE}{R:It->Hp->Prop}{E:kC->kE->Prop}{lo hi:Int}{t u v:Tok}{tk:Nat}(I:Inv X pins σ H s)(h1: -(2^62)<=lo)(h2:lo<2^62)(h3: -(2^62)<=hi)(h4:hi<2^62)
  (q:R (Itr lo (hi-lo).toNat) H):wpAny (model X.prog X.w) X.A (FI (.ref s.heap.objs.size)) (PIE X pins σ tg R) E {s with heap:=s.heap.push {cls:=.type "range",data:=.fields #[.int lo t,.int hi u,.int 1 v]},toks:=tk}:=by
 refine wpAny_pyIter_range (IsRange.new ..) (small_one h1 h2 h3 h4) ?_;have I1:Inv X pins σ H {s with heap:=s.heap.push {cls:=.type "range",data:=.fields #[.int lo t,.int hi u,.int 1 v]},toks:=tk}:=I.kept λb o e=>kG _ e;refine⟨(s.heap.push {cls:=.type "range",data:=.fields #[.int lo t,.int hi u,.int 1 v]}).objs.size,[(s.heap.push {cls:=.type "range",data:=.fields #[.int lo t,.int hi u,.int 1 v]}).objs.size],_,_,H,rfl,
  I1.kept (t':=tk) λb o e=>kG _ e,zf4 _ lo (hi-lo).toNat,?_,λb hb=>?_,q⟩
 ·have e1:lo+((0:Nat):Int)*1=lo:=by simp
  have e2:(((hi-lo).toNat:Nat):Int)-((0:Nat):Int)=BP lo hi 1:=by rw[rangeSize_one];split<;>omega
  show IsRangeIter _ _ (lo+((0:Nat):Int)*1) ((((hi-lo).toNat:Nat):Int)-((0:Nat):Int)) 1
  rw[e1,e2];exact kQ _ rfl
 ·have e:b=(s.heap.push {cls:=.type "range",data:=.fields #[.int lo t,.int hi u,.int 1 v]}).objs.size:=by simpa using hb
  subst e;exact I1.fpOk (kN _) (I1.hok.fresh (kN _))
def iRng1(ta:TA):TI:=λσ H R=>ta σ H λvs H1=>∃j:Int,vs=[.int j]/\ -(2^62)<=j/\j<2^62/\R (Itr 0 j.toNat) H1
def iRng2(ta:TA):TI:=λσ H R=>ta σ H λvs H1=>∃i j:Int,vs=[.int i,.int j]/\(-(2^62)<=i/\i<2^62/\ -(2^62)<=j/\j<2^62)/\R (Itr i (j-i).toNat) H1
variable{pos:Pos}
theorem zc4{a:Expr}{ta:TA}{p:Pos}(hg:Gl X "range")(hm:X.mg "range"=none)(ha:PA X [a] ta)(hs:kJ [a] X.env=[(false,eval a X.env)]:=by rfl):PI X tg (.Call (.Name "range" p) [a] [] pos) (iRng1 ta):=by
 intro pins s σ H R I h;refine Call_ (xk I hg hm Ei (py (thn (ha pos pins s σ H _ I h) λus s1⟨vs,H1,I1,r1,q1⟩=>?_) hs rfl));obtain⟨j,e,q1,q2,q⟩:=q1;subst e
 cases r1 with
 |cons r rr=>
  cases rr;obtain⟨t,rfl⟩:=r;exact call_range_1 (Zw I1 (by omega) (by omega) q1 q2 (by simpa using q))
theorem zau{a b:Expr}{ta:TA}{p:Pos}(hg:Gl X "range")(hm:X.mg "range"=none)(ha:PA X [a,b] ta)(hs:kJ [a,b] X.env=[(false,eval a X.env),(false,eval b X.env)]:=by rfl)(hs2:kJ [b] X.env=[(false,eval b X.env)]:=by rfl):
  PI X tg (.Call (.Name "range" p) [a,b] [] pos) (iRng2 ta):=by
 intro pins s σ H R I h;refine Call_ (xk I hg hm Ei (py (thn (ha pos pins s σ H _ I h) λus s1⟨vs,H1,I1,r1,q1⟩=>?_) (by rw[hs,hs2]) (by rw[hs2];rfl)))
 obtain⟨i,j,e,⟨q1,q2,q3,q4⟩,q⟩:=q1;subst e
 cases r1 with
 |cons r rr=>
  cases rr with
  |cons r' rr=>
   cases rr;obtain⟨t,rfl⟩:=r;obtain⟨t',rfl⟩:=r';exact call_range_2 (Zw I1 q1 q2 q3 q4 q)
def tFor(wi:TI)(g:TG)(tb:TS):TS:=λD σ H=>wi σ H λJ H1=>∃W:Nat->Nat->St->Hp->Prop,(∃m,W 0 m σ H1)/\∀i m σ H,W i m σ H->
 (J.stop i H/\D.nx σ H)∨(J.go i H/\∃N:St->Hp->Prop,(∀σ' H',N σ' H'->∃m',m'<m/\W (i+1) m' σ' H')/\∀x H',J.yld i H x H'->g x σ H' λσ2 H2=>tb {D with nx:=N,ct:=N,bk:=D.nx} σ2 H2)
def jy(fp:List Addr)(h:Heap):List (Addr×Obj):=fp.filterMap λb=>(h.get? b).map λo=>(b,o)
def Ye{h:Heap}{b:Addr}{o:Obj}(hb:b∈fp)(e:h.get? b=some o):(b,o)∈jy fp h:=Uc.mpr ⟨b,hb,by rw[e];rfl⟩
theorem zc0{h:Heap}{p:Addr×Obj}(hp:p∈jy fp h):p.1∈fp/\h.get? p.1=some p.2:=by
 obtain⟨b,hb,e⟩:=Uc.mp hp
 cases q:h.get? b with
 |none=>rw[q] at e;cases e
 |some o=>
  rw[q] at e;have e':(b,o)=p:=pL e;subst e';exact⟨hb,q⟩
def Inv.pinned{s:kE}(I:Inv X pins σ H s)(hf:∀b∈fp,yS X pins H b)(ho:∀b∈fp,∃o,s.heap.get? b=some o/\∀v,o.data≠.cell v):Inv X (pins++jy fp s.heap) σ H s:=
 I.pins_of λp hp=>(pS.mp hp).elim (λz=>I.pin p (kT _ z)) λz=>by
  obtain⟨hb,e⟩:=zc0 z;obtain⟨f0,f1,f2,_⟩:=hf p.1 hb;obtain⟨o,e',d⟩:=ho p.1 hb;rw[e] at e';cases e';exact⟨e,f0,f1,f2,d⟩
def Inv.unpinned{pl:List (Addr×Obj)}{s:kE}(I:Inv X (pins++pl) σ H s):Inv X pins σ H s:=I.pins_of λp hp=>I.pin p (kT _ (UJ _ hp))
theorem ps_for{iter:Expr}{wi:TI}{g:TG}{tb:TS}(hp:Do (model X.prog X.w) X.A X.env X.xe)(hc:X.calm=true)(hi:PI X tg iter wi)(hg:PG X tg g)(hb:PSs X body tb)
  (hs:∀x,uY iter X.env x=pure x:=by intro _;rfl):PS X (.For tg iter body [] pos) (tFor wi g tb):=by
 intro pins s σ H D I h;refine wpAny_For (thn (hi pins s σ H _ I h) λv s1 h1=>thn h1 λitv s2 h2=>?_) hs;obtain⟨it,fp,tn,J,H2,e,I2,T,st2,f2,W,⟨m0,w0⟩,turn⟩:=h2;subst e;have stat:∀{H':Hp},(∀b∈fp,H' b=none)->∀b∈fp,yS X pins H' b:=λhn b hb=>⟨hn b hb,(f2 b hb).2⟩;refine codeAny_forLoop_any (λn s'=>∃i σ' H',Inv X pins σ' H' s'/\tn i s'.heap/\(∀b∈fp,H' b=none)/\W i n σ' H') ?_ m0 ⟨0,σ,H2,I2,st2,λb hb=>(f2 b hb).1,w0⟩;rintro n s3 ⟨i,σ3,H3,I3,st3,fr3,w3⟩;rcases turn i n σ3 H3 w3 with⟨stop,qn⟩|⟨go,N,hN,step⟩
 ·refine UH hp (thn (T.done X rfl rfl rfl hc i pins s3 σ3 H3 X.xe I3 (stat fr3) st3 stop) λr s4⟨hr,I4⟩=>?_);subst hr;exact gH ⟨σ3,H3,I4,qn⟩
 ·refine UH hp (thn (T.item X rfl rfl rfl hc i pins s3 σ3 H3 X.xe I3 (stat fr3) st3 go) λr s4⟨u,hr,h4⟩=>?_);subst hr;refine UH hp (thn h4 λ_ s5⟨x,H5,I5,r5,y5,st5,fr5⟩=>?_);have I5':=I5.pinned (stat fr5) (T.obj _ _ st5);refine UH hp (thn (hg _ s5 σ3 H5 x u _ I5' r5 (step x H5 y5)) λ_ s6⟨σ6,H6,I6,q6⟩=>?_);refine UH hp (thn (hb _ s6 σ6 H6 _ I6 q6) λf s7 q7=>?_);have again:∀{σ7:St}{H7:Hp},Inv X (pins++jy fp s5.heap) σ7 H7 s7->N σ7 H7->∃m,m<n/\∃i σ' H',Inv X pins σ' H' s7/\tn i s7.heap/\(∀b∈fp,H' b=none)/\W i m σ' H':=λ{σ7 H7} I7 n7=>by
   obtain⟨m',hm,w7⟩:=hN σ7 H7 n7;refine⟨m',hm,i+1,σ7,H7,I7.unpinned,T.keep _ _ _ st5 λb hb o e=>(I7.pin (b,o) (kT _ (kT _ (Ye hb e)))).1,λb hb=>?_,w7⟩;obtain⟨o,e,d⟩:=T.obj _ _ st5 b hb;exact(I7.pin (b,o) (kT _ (kT _ (Ye hb e)))).2.1
  cases f with
  |next=>obtain⟨σ7,H7,I7,n7⟩:=q7;exact again I7 n7
  |cont=>obtain⟨σ7,H7,I7,n7⟩:=q7;exact again I7 n7
  |brk=>obtain⟨σ7,H7,I7,q7⟩:=q7;exact⟨σ7,H7,I7.unpinned,q7⟩
  |ret v=>obtain⟨x7,σ7,H7,I7,r7,q7⟩:=q7;exact⟨x7,σ7,H7,I7.unpinned,r7,q7⟩
end
abbrev R2:=V->V->Hp->VK->Prop
def OpR(X:Cx)(f:kC->kC->Sem kC)(r:R2):Prop:=
 ∀(pins:List (Addr×Obj))(s:kE)(σ:St)(H:Hp)(x y:V)(v u:kC)(Q:VK),Inv X pins σ H s->zt x v->zt y u->r x y H Q->
  wpAny (model X.prog X.w) X.A (f v u) (EP X pins σ Q) X.xe s
def UnR(X:Cx)(f:kC->Sem kC)(r:V->Hp->VK->Prop):Prop:=
 ∀(pins:List (Addr×Obj))(s:kE)(σ:St)(H:Hp)(x:V)(v:kC)(Q:VK),Inv X pins σ H s->zt x v->r x H Q->
  wpAny (model X.prog X.w) X.A (f v) (EP X pins σ Q) X.xe s
def yd(X:Cx)(f:kC)(r:List V->Hp->VK->Prop):Prop:=
 ∀(pins:List (Addr×Obj))(s:kE)(σ:St)(H:Hp)(xs:List V)(us:List kC)(Q:VK),Inv X pins σ H s->zr xs us->r xs H Q->
  wpAny (model X.prog X.w) X.A (call f us) (EP X pins σ Q) X.xe s
def tOp(r:R2)(ta tb:TE):TE:=λσ H Q=>ta σ H λx H1=>tb σ H1 λy H2=>r x y H2 Q
def tUn(r:V->Hp->VK->Prop)(ta:TE):TE:=λσ H Q=>ta σ H λx H1=>r x H1 Q
def rI(C:Int->Int->Prop)(g:Int->Int->V):R2:=λx y H Q=>∃i j,x=.int i/\y=.int j/\C i j/\Q (g i j) H
def rI0(g:Int->Int->V):R2:=λx y H Q=>∃i j,x=.int i/\y=.int j/\Q (g i j) H
def rU(g:Int->V):V->Hp->VK->Prop:=λx H Q=>∃i,x=.int i/\Q (g i) H
variable{g:Int->Int->Int}
section
variable{X:Cx}{a b c:Expr}{ta tb tc:TE}{pos:Pos}
def binT(ha:PE X a ta)(hb:PE X b tb){pins:List (Addr×Obj)}{s:kE}{σ:St}{H:Hp}{R:V->V->Hp->Prop}(I:Inv X pins σ H s)
  (h:ta σ H λx H1=>tb σ H1 λy H2=>R x y H2){Q:kC->kE->Prop}{f:kC->kC->Sem kC}
  (hf:∀v u s2 x y H2,Inv X pins σ H2 s2->zt x v->zt y u->R x y H2->wpAny (model X.prog X.w) X.A (f v u) Q X.xe s2):
  wpAny (model X.prog X.w) X.A (eval a X.env) (λv s₁=>wpAny (model X.prog X.w) X.A (eval b X.env) (λu s₂=>wpAny (model X.prog X.w) X.A (f v u) Q X.xe s₂) X.xe s₁) X.xe s:=by
 refine thn (ha pins s σ H _ I h) λv s1⟨x,H1,I1,r1,q1⟩=>?_;refine thn (hb pins s1 σ H1 _ I1 q1) λu s2⟨y,H2,I2,r2,q2⟩=>?_;exact hf v u s2 x y H2 I2 r1 r2 q2
def wv{op:Operator}{r:R2}(ho:OpR X (Uv op) r)(ha:PE X a ta)(hb:PE X b tb):PE X (.BinOp a op b pos) (tOp r ta tb):=by
 intro pins s σ H Q I h;exact wpAny_BinOp (binT ha hb I h λv u s2 x y H2 I2 rx ry q=>ho pins s2 σ H2 x y v u Q I2 rx ry q)
def pe_un{op:UnaryOp}{r:V->Hp->VK->Prop}(ho:UnR X (unaryOp op) r)(ha:PE X a ta):PE X (.UnaryOp op a pos) (tUn r ta):=by
 intro pins s σ H Q I h;exact UnaryOp_ (thn (ha pins s σ H _ I h) λv s1⟨x,H1,I1,r1,q1⟩=>ho pins s1 σ H1 x v Q I1 r1 q1)
variable{f:kC->kC->Sem kC}
def opI{C:Int->Int->Prop}
  (rule:∀(i j:Int)(t u:Tok)(s:kE)(Q:kC->kE->Prop)(E:kC->kE->Prop),C i j->Q (.int (g i j) s.toks) {s with toks:=s.toks+1}->wpAny (model X.prog X.w) X.A (f (.int i t) (.int j u)) Q E s):
  OpR X f (rI C λi j=>.int (g i j)):=by
 intro pins s σ H x y v u Q I rx ry h;obtain⟨i,j,rfl,rfl,hc,q⟩:=h;obtain⟨t,rfl⟩:=rx;obtain⟨t',rfl⟩:=ry;exact rule i j t t' s _ _ hc ⟨.int (g i j),H,I.tok _,⟨_,rfl⟩,q⟩
def opI0
  (rule:∀(i j:Int)(t u:Tok)(s:kE)(Q:kC->kE->Prop)(E:kC->kE->Prop),Q (.int (g i j) s.toks) {s with toks:=s.toks+1}->wpAny (model X.prog X.w) X.A (f (.int i t) (.int j u)) Q E s):
  OpR X f (rI0 λi j=>.int (g i j)):=by
 intro pins s σ H x y v u Q I rx ry h;obtain⟨i,j,rfl,rfl,q⟩:=h;obtain⟨t,rfl⟩:=rx;obtain⟨t',rfl⟩:=ry;exact rule i j t t' s _ _ ⟨.int (g i j),H,I.tok _,⟨_,rfl⟩,q⟩
def opB0{g:Int->Int->Bool}
  (rule:∀(i j:Int)(t u:Tok)(s:kE)(Q:kC->kE->Prop)(E:kC->kE->Prop),Q (.bool (g i j)) s->wpAny (model X.prog X.w) X.A (f (.int i t) (.int j u)) Q E s):
  OpR X f (rI0 λi j=>.bl (g i j)):=by
 intro pins s σ H x y v u Q I rx ry h;obtain⟨i,j,rfl,rfl,q⟩:=h;obtain⟨t,rfl⟩:=rx;obtain⟨t',rfl⟩:=ry;exact rule i j t t' s _ _ ⟨.bl (g i j),H,I,rfl,q⟩
def CDiv(i j:Int):Prop:=0<j/\j<1073741824
def CPow(i j:Int):Prop:=0<=j/\j<=1000000/\i.natAbs<2^64
def jv:OpR X (Uv .Add) (rI0 λi j=>.int (i+j)):=opI0 λ_ _ _ _ _ _ _ q=>add_int q
def op_sub:OpR X (Uv .Sub) (rI0 λi j=>.int (i-j)):=opI0 λ_ _ _ _ _ _ _ q=>sub_int q
theorem Va:OpR X (Uv .FloorDiv) (rI CDiv λi j=>.int (i/j)):=opI λi j _ _ _ _ _ hc q=>by
 have h1:(0:Int)<j:=hc.1;have h2:j<1073741824:=hc.2;exact floordiv_int (by omega) (by rw[Int.fdiv_eq_ediv_of_nonneg i (by omega)];exact q) (.inl (PyProof.noPylong_small (by omega)))
def op_modN:OpR X (Uv .Mod) (rI (λ_ j=>j≠0) λi j=>.int (i.fmod j)):=opI λ_ _ _ _ _ _ _ hc q=>mod_int' hc q
def unI{f:kC->Sem kC}{g:Int->Int}
  (rule:∀(i:Int)(t:Tok)(s:kE)(Q:kC->kE->Prop)(E:kC->kE->Prop),Q (.int (g i) s.toks) {s with toks:=s.toks+1}->wpAny (model X.prog X.w) X.A (f (.int i t)) Q E s):
  UnR X f (rU λi=>.int (g i)):=by
 intro pins s σ H x v Q I rx h;obtain⟨i,rfl,q⟩:=h;obtain⟨t,rfl⟩:=rx;exact rule i t s _ _ ⟨.int (g i),H,I.tok _,⟨_,rfl⟩,q⟩
def un_neg:UnR X (unaryOp .USub) (rU λi=>.int (-i)):=unI λ_ _ _ _ _ q=>neg_int q
end
def scal:V->V->Bool
 |.non,.non=>true|.non,.int _=>true|.int _,.non=>true|.non,.bl _=>true|.bl _,.non=>true|.non,.str _=>true|.str _,.non=>true
 |.int _,.int _=>true|.bl _,.bl _=>true|.str _,.str _=>true|.byt _,.byt _=>true
 |.int _,.str _=>true|.str _,.int _=>true|.bl _,.str _=>true|.str _,.bl _=>true
 |_,_=>false
def rEq:R2:=λx y H Q=>scal x y=true/\Q (.bl (decide (x=y))) H
def rNe:R2:=λx y H Q=>scal x y=true/\Q (.bl (!decide (x=y))) H
def V0{i j:Int}:decide (V.int i=V.int j)=(i==j):=by
 rw[UI]
 simp
def JC{i j:Bool}:decide (V.bl i=V.bl j)=(i==j):=by
 rw[UI]
 simp
def V8{i j:Str}:decide (V.str i=V.str j)=(i==j):=by
 rw[UI]
 simp
def JP{i j:Array UInt8}:decide (V.byt i=V.byt j)=(i.toList==j.toList):=by
 rw[UI]
 cases i
 cases j
 simp
variable{op:CmpOp}
section
variable{X:Cx}{a b c:Expr}{ta tb tc:TE}{pos:Pos}
def zX{pins:List (Addr×Obj)}{σ:St}{H:Hp}{s:kE}{Q:VK}{k k':Bool}(I:Inv X pins σ H s)(q:Q (.bl k) H)(e:k=k'):EP X pins σ Q (.bool k') s:=by
 subst e;exact⟨.bl k,H,I,rfl,q⟩
theorem op_eq:OpR X (ug .Eq) rEq:=by
 intro pins s σ H x y v u Q I rx ry h;obtain⟨hs,q⟩:=h
 cases x with
 |non=>
  cases rx
  cases y with
  |non=>cases ry;exact PySem.EqNone.eq_none_none (zX I q (by simp))
  |bl j=>cases ry;exact PySem.EqNone.eq_none_bool (zX I q (by simp))
  |int j=>obtain⟨t',rfl⟩:=ry;exact PySem.EqNone.eq_none_int (zX I q (by simp))
  |str j=>obtain⟨t',rfl⟩:=ry;exact PySem.EqNone.eq_none_str (zX I q (by simp))
  |_=>exact absurd (show false=true from hs) kZ
 |bl i=>
  cases rx
  cases y with
  |non=>cases ry;exact PySem.EqNone.eq_bool_none (zX I q (by simp))
  |bl j=>cases ry;exact eq_bool (zX I q JC)
  |str j=>obtain⟨t',rfl⟩:=ry;exact PySem.EqMixed.eq_bool_str (zX I q (by simp))
  |_=>exact absurd (show false=true from hs) kZ
 |int i=>
  obtain⟨t,rfl⟩:=rx
  cases y with
  |non=>cases ry;exact PySem.EqNone.eq_int_none (zX I q (by simp))
  |int j=>obtain⟨t',rfl⟩:=ry;exact eq_int (zX I q V0)
  |str j=>obtain⟨t',rfl⟩:=ry;exact PySem.EqMixed.eq_int_str (zX I q (by simp))
  |_=>exact absurd (show false=true from hs) kZ
 |str i=>
  obtain⟨t,rfl⟩:=rx
  cases y with
  |non=>cases ry;exact PySem.EqNone.eq_str_none (zX I q (by simp))
  |bl j=>cases ry;exact PySem.EqMixed.eq_str_bool (zX I q (by simp))
  |int j=>obtain⟨t',rfl⟩:=ry;exact PySem.EqMixed.eq_str_int (zX I q (by simp))
  |str j=>obtain⟨t',rfl⟩:=ry;exact eq_str (zX I q V8)
  |_=>exact absurd (show false=true from hs) kZ
 |byt i=>
  obtain⟨t,rfl⟩:=rx
  cases y with
  |byt j=>obtain⟨t',rfl⟩:=ry;exact PySem.W.eq_bytes (zX I q JP)
  |_=>exact absurd (show false=true from hs) kZ
 |_=>cases y<;>exact absurd (show false=true from hs) kZ
theorem op_ne:OpR X (ug .NotEq) rNe:=by
 intro pins s σ H x y v u Q I rx ry h;obtain⟨hs,q⟩:=h
 cases x with
 |non=>
  cases rx
  cases y with
  |non=>cases ry;exact PySem.EqNone.ne_none_none (zX I q (by simp))
  |bl j=>cases ry;exact PySem.EqNone.ne_none_bool (zX I q (by simp))
  |int j=>obtain⟨t',rfl⟩:=ry;exact PySem.EqNone.ne_none_int (zX I q (by simp))
  |str j=>obtain⟨t',rfl⟩:=ry;exact PySem.EqNone.ne_none_str (zX I q (by simp))
  |_=>exact absurd (show false=true from hs) kZ
 |bl i=>
  cases rx
  cases y with
  |non=>cases ry;exact PySem.EqNone.ne_bool_none (zX I q (by simp))
  |bl j=>cases ry;exact ne_bool (zX I q (congrArg not JC))
  |str j=>obtain⟨t',rfl⟩:=ry;exact PySem.EqMixed.ne_bool_str (zX I q (by simp))
  |_=>exact absurd (show false=true from hs) kZ
 |int i=>
  obtain⟨t,rfl⟩:=rx
  cases y with
  |non=>cases ry;exact PySem.EqNone.ne_int_none (zX I q (by simp))
  |int j=>obtain⟨t',rfl⟩:=ry;exact ne_int (zX I q (congrArg not V0))
  |str j=>obtain⟨t',rfl⟩:=ry;exact PySem.EqMixed.ne_int_str (zX I q (by simp))
  |_=>exact absurd (show false=true from hs) kZ
 |str i=>
  obtain⟨t,rfl⟩:=rx
  cases y with
  |non=>cases ry;exact PySem.EqNone.ne_str_none (zX I q (by simp))
  |bl j=>cases ry;exact PySem.EqMixed.ne_str_bool (zX I q (by simp))
  |int j=>obtain⟨t',rfl⟩:=ry;exact PySem.EqMixed.ne_str_int (zX I q (by simp))
  |str j=>obtain⟨t',rfl⟩:=ry;exact ne_str (zX I q (congrArg not V8))
  |_=>exact absurd (show false=true from hs) kZ
 |byt i=>
  obtain⟨t,rfl⟩:=rx
  cases y with
  |byt j=>obtain⟨t',rfl⟩:=ry;exact PySem.W.ne_bytes (zX I q (congrArg not JP))
  |_=>exact absurd (show false=true from hs) kZ
 |_=>cases y<;>exact absurd (show false=true from hs) kZ
def qc:OpR X (ug .Lt) (rI0 λi j=>.bl (decide (i<j))):=opB0 λ_ _ _ _ _ _ _ q=>lt_int q
def op_le:OpR X (ug .LtE) (rI0 λi j=>.bl (decide (i<=j))):=opB0 λ_ _ _ _ _ _ _ q=>le_int q
def op_gt:OpR X (ug .Gt) (rI0 λi j=>.bl (decide (j<i))):=opB0 λ_ _ _ _ _ _ _ q=>gt_int q
def op_ge:OpR X (ug .GtE) (rI0 λi j=>.bl (decide (j<=i))):=opB0 λ_ _ _ _ _ _ _ q=>ge_int q
theorem op_isN:OpR X (ug .Is) (λx y H Q=>y=.non/\Q (.bl (decide (x=.non))) H):=by
 intro pins s σ H x y v u Q I rx ry h;obtain⟨rfl,q⟩:=h
 cases ry;refine is_none_gen (zX I q ?_)
 cases x<;>first
  |(cases rx;rfl)
  |(obtain⟨t,rfl⟩:=rx;rfl)
def nomark(b:Expr)(h:op≠.In:=by decide)(h2:op≠.NotIn:=by decide):um op b=false:=by
 have e1:(op==CmpOp.In)=false:=by cases op<;>first|rfl|exact absurd rfl h
 have e2:(op==CmpOp.NotIn)=false:=by cases op<;>first|rfl|exact absurd rfl h2
 cases b<;>simp[um,e1,e2]
def pe_cmpR{r:R2}(ho:OpR X (ug op) r)(ha:PE X a ta)(hb:PE X b tb)(hm:um op b=false):PE X (.Compare a [op] [b] pos) (tOp r ta tb):=by
 intro pins s σ H Q I h;exact wpAny_Compare1 (binT ha hb I h λv u s2 x y H2 I2 rx ry q=>ho pins s2 σ H2 x y v u Q I2 rx ry q) hm
def tTest(t:TE):TT:=λσ H Q=>t σ H λx H'=>∃k,x=.bl k/\Q k H'
def XG{r:R2}(ho:OpR X (ug op) r)(ha:PE X a ta)(hb:PE X b tb)(hm:um op b=false):PT X (.Compare a [op] [b] pos) (tTest (tOp r ta tb)):=by
 intro pins s σ H Q I h;refine CA (thn (ha pins s σ H _ I h) λv s1⟨x,H1,I1,r1,q1⟩=>thn (hb pins s1 σ H1 _ I1 q1) λu s2⟨y,H2,I2,r2,q2⟩=>
  thn (ho pins s2 σ H2 x y v u _ I2 r1 r2 q2) λc s3⟨z,H3,I3,r3,k,e,q3⟩=>?_) hm
 subst e
 cases r3;exact QO ⟨H3,I3,q3⟩
def line63:(sizeLine:Nat)<2^63:=by rw[AI];decide
def zd1:OpR X (Uv .Add) (λx y H Q=>∃i j,x=.str i/\y=.str j/\i.length+j.length<=sizeLine/\Q (.str (i++j)) H):=by
 intro pins s σ H x y v u Q I rx ry h;obtain⟨i,j,rfl,rfl,hz,q⟩:=h;obtain⟨t,rfl⟩:=rx;obtain⟨t',rfl⟩:=ry;exact add_str (λt' tk=>⟨.str (i++j),H,I.tok _,⟨_,rfl⟩,q⟩) hz
variable{us:List kC}
theorem vals1{x:V}(r:zr [x] us):∃u,us=[u]/\zt x u:=by
 cases r with
 |cons r1 r2=>cases r2;exact⟨_,rfl,r1⟩
theorem vals2{x y:V}(r:zr [x,y] us):∃u w',us=[u,w']/\zt x u/\zt y w':=by
 cases r with
 |cons r1 r2=>
  cases r2 with
  |cons r3 r4=>cases r4;exact⟨_,_,rfl,r1,r3⟩
def zcl:yd X (.builtin "abs") (λxs H Q=>∃i,xs=[.int i]/\Q (.int (if i<0 then-i else i)) H):=by
 intro pins s σ H xs us Q I r h;obtain⟨i,rfl,q⟩:=h;obtain⟨u,rfl,t,rfl⟩:=vals1 r;exact call_abs_int λu tk=>⟨.int (if i<0 then-i else i),H,I.tok _,⟨_,rfl⟩,q⟩
def zct(hc:X.calm=true):yd X (.builtin "max") (λxs H Q=>∃i j,xs=[.int i,.int j]/\Q (.int (if j>i then j else i)) H):=by
 intro pins s σ H xs us Q I r h;obtain⟨i,j,rfl,q⟩:=h;obtain⟨u,w',rfl,⟨t,rfl⟩,⟨t',rfl⟩⟩:=vals2 r;refine max_two_ints (I.ok.hd hc) λh' tk k=>⟨_,H,I.kept k,?_,q⟩
 by_cases hj:j>i
 ·rw[if_pos hj,if_pos hj];exact⟨_,rfl⟩
 ·rw[if_neg hj,if_neg hj];exact⟨_,rfl⟩
def zf3(hc:X.calm=true):yd X (.builtin "min") (λxs H Q=>∃i j,xs=[.int i,.int j]/\Q (.int (if j<i then j else i)) H):=by
 intro pins s σ H xs us Q I r h;obtain⟨i,j,rfl,q⟩:=h;obtain⟨u,w',rfl,⟨t,rfl⟩,⟨t',rfl⟩⟩:=vals2 r;refine min_two_ints (I.ok.hd hc) λh' tk k=>⟨_,H,I.kept k,?_,q⟩
 by_cases hj:j<i
 ·rw[if_pos hj,if_pos hj];exact⟨_,rfl⟩
 ·rw[if_neg hj,if_neg hj];exact⟨_,rfl⟩
def zag:yd X (.type "str") (λxs H Q=>∃i,xs=[.int i]/\i.natAbs.log2<1920/\Q (.str (Ah i)) H):=by
 intro pins s σ H xs us Q I r h;obtain⟨i,rfl,hz,q⟩:=h;obtain⟨u,rfl,t,rfl⟩:=vals1 r;exact PySem.P.str_of_int hz ⟨.str _,H,I.tok _,⟨_,rfl⟩,q⟩
end
structure wR(h:Heap)(x dx C:Addr)(mA:Str->Option kC):Prop where
 obj:h.get? x=some (Qk C dx)
 ns:h.Ns1 dx mA
 ne:dx≠x
theorem zc2{h:Heap}{dx:Addr}{mA:Str->Option kC}(n:h.Ns1 dx mA):∃od,h.get? dx=some od/\∀name,Ai name od=some (mA name):=by
 obtain⟨o,es,ep,ho,hd,hk,_,hm⟩:=n;refine⟨o,ho,λname=>?_⟩;have e:=hm name;unfold nsFind findBy at e;rw[←Array.find?_toList] at e;unfold Ai;rw[hd];dsimp only
 split
 ·rename_i y q
  rw[q] at e;exact congrArg some e
 ·rename_i q
  rw[q] at e;have a:es.toList.any (·.refKey)=false:=by
   rw[List.any_eq_false];intro y hy;obtain⟨z,t,hkey⟩:=hk y (Array.mem_toList_iff.mp hy)
   simp[DictEntry.refKey,hkey]
  have a':¬es.toList.any (·.refKey)=true:=by rw[a];exact kZ
  rw[if_neg a'];exact congrArg some e
def wR.look{h:Heap}{x dx C:Addr}{mA:Str->Option kC}(I:wR h x dx C mA):∃od,PySem.W.InstAt h x (Qk C dx) C (some od)/\∀name,Ai name od=some (mA name):=
 let⟨od,ho,hl⟩:=zc2 I.ns
 ⟨od,⟨I.obj,rfl,rfl,ho⟩,hl⟩
variable{pl:Sem Bool}{kw:List (Str×kC)}
section
variable{prog:kW}{w:kq}{A:pI}{E:kC->kE->Prop}{s:kE}{K:kF}{x dx C f:Addr}{mA:Str->Option kC}{name:Str}{v:kC}
def get_map{expr:Bool}{Q:kC->kE->Prop}(X:K.In s.heap)(I:wR s.heap x dx C mA)(hg:hU K C name=true)(hh:gc K C=true)
  (ha:pY K (.ref C) name=some none)(hv:mA name=some v)(hv':Dq v=true)(h:Q v {s with toks:=s.toks+1}):
  wpAny (model prog w) A (getAttr (.ref x) name expr) Q E s:=by
 obtain⟨od,J,hl⟩:=I.look;exact PySem.W.get_value X J (AW hg).1 (PySem.W.findObj_own hh ha rfl (by rw[hl,hv])) hv' h
def zc6{Q:kC×List kC->kE->Prop}(X:K.In s.heap)(I:wR s.heap x dx C mA)(hg:hU K C name=true)
  (hf:pY K (.ref C) name=some (some (.ref f)))(ht:AZ K (.ref f)=true)(hv:mA name=none)(h:Q (.ref f,[.ref x]) s):
  wpAny (model prog w) A (Dr (.ref x) name pl) Q E s:=by
 obtain⟨od,J,hl⟩:=I.look;exact PySem.W.method_fn X J (AW hg).1 (AW hg).2 hf (beq_iff_eq.mp ht) (by show(Ai name od).map (·.isSome)=some false;rw[hl,hv];rfl) h
theorem set_map{ns:List Str}{Q:Unit->kE->Prop}(X:K.In s.heap)(I:wR s.heap x dx C mA)
  (hs:pY K (.ref C) "__setattr__"=some (some (.builtin "object.__setattr__")))(hp:BB K C=true)(ht:Br K C name=some none)(hh:gc K C=true)
  (hw:DM mA ns)(hsz:ns.length<=sizeLine)
  (h:∀h',wR h' x dx C (λy=>if y=name then some v else mA y)->Qc dx s.heap h'->Q () {s with heap:=h',toks:=s.toks+2}):
  wpAny (model prog w) A (setAttr (.ref x) name v) Q E s:=by
 obtain⟨od,J,hl⟩:=I.look;refine PySem.W.set_plain X J hs (PySem.W.osa_open (s:={s with toks:=s.toks+1}) (r:=none) X J hp ht λb=>?_);obtain⟨cd,hc,hd'⟩:=PySem.W.any_some hh;have hx:s.heap.get? x=some ⟨.ref C,some dx,.plain,#[]⟩:=I.obj;refine kB (kH (kB (kB (wpAny_loadPart hx (kB (Aj (s:={s with toks:=s.toks+1}) (PySem.W.looks_clsIn X hc) ?_))))));rw[hd'];refine kH (a:=some dx) (kB (kH (kB ?_)));refine wpAny_nsSet1 (s:={s with toks:=s.toks+1}) I.ns λh' hn2 hs2=>?_;obtain⟨oD,esD,epD,hoD,hdD,hcD⟩:=hn2.count (PySem.Within.cons name v hw);refine kB (wpAny_lookBehind hoD (by rw[hdD];exact pastItsLine_dict (pd hcD (by rw[pH];omega))) ?_)
 exact kH (h _ ⟨(hs2.2 _ (QM I.ne)).trans I.obj,hn2,I.ne⟩ hs2)
def zcp{R:CL->kE->Prop}{vs:List kC}(X:K.In s.heap)(hm:Bt K C=true)
  (hi:pY K (.ref C) "__init__"=some (some (.ref f)))(hf:PySem.W.typeIn K (.ref f)=some (.type "function"))
  (h:UK (model prog w) (A.under (.builtin "type.__call__" ⟨.ref C::vs,kw⟩)) (.call (.ref f) ⟨.ref (s.heap.objs.size+1)::vs,kw⟩) (PySem.W.InitBack (s.heap.objs.size+1) R)
   {s with heap:=(s.heap.push uw).push (Qk C s.heap.objs.size)}):
  UK (model prog w) A (.call (.ref C) ⟨vs,kw⟩) R s:=by
 obtain⟨hh,g,d,t,os⟩:=s;exact PySem.W.make_core (PySem.W.makes_of X hm) (Uw X hi) (λself=>PySem.W.bind_fn X self hf) (.inl rfl) h
end
def zP(f:Str)(v:V):List (Str×V)->List (Str×V)
 |[]=>[(f,v)]
 |(g,x)::r=>if g=f then(g,v)::r else(g,x)::zP f v r
theorem Zs(f g:Str)(v:V):∀fs:List (Str×V),(zP f v fs).lookup g=if g=f then some v else fs.lookup g
 |[]=>by
  show gU g [(f,v)]=_
  by_cases h:g=f
  ·have hb:(g==f)=true:=beq_iff_eq.mpr h;simp only[gU,hb,if_pos h]
  ·have hb:(g==f)=false:=beq_eq_false_iff_ne.mpr h;simp only[gU,hb,if_neg h]
 |(k,x)::r=>by
  have ih:=Zs f g v r;rw[show zP f v ((k,x)::r)=(if k=f then(k,v)::r else(k,x)::zP f v r) from rfl]
  by_cases hk:k=f
  ·rw[if_pos hk]
   by_cases h:g=k
   ·have hb:(g==k)=true:=beq_iff_eq.mpr h;simp only[gU,hb,if_pos (h.trans hk)]
   ·have hb:(g==k)=false:=beq_eq_false_iff_ne.mpr h;simp only[gU,hb,if_neg (λe:g=f=>h (e.trans hk.symm))]
  ·rw[if_neg hk]
   by_cases h:g=k
   ·have hb:(g==k)=true:=beq_iff_eq.mpr h;simp only[gU,hb,if_neg (λe:g=f=>hk (h.symm.trans e))]
   ·have hb:(g==k)=false:=beq_eq_false_iff_ne.mpr h;simp only[gU,hb];exact ih
theorem XV(f:Str)(v:V):∀fs:List (Str×V),f∈(zP f v fs).map (·.1)/\∀g,g∈fs.map (·.1)->g∈(zP f v fs).map (·.1)
 |[]=>⟨by simp[zP],λg h=>by simp at h⟩
 |(k,x)::r=>by
  obtain⟨i1,i2⟩:=XV f v r;rw[show zP f v ((k,x)::r)=(if k=f then(k,v)::r else(k,x)::zP f v r) from rfl]
  by_cases hk:k=f
  ·rw[if_pos hk];subst hk;exact⟨by simp,λg h=>by simpa using h⟩
  ·rw[if_neg hk];refine⟨?_,λg h=>?_⟩
   ·rw[kY];exact pG _ i1
   ·rw[kY] at h⊢;rcases kX.mp h with e|e
    ·exact List.mem_cons.mpr (.inl e)
    ·exact pG _ (i2 g e)
theorem ZC(f:Str)(v:V):∀fs:List (Str×V),(zP f v fs).length<=fs.length+1
 |[]=>by simp[zP]
 |(k,x)::r=>by
  have ih:=ZC f v r;rw[show zP f v ((k,x)::r)=(if k=f then(k,v)::r else(k,x)::zP f v r) from rfl]
  by_cases hk:k=f
  ·rw[if_pos hk,pH,pH];omega
  ·rw[if_neg hk,pH,pH];omega
theorem yT.some_of{v:V}{o:Option kC}(r:yT (some v) o):∃u,o=some u/\zt v u:=by
 cases o with
 |none=>exact(show False from r).elim
 |some u=>exact⟨u,rfl,r⟩
theorem yT.none_of{o:Option kC}(r:yT none o):o=none:=by
 cases o with
 |none=>rfl
 |some u=>exact(show False from r).elim
theorem zcv{v:V}(r:zt v u):Dq u=true:=by
 cases v with
 |non=>cases(show u=pN from r);rfl
 |bl b=>cases(show u=Ee b from r);rfl
 |int i=>obtain⟨t,e⟩:=(show ∃t,u=Ce i t from r);cases e;rfl
 |str x=>obtain⟨t,e⟩:=(show ∃t,u=Dl x t from r);cases e;rfl
 |byt b=>obtain⟨t,e⟩:=(show ∃t,u=FO b t from r);cases e;rfl
 |flt b=>obtain⟨t,e⟩:=(show ∃t,u=FP b t from r);cases e;rfl
 |ref a=>cases(show u=ki a from r);rfl
 |ty n=>cases(show u=uj n from r);rfl
section
variable{P:kW}{w:kq}{H H':Hp}{h h':Heap}{a C dx:Addr}{fs fs':List (Str×V)}
def Yk(hok:HOk P w H h)(e:H a=some (.ins C dx fs)):∃mA,wR h a dx C mA/\(∀f,yT (fs.lookup f) (mA f))/\DM mA (fs.map (·.1))/\fs.length<=1000/\H dx=some (.own a):=by
 obtain⟨d,z,ne,ob,mA,n,r,q⟩:=(show zV P w H h a (.ins C dx fs) from hok a _ e);exact⟨mA,⟨ob,n,ne⟩,r,q,z,d⟩
end
structure Cls(K:kF)(C:Addr):Prop where
 pg:hU K C Str.empty=true
 hd:gc K C=true
 po:BB K C=true
 sa:pY K (.ref C) "__setattr__"=some (some (.builtin "object.__setattr__"))
def Cls.get{K:kF}{C:Addr}(c:Cls K C)(f:Str):hU K C f=true:=c.pg
def yZ(K:kF)(C:Addr)(f:Str):Prop:=pY K (.ref C) f=some none
def yZ.taker{K:kF}{C:Addr}{f:Str}(n:yZ K C f):Br K C f=some none:=by
 unfold Br;rw[show pY K (.ref C) f=some none from n];rfl
structure Meth(K:kF)(C:Addr)(m:Str)(f:Addr):Prop where
 at_:pY K (.ref C) m=some (some (.ref f))
 fn:AZ K (.ref f)=true
 kp:uf K (.ref f)=true
section
variable{X:Cx}{pins:List (Addr×Obj)}{σ:St}{H:Hp}{s:kE}{a C dx:Addr}{fs:List (Str×V)}{f:Str}{v:V}{A:pI}{E:kC->kE->Prop}
variable{Q:kC->kE->Prop}
def zej{b:Bool}(I:Inv X pins σ H s)(e:H a=some (.ins C dx fs))(c:Cls X.K C)(n:yZ X.K C f)(l:fs.lookup f=some v)
  (h:∀u s',Inv X pins σ H s'->zt v u->Q u s'):wpAny (model X.prog X.w) A (getAttr (.ref a) f b) Q E s:=by
 obtain⟨mA,O,r,_,_,_⟩:=Yk I.hok e;obtain⟨u,hu,ru⟩:=yT.some_of (v:=v) (o:=mA f) (by rw[←l];exact r f)
 exact get_map I.kIn O (c.get f) c.hd n hu (zcv ru) (h u _ (I.tok _) ru)
def Z9{m:Str}{g:Addr}{Q:kC×List kC->kE->Prop}(I:Inv X pins σ H s)(e:H a=some (.ins C dx fs))(c:Cls X.K C)(k:Meth X.K C m g)(l:fs.lookup m=none)
  (h:Q (.ref g,[.ref a]) s):wpAny (model X.prog X.w) A (Dr (.ref a) m pl) Q E s:=by
 obtain⟨mA,O,r,_,_,_⟩:=Yk I.hok e;have hn:mA m=none:=yT.none_of (by rw[←l];exact r m)
 exact zc6 I.kIn O (c.get m) k.at_ k.fn hn h
theorem zah{y:V}{Q:Unit->kE->Prop}(I:Inv X pins σ H s)(e:H a=some (.ins C dx fs))(c:Cls X.K C)(n:yZ X.K C f)(hl:fs.length<1000)(ry:zt y u)
  (h:∀s',Inv X pins σ (upd H a (.ins C dx (zP f y fs))) s'->Q () s'):wpAny (model X.prog X.w) A (setAttr (.ref a) f u) Q E s:=by
 obtain⟨mA,O,r,wi,_,ho⟩:=Yk I.hok e;have hz:(fs.map (·.1)).length<=sizeLine:=by rw[kL,AI];omega
 refine set_map I.kIn O c.sa c.po n.taker c.hd wi hz λh' O' sb=>h _ ?_;have hd:∃o,h'.get? dx=some o:=let⟨o,_,_,e',_⟩:=O'.ns;⟨o,e'⟩;refine I.write (x:=a) (e:=dx) (by rw[e];exact Ud) (.inr ho) (λb q hb z=>(sb.2 b hb).trans z) hd ?_
 refine⟨by rw[zp O.ne];exact ho,?_,O.ne,O'.obj,_,O'.ns,λg=>?_,λg hg=>?_⟩
 ·have:=ZC f y fs;omega
 ·show yT ((zP f y fs).lookup g) (if g=f then some u else mA g)
  rw[Zs]
  by_cases q:g=f
  ·rw[if_pos q,if_pos q];exact ry
  ·rw[if_neg q,if_neg q];exact r g
 ·by_cases q:g=f
  ·rw[q];exact(XV f y fs).1
  ·refine(XV f y fs).2 g (wi g λz=>hg ?_);show(if g=f then some u else mA g)=none;rw[if_neg q];exact z
def Inv.made(I:Inv X pins σ H s):Inv X pins σ (upd (upd H s.heap.objs.size (.own (s.heap.objs.size+1))) (s.heap.objs.size+1) (.ins C s.heap.objs.size []))
  {s with heap:=(s.heap.push uw).push (Qk C s.heap.objs.size)}:=by
 have e1:(s.heap.push uw).get? s.heap.objs.size=some uw:=kQ s.heap rfl;have e2:((s.heap.push uw).push (Qk C s.heap.objs.size)).get? (s.heap.objs.size+1)=some (Qk C s.heap.objs.size):=by
  have:=kQ (s.heap.push uw) (o:=Qk C s.heap.objs.size) rfl
  rwa [QB] at this
 have e3:(s.heap.push uw).Ns s.heap.objs.size (λ_=>none):=⟨uw,#[],_,e1,rfl,(λe he=>absurd he (by simp)),λ_=>rfl⟩
 have I1:=I.laid (a:=s.heap.objs.size) (o:=.own (s.heap.objs.size+1)) (h':=s.heap.push uw) (t':=s.toks) (λb u q=>kG _ q) (kN _) ⟨_,e1⟩;refine I1.laid (a:=s.heap.objs.size+1) (o:=.ins C s.heap.objs.size []) (t':=s.toks) (λb u q=>kG _ q) (DP (QB _ _)) ?_;have ne:s.heap.objs.size≠s.heap.objs.size+1:=kc (hV _);refine⟨by rw[zp ne,zM],uF _,ne,e2,λ_=>none,(Heap.Ns1.of_empty e3).at λo q=>kG _ q,λ_=>Ud,λy hy=>absurd rfl hy⟩
def attr_of{prog:kW}{w:kq}{env:Env}{e:Expr}{f:Str}{pos:Pos}{s:kE}(hb:UO e f env (eval e env)=eval e env)
  (h:wpAny (model prog w) A (eval e env) (λo s₁=>wpAny (model prog w) A (getAttr o f true) Q E s₁) E s):wpAny (model prog w) A (eval (.Attribute e f pos) env) Q E s:=
 Attribute_any_ h (by rw[arm_eval_Attribute,hb])
end
def tFld(K:kF)(ta:TE)(f:Str):TE:=λσ H Q=>ta σ H λx H1=>∃a C dx fs v,x=.ref a/\H1 a=some (.ins C dx fs)/\Cls K C/\yZ K C f/\fs.lookup f=some v/\Q v H1
def jz(K:kF)(ta tv:TE)(f:Str):TS:=λD σ H=>tv σ H λy H1=>ta σ H1 λx H2=>∃a C dx fs,x=.ref a/\H2 a=some (.ins C dx fs)/\Cls K C/\yZ K C f/\fs.length<1000/\
 D.nx σ (upd H2 a (.ins C dx (zP f y fs)))
section
variable{X:Cx}{o e value:Expr}{f:Str}{pos pos' tpos:Pos}{ta tv:TE}
def pe_fld(he:PE X e ta)(hb:UO e f X.env (eval e X.env)=eval e X.env):PE X (.Attribute e f pos) (tFld X.K ta f):=by
 intro pins s σ H Q I h;refine attr_of hb (thn (he pins s σ H _ I h) λu s1⟨x,H1,I1,rx,a,C,dx,fs,v,ex,ea,c,n,l,q⟩=>?_);subst ex;obtain rfl:u=ki a:=rx;exact zej I1 ea c n l λu' s2 I2 ru=>⟨v,H1,I2,ru,q⟩
def vq(ha:PE X o ta)(hv:PE X value tv)(hs:uh value (some (.Attribute o f pos')) pos.line X.env=pure false):PS X (.Assign [.Attribute o f pos'] value pos) (jz X.K ta tv f):=by
 intro pins s σ H D I h;refine plainObj_wpAny_Assign_Attribute (thn (hv pins s σ H _ I h) λu s1⟨y,H1,I1,ry,q⟩=>thn (ha pins s1 σ H1 _ I1 q) λov s2⟨x,H2,I2,rx,a,C,dx,fs,ex,ea,c,n,l,q2⟩=>?_) hs;subst ex;obtain rfl:ov=ki a:=rx;exact zah I2 ea c n l ry λs3 I3=>⟨σ,_,I3,q2⟩
end
structure zD(k:Nat)(A:pI):Prop where
 hd:A.handled=none
 dp:A.depth+3*k+5<recursionLimit
 un:A.units+16*k+200<cLine
theorem zD.mono{j k:Nat}{A:pI}(r:zD k A)(h:j<=k):zD j A:=⟨r.hd,by have:=r.dp;omega,by have:=r.un;omega⟩
theorem zD.deeper{k:Nat}{A:pI}(r:zD (k+1) A)(env:Env):zD k (A.deeper env):=
 ⟨r.hd,by have:=r.dp;show A.depth+1+3*k+5<_;omega,by have:=r.un;show A.units+3+16*k+200<_;omega⟩
theorem zD.in1{k:Nat}{A:pI}(r:zD (k+1) A):zD k A.in1:=
 ⟨r.hd,by have:=r.dp;show A.depth+3*k+5<_;omega,by have:=r.un;show A.units+1+16*k+200<_;omega⟩
def zeq{A:pI}{C:Addr}{us:List kC}:(A.under (.builtin "type.__call__" ⟨.ref C::us,kw⟩)).depth=A.depth+1:=by
 first|rfl|simp[DQ,Code.weight,Code.isCreation,Code.isGuard,Code.isCaller,FQ,DR,guardIds]
def za1{A:pI}{C:Addr}{us:List kC}:(A.under (.builtin "type.__call__" ⟨.ref C::us,kw⟩)).units=A.units+1:=by
 first|rfl|simp[DQ,Code.cUnits,FQ,DR]
theorem zD.make{k:Nat}{A:pI}(r:zD (k+1) A)(C:Addr)(us:List kC)(kw:List (Str×kC)):zD k (A.under (.builtin "type.__call__" ⟨.ref C::us,kw⟩)):=
 ⟨r.hd,by have:=r.dp;rw[zeq];omega,by have:=r.un;rw[za1];omega⟩
theorem zD.depth{k:Nat}{A:pI}(r:zD k A):A.depth<recursionLimit:=by have:=r.dp;omega
theorem zD.units{k:Nat}{A:pI}(r:zD k A):A.units+64<cLine:=by have:=r.un;omega
def vm:TA:=λ_ H Q=>Q [] H
def wA(ta:TE)(tr:TA):TA:=λσ H Q=>ta σ H λx H1=>tr σ H1 λxs H2=>Q (x::xs) H2
section
variable{X:Cx}{e:Expr}{es:List Expr}{te:TE}{t:TA}{pos:Pos}
def Yd:PA X [] vm:=λ_ _ _ _ H Q I h=>Ur ⟨[],H,I,.nil,h⟩
def vP(ha:PE X e te)(hr:PA X es t)(hs:kJ (e::es) X.env=(false,eval e X.env)::kJ es X.env:=by rfl):PA X (e::es) (wA te t):=by
 intro pos pins s σ H Q I h;rw[hs];show wpAny _ _ (spliced ((false,eval e X.env)::pX pos (kJ es X.env))) _ _ s;refine uL (thn (ha pins s σ H _ I h) λu s1⟨x,H1,I1,r1,q1⟩=>?_);exact thn (hr pos pins s1 σ H1 _ I1 q1) λus s2⟨xs,H2,I2,r2,q2⟩=>⟨x::xs,H2,I2,.cons r1 r2,q2⟩
def tTup(t:TA):TE:=λσ H Q=>t σ H λxs H1=>xs.length<=sizeLine/\∀p,H1 p=none->Q (.ref p) (upd H1 p (.tup xs))
def tLst(t:TA):TE:=λσ H Q=>t σ H λxs H1=>xs.length<=sizeLine/\∀p,H1 p=none->Q (.ref p) (upd H1 p (.lst xs))
def pe_tup{x1}(h:PA X es t):PE X (.Tuple es x1 pos) (tTup t):=by
 intro pins s σ H Q I hq;refine Cj (thn (h pos pins s σ H _ I hq) λus s1⟨xs,H1,I1,r,z,q⟩=>⟨by rw[←r.length];exact z,?_⟩)
 have hf:H1 s1.heap.objs.size=none:=I1.hok.fresh (kN _);refine⟨.ref s1.heap.objs.size,upd H1 s1.heap.objs.size (.tup xs),I1.laid (t':=s1.toks) (λb u e=>kG _ e) (kN _) ?_,rfl,q _ hf⟩;exact⟨z,us,r,⟨_,kQ _ rfl,rfl,_,rfl⟩⟩
def pe_lst(h:PA X es t):PE X (.List es pos) (tLst t):=by
 intro pins s σ H Q I hq;refine wpAny_List_spliced (thn (h pos pins s σ H _ I hq) λus s1⟨xs,H1,I1,r,z,q⟩=>⟨by rw[←r.length];exact z,?_⟩)
 have hf:H1 s1.heap.objs.size=none:=I1.hok.fresh (kN _);refine⟨.ref s1.heap.objs.size,upd H1 s1.heap.objs.size (.lst xs),I1.laid (t':=s1.toks) (λb u e=>kG _ e) (kN _) ?_,rfl,q _ hf⟩;exact⟨z,us,0,r,kQ _ rfl⟩
end
abbrev Sp:=List V->Hp->VK->XK->Prop
abbrev CXT:=List Env->Hp->kE->XK->kC->kE->Prop
structure Env0(P:kW)(w:kq)(K:kF)(mg:Str->Option kC)(base:Heap)(A:pI)(outer:List Env)(s:kE)(H:Hp):Prop where
 frames:A.frames=some outer
 mod:Mod K mg base
 bs:∀b o,base.get? b=some o->s.heap.get? b=some o/\H b=none
 bsz:base.objs.size<=s.heap.objs.size
 funs:s.heap.FunFrames base outer
 frf:∀b∈frs outer,H b=none
 hok:HOk P w H s.heap
 bare:AY s.gens
def CE(outer:List Env)(P:kW)(w:kq)(H:Hp)(s:kE)(Q:VK)(u:kC)(s':kE):Prop:=
 ∃v H',s'.os=s.os/\AY s'.gens/\Un (frs outer) [] H H' s.heap s'.heap/\HOk P w H' s'.heap/\zt v u/\Q v H'
def CR(CX:CXT)(outer:List Env)(P:kW)(w:kq)(H:Hp)(s:kE)(Q:VK)(E:XK)(r:CL)(s':kE):Prop:=
 match r with
 |.ok (.ret u)=>CE outer P w H s Q u s'
 |.ok _=>False
 |.error e=>CX outer H s E e s'
structure zw(P:kW)(w:kq)(K:kF)(mg:Str->Option kC)(base:Heap)(CX:CXT)(k:Nat)(f:Addr)(fd:pZ)(ps:List Str)(sp:Sp):Prop where
 len:∀vs H Q E,sp vs H Q E->vs.length=ps.length
 run:∀(A:pI)(outer:List Env)(s:kE)(H:Hp)(args:Args)(us:List kC)(vs:List V)(Q:VK)(E:XK),zD k A->Env0 P w K mg base A outer s H->Cf s fd args (ps.zip us)->zr vs us->sp vs H Q E->
  UK (model P w) A (.call (.ref f) args) (CR CX outer P w H s Q E) s
variable{w:kq}{A:pI}{mg:Str->Option kC}{base:Heap}{outer:List Env}
def Env0.make{P:kW}{K:kF}{s:kE}{H:Hp}(e:Env0 P w K mg base A outer s H)(C:Addr)(us:List kC)(kw:List (Str×kC)):
  Env0 P w K mg base (A.under (.builtin "type.__call__" ⟨.ref C::us,kw⟩)) outer s H:=⟨by first|exact e.frames|(simpa[DQ,Code.envs,DR,pushEnvs] using e.frames),e.mod,e.bs,e.bsz,e.funs,e.frf,e.hok,e.bare⟩
def Env0.in1{P:kW}{K:kF}{s:kE}{H:Hp}(e:Env0 P w K mg base A outer s H):
  Env0 P w K mg base A.in1 outer s H:=⟨e.frames,e.mod,e.bs,e.bsz,e.funs,e.frf,e.hok,e.bare⟩
variable{Q:VK}
section
variable{X:Cx}{pins:List (Addr×Obj)}{σ:St}{H:Hp}{s s':kE}
def Inv.env0(I:Inv X pins σ H s):Env0 X.prog X.w X.K X.mg X.base X.A X.stack s H:=
 ⟨I.ok.frames,I.ok.mod,I.bs,pd I.ok.bsz I.sz,I.stack,I.stkFree,I.hok,I.bare⟩
def Inv.after(I:Inv X pins σ H s)(h:CE X.stack X.prog X.w H s Q u s'):EP X pins σ Q u s':=by
 obtain⟨v,H',os,bare,un,hok,r,q⟩:=h;obtain⟨hh,g,d,t,os'⟩:=s';obtain rfl:os'=s.os:=os;exact⟨v,H',I.call (h':=hh) (g':=g) (d':=d) (t':=t) (ch:=[]) un hok bare (λb z=>absurd z (by simp)),r,q⟩
end
def tCall(sp:Sp)(dvs:List V)(E:XK)(t:TA):TE:=λσ H Q=>t σ H λvs H1=>sp (vs++dvs) H1 Q E
def tMeth(C:Addr)(m:Str)(sp:Sp)(dvs:List V)(E:XK)(ta:TE)(t:TA):TE:=λσ H Q=>ta σ H λx H1=>∃a dx fs,x=.ref a/\H1 a=some (.ins C dx fs)/\fs.lookup m=none/\
 t σ H1 λvs H2=>sp (x::(vs++dvs)) H2 Q E
def tMake(C:Addr)(sp:Sp)(dvs:List V)(E:XK)(t:TA):TE:=λσ H Q=>t σ H λvs H1=>∀x dx,H1 x=none->H1 dx=none->dx≠x->
 sp (.ref x::(vs++dvs)) (upd (upd H1 dx (.own x)) x (.ins C dx [])) (λv H2=>v=.non/\Q (.ref x) H2) E
def Binds(K:kF)(fd:pZ)(ps:List Str)(ds:List kC):Prop:=
 ∀(s:kE)(us:List kC),K.In s.heap->(us++ds).length=ps.length->Cf s fd ⟨us,[]⟩ (ps.zip (us++ds))
def Binds.all{K:kF}{fd:pZ}{ps:List Str}(h:∀us:List kC,us.length=ps.length->QW fd ⟨us,[]⟩=pure (ps.zip us)):Binds K fd ps []:=λs us _ hl=>by
 rw[uo] at hl⊢;exact .of_eq (h us hl)
def Passes(CX:CXT)(X:Cx)(E:XK):Prop:=∀(pins:List (Addr×Obj))(σ:St)(H:Hp)(s:kE)(e:kC)(s':kE),Inv X pins σ H s->CX X.stack H s E e s'->X.xe e s'
variable{us:List kC}{H:Hp}{s:kE}{pins:List (Addr×Obj)}{vs:List V}
section
variable{X:Cx}{CX:CXT}{k:Nat}{f C:Addr}{fd:pZ}{ps:List Str}{sp:Sp}{dvs:List V}{ds:List kC}{E:XK}{x m:Str}{p pos apos:Pos}{e o:Expr}{es:List Expr}{ta:TE}{t:TA}
theorem JS{σ:St}(F:zw X.prog X.w X.K X.mg X.base CX k f fd ps sp)(hr:zD k X.A)(hb:Binds X.K fd ps ds)(hd:zr dvs ds)(hx:Passes CX X E)
  (I:Inv X pins σ H s)(r:zr vs us)(h:sp (vs++dvs) H Q E):wpAny (model X.prog X.w) X.A (call (.ref f) us) (EP X pins σ Q) X.xe s:=by
 have r2:zr (vs++dvs) (us++ds):=r.append hd;have hl:(us++ds).length=ps.length:=by rw[←r2.length];exact F.len _ _ _ _ h
 refine gM (Qs (F.run X.A X.stack s H ⟨us,[]⟩ (us++ds) (vs++dvs) Q E hr I.env0 (hb s us I.kIn hl) r2 h) λr s' hq=>?_)
 cases r with
 |error e=>exact hx pins σ H s e s' I hq
 |ok fl=>
  cases fl with
  |ret u=>exact I.after hq
  |next=>exact uK hq
  |brk=>exact uK hq
  |cont=>exact uK hq
def J7(F:zw X.prog X.w X.K X.mg X.base CX k f fd ps sp)(hr:zD k X.A)(hg:Gl X x)(hm:X.mg x=some (.ref f))(hk:uf X.K (.ref f)=true)(hb:Binds X.K fd ps ds)(hd:zr dvs ds)(hx:Passes CX X E)
  (ha:PA X (e::es) t)(hdb:(x==("__debug__":Str))=false:=by decide)(he:kJ (e::es) X.env=(false,eval e X.env)::kJ es X.env:=by rfl)(hpl:(pX pos (kJ es X.env)).any (·.1)=false:=by rfl):
  PE X (.Call (.Name x p) (e::es) [] pos) (tCall sp dvs E t):=by
 intro pins s σ H Q I h;refine uQ (xV I hg hm ?_ hdb);refine gO (h₀:=X.base) I.ok.mod.kin hk (thn (ha pos pins s σ H _ I h) λus s1⟨vs,H1,I1,r,q⟩=>⟨I1.kIn,?_⟩) he hpl;exact JS F hr hb hd hx I1 r q
def pe_meth(he:PE X o ta)(c:Cls X.K C)(hm:Meth X.K C m f)(F:zw X.prog X.w X.K X.mg X.base CX k f fd ps sp)(hr:zD k X.A)(hb:Binds X.K fd ps ds)(hd:zr dvs ds)(hx:Passes CX X E)(ha:PA X (e::es) t)
  (hst:kJ (e::es) X.env=(false,eval e X.env)::kJ es X.env:=by rfl)(hpl:(pX pos (kJ es X.env)).any (·.1)=false:=by rfl)
  (ht:eval (.Call (.Attribute o m apos) (e::es) [] pos) X.env=(do
   let ov ←eval o X.env
   Ec apos.atName
   let(f,first) ←holding [ov] (Dr ov m pl)
   callWith pos f first (pX pos (kJ (e::es) X.env)) (UL pos (ux [] X.env))):=by rfl):
  PE X (.Call (.Attribute o m apos) (e::es) [] pos) (tMeth C m sp dvs E ta t):=by
 intro pins s σ H Q I h;refine PySem.W.methodCall_KW (pl:=pl) (thn (he pins s σ H _ I h) λu s1⟨x,H1,I1,rx,a,dx,fs,ex,ea,l,q⟩=>?_) ht;subst ex;obtain rfl:u=ki a:=rx;refine Z9 I1 ea c hm l ?_
 refine gO (first:=[.ref a]) (h₀:=X.base) I.ok.mod.kin hm.kp (thn (ha pos pins s1 σ H1 _ I1 q) λus s2⟨vs,H2,I2,r,q2⟩=>⟨I2.kIn,?_⟩) hst hpl
 exact JS (us:=.ref a::us) (vs:=.ref a::vs) F hr hb hd hx I2 (.cons rfl r) q2
structure Mk(K:kF)(C f:Addr):Prop where
 makes:Bt K C=true
 init:pY K (.ref C) "__init__"=some (some (.ref f))
 fn:AZ K (.ref f)=true
 kp:uf K (.ref C)=true
theorem zb4{σ:St}(M:Mk X.K C f)(F:zw X.prog X.w X.K X.mg X.base CX k f fd ps sp)(hr:zD (k+1) X.A)(hb:Binds X.K fd ps ds)(hd:zr dvs ds)
  (hx:Passes CX X E)(I:Inv X pins σ H s)(r:zr vs us)
  (h:∀x dx,H x=none->H dx=none->dx≠x->sp (.ref x::(vs++dvs)) (upd (upd H dx (.own x)) x (.ins C dx [])) (λv H2=>v=.non/\Q (.ref x) H2) E):
  wpAny (model X.prog X.w) X.A (call (.ref C) us) (EP X pins σ Q) X.xe s:=by
 have hq:=h (s.heap.objs.size+1) s.heap.objs.size (I.hok.fresh (Qh _)) (I.hok.fresh (kN _)) (kc (hV _));have I2:=Inv.made (C:=C) I;have r2:zr (V.ref (s.heap.objs.size+1)::(vs++dvs)) (ki (s.heap.objs.size+1)::(us++ds)):=.cons rfl (r.append hd);have hl:(ki (s.heap.objs.size+1)::us++ds).length=ps.length:=by
  have e:=r2.length;rw[F.len _ _ _ _ hq] at e;exact e.symm
 refine gM (zcp (f:=f) I.kIn M.makes M.init (beq_iff_eq.mp M.fn) (Qs (F.run _ X.stack _ _ ⟨ki (s.heap.objs.size+1)::us,[]⟩ (ki (s.heap.objs.size+1)::(us++ds)) _ _ E (hr.make C us [])
  (I2.env0.make C us []) (hb _ (ki (s.heap.objs.size+1)::us) I2.kIn hl) r2 hq) λr s' hq'=>?_))
 cases r with
 |error e=>exact hx pins σ _ _ e s' I2 hq'
 |ok fl=>
  cases fl with
  |ret u=>
   obtain⟨v,H',I3,rv,ev,q3⟩:=I2.after hq';subst ev;exact⟨rv,⟨V.ref (s.heap.objs.size+1),H',I3,rfl,q3⟩⟩
  |next=>exact uK hq'
  |brk=>exact uK hq'
  |cont=>exact uK hq'
def Vz(M:Mk X.K C f)(F:zw X.prog X.w X.K X.mg X.base CX k f fd ps sp)(hr:zD (k+1) X.A)(hg:Gl X x)(hm:X.mg x=some (.ref C))(hb:Binds X.K fd ps ds)(hd:zr dvs ds)(hx:Passes CX X E)
  (ha:PA X (e::es) t)(hdb:(x==("__debug__":Str))=false:=by decide)(he:kJ (e::es) X.env=(false,eval e X.env)::kJ es X.env:=by rfl)(hpl:(pX pos (kJ es X.env)).any (·.1)=false:=by rfl):
  PE X (.Call (.Name x p) (e::es) [] pos) (tMake C sp dvs E t):=by
 intro pins s σ H Q I h;refine uQ (xV I hg hm ?_ hdb);refine gO (h₀:=X.base) I.ok.mod.kin M.kp (thn (ha pos pins s σ H _ I h) λus s1⟨vs,H1,I1,r,q⟩=>⟨I1.kIn,?_⟩) he hpl;exact zb4 M F hr hb hd hx I1 r q
end
def PK(X:Cx)(kws:List gI)(t:TA):Prop:=
 ∀(pos:Pos)(pins:List (Addr×Obj))(s:kE)(σ:St)(H:Hp)(Q:List V->Hp->Prop),Inv X pins σ H s->t σ H Q->wpAny (model X.prog X.w) X.A (evalAll ((UL pos (ux kws X.env)).map (·.2))) (AP X pins σ Q) X.xe s
section
variable{X:Cx}{CX:CXT}{k:Nat}{f C:Addr}{fd:pZ}{ps ks:List Str}{sp:Sp}{E:XK}{x m:Str}{p pos apos kpos:Pos}{e o:Expr}{es:List Expr}{kws:List gI}{te ta:TE}{t tk:TA}{nm:Option Str}
def pk_nil:PK X [] vm:=λ_ _ _ _ H Q I h=>wpAny_evalAll_nil ⟨[],H,I,.nil,h⟩
def pk_cons(ha:PE X e te)(hr:PK X kws t):PK X (⟨nm,e,kpos⟩::kws) (wA te t):=by
 intro pos pins s σ H Q I h;show wpAny _ _ (evalAll ((do let v ←eval e X.env;Ec pos;pure v)::(UL pos (ux kws X.env)).map (·.2))) _ _ s;refine wpAny_evalAll_cons (kB (thn (ha pins s σ H _ I h) λu s1⟨x,H1,I1,r1,q1⟩=>kB (Cv (kH ?_))));exact thn (hr pos pins s1 σ H1 _ I1 q1) λus s2⟨xs,H2,I2,r2,q2⟩=>⟨x::xs,H2,I2,.cons r1 r2,q2⟩
variable{g:List kC->List kC->List kC}{gV:List V->List V->List V}
end
structure zA(N P:List Str)(sc:Scope):Prop where
 kind:sc.kind=.function
 co:sc.isCoroutine=false
 gen:sc.isGenerator=false
 nd:N.Nodup
 pre:N.take P.length=P
 par:∀x∈P,sc.names.lookup x=some .local∨sc.names.lookup x=some .cell
 nofree:∀y∈sc.names,y.2≠.free
theorem Vg{kindOf:Str->Option Ak}{x:Str}:∀{binds:List (Str×kC)}{m:Str->Option kC},(∀v,(x,v)∉binds)->bindL kindOf binds m x=m x
 |[],_,_=>rfl
 |(n,v)::r,m,h=>by
  unfold bindL;rw[Vg λw hw=>h w (pG _ hw)]
  split
  ·have:x≠n:=by rintro rfl;exact h v pU
   simp[this]
  ·rfl
theorem V7{kindOf:Str->Option Ak}{x:Str}:∀{binds:List (Str×kC)}{m:Str->Option kC},(∀v,(x,v)∉binds)->bindC kindOf binds m x=m x
 |[],_,_=>rfl
 |(n,v)::r,m,h=>by
  unfold bindC;rw[V7 λw hw=>h w (pG _ hw)]
  split
  ·rfl
  ·have:x≠n:=by rintro rfl;exact h v pU
   simp[this]
theorem VF{kindOf:Str->Option Ak}{x:Str}{v:kC}:∀{P:List Str}{vs:List kC}{i:Nat}{m:Str->Option kC},P.Nodup->P[i]?=some x->vs[i]?=some v->kindOf x=some .local->
  bindL kindOf (P.zip vs) m x=some v
 |[],_,_,_,_,h,_,_=>by simp at h
 |_::_,[],_,_,_,_,h,_=>by simp at h
 |p::P,w::vs,0,m,nd,h1,h2,hk=>by
  simp at h1 h2;subst h1;subst h2
  show bindL kindOf ((p,w)::P.zip vs) m p=_
  unfold bindL;rw[Vg λv hv=>(uS.mp nd).1 (AQ hv).1,if_pos hk]
  simp
 |p::P,w::vs,i+1,m,nd,h1,h2,hk=>by
  show bindL kindOf ((p,w)::P.zip vs) m x=_
  unfold bindL;exact VF (i:=i) (uS.mp nd).2 (by simpa using h1) (by simpa using h2) hk
theorem WB{kindOf:Str->Option Ak}{x:Str}{v:kC}:∀{P:List Str}{vs:List kC}{i:Nat}{m:Str->Option kC},P.Nodup->P[i]?=some x->vs[i]?=some v->kindOf x≠some .local->
  bindC kindOf (P.zip vs) m x=some v
 |[],_,_,_,_,h,_,_=>by simp at h
 |_::_,[],_,_,_,_,h,_=>by simp at h
 |p::P,w::vs,0,m,nd,h1,h2,hk=>by
  simp at h1 h2;subst h1;subst h2
  show bindC kindOf ((p,w)::P.zip vs) m p=_
  unfold bindC;rw[V7 λv hv=>(uS.mp nd).1 (AQ hv).1,if_neg hk]
  simp
 |p::P,w::vs,i+1,m,nd,h1,h2,hk=>by
  show bindC kindOf ((p,w)::P.zip vs) m x=_
  unfold bindC;exact WB (i:=i) (uS.mp nd).2 (by simpa using h1) (by simpa using h2) hk
def start(N:List Str)(vs:List V):St:=vs.map some++uC (N.length-vs.length) none
def ym(CX:CXT)(P:kW)(w:kq)(K:kF)(mg:Str->Option kC)(base:Heap)(N:List Str)(qual:Str)(scope:Scope)(f:Addr)(cd:kC)(A:pI)(outer:List Env)(s:kE)(H:Hp)(E:XK):Cx where
 prog:=P
 w:=w
 K:=K
 mg:=mg
 base:=base
 A:=A.deeper (QL qual scope s.heap.objs.size f cd)
 N:=N
 s₀:=s
 H₀:=H
 env:=QL qual scope s.heap.objs.size f cd
 outer:=outer
 stack:=QL qual scope s.heap.objs.size f cd::outer
 ex:=[]
 calm:=true
 fn:=λ_=>true
 pn:=[]
 xe:=λe s'=>wpAny (model P w) (A.deeper (QL qual scope s.heap.objs.size f cd)) (leaving (QL qual scope s.heap.objs.size f cd) e) (λ_ s''=>CX outer H s E e s'') (λe' s''=>CX outer H s E e' s'') s'
def WN{sc:Scope}{n:Nat}{x:Str}(h:sc.names.lookup x=some .cell):∃c,(Ds n sc.names []).lookup x=some c:=by
 have q:=ge sc.names n [] (.inl h);exact Option.isSome_iff_exists.mp q
variable{ps:List Str}{qual:Str}{scope:Scope}
theorem Jr{CX:CXT}{P:kW}{K:kF}{N:List Str}{f:Addr}{cd:kC}{s1:kE}{E:XK}
  (S:zA N ps scope)(hd:A.handled=none)(e0:Env0 P w K mg base A outer s H)(hl:vs.length=ps.length)(r:zr vs us)
  (x:InCallC s s.heap.objs.size (bindL (QL qual scope s.heap.objs.size f cd).kindOf (ps.zip us) λ_=>none) (Ds (s.heap.objs.size+1) scope.names []) (bindC (QL qual scope s.heap.objs.size f cd).kindOf (ps.zip us) λ_=>none) s1):
  Inv (ym CX P w K mg base N qual scope f cd A outer s H E) [] (start N vs) H s1:=by
 have hpl:ps.length<=N.length:=by have:=congrArg EJ S.pre;rw[Qx] at this;omega
 obtain⟨h1,tk,rfl,hk⟩:=x.done;have noA:∀b:Addr,b∉(ym CX P w K mg base N qual scope f cd A outer s H E).ex:=λb z=>absurd (show b∈([]:List Addr) from z) (by simp)
 refine⟨⟨e0.mod,S.kind,rfl,rfl,kN _,λy z c h1 h2=>?_,λy hy=>?_,λy c _ h=>?_,λ_=>hd,AJ e0.frames,.inr ⟨rfl,rfl⟩,λb z=>absurd z (noA b),e0.bs,e0.bsz,λb _ _=>noA b,λb z=>absurd z (noA b),e0.funs,e0.frf⟩,
  rfl,e0.bare,Un.kept hk,⟨_,x.toInCall.ns,λi y v h1 h2 h3=>?_⟩,λy c h=>⟨_,x.cell y c h⟩,e0.hok.fresh (kN _),λy c h=>?_,λp hp=>absurd (show p∈([]:List (Addr×Obj)) from hp) (by simp),e0.hok.kept hk,?_⟩
 ·exact name_of_addr x.apart (uB h1) (uB h2)
 ·have hy:scope.names.lookup y=some .cell∨scope.names.lookup y=some .free:=hy;rcases hy with hy|hy
  ·exact WN hy
  ·exact absurd rfl (S.nofree _ (uB hy))
 ·exact ub (x.above y c (uB h))
 ·have hi:i<vs.length:=by
   unfold start at h2
   by_cases hi:i<vs.length
   ·exact hi
   ·rw[pJ (by simpa using hi)] at h2
    rw[ul] at h2
    split at h2<;>cases h2
  have ha:vs[i]?=some v:=by
   unfold start at h2;rw[pW (by simpa using hi),kg] at h2
   cases e:vs[i]? with
   |none=>rw[e] at h2;cases h2
   |some a=>rw[e] at h2;cases h2;rfl
  obtain⟨u,hu,rv⟩:=r.get ha;have hp:ps[i]?=some y:=by
   rw[←S.pre,List.getElem?_take_of_lt (by omega)];exact h1
  have ndP:ps.Nodup:=by rw[←S.pre];exact S.nd.sublist (List.take_sublist _ _)
  refine⟨u,rv,?_⟩;rcases S.par y (uD hp) with k|k
  ·exact .inl ⟨k,VF ndP hp hu k⟩
  ·obtain⟨c,e⟩:=WN (n:=s.heap.objs.size+1) k;refine .inr ⟨.inl k,c,e,?_⟩;have q:=x.cell y c e;rw[WB ndP hp hu (by show scope.names.lookup y≠_;rw[k];decide)] at q
   exact q
 ·exact e0.hok.fresh (ub (x.above y c (uB h)))
 ·unfold start;show _=N.length;rw[kO,kL,pQ];omega
theorem YK{CX:CXT}{P:kW}{K:kF}{k:Nat}{f:Addr}{name:Str}{params:Qy}{dV kV doc pm cdv ct oc:kC}{an od:Option Addr}
  {osl:Array (Option kC)}{N:List Str}{sp:Sp}(lk:K.lookup f=some ⟨oc,od,.func (uG name qual params body scope dV kV doc pm an cdv ct),osl⟩)(hcd:QP K cdv qual=true)(S:zA N ps scope)
  (len:∀vs H Q E,sp vs H Q E->vs.length=ps.length)
  (hbody:∀(A:pI)(outer:List Env)(s:kE)(H:Hp)(vs:List V)(Q:VK)(E:XK),zD k (A.deeper (QL qual scope s.heap.objs.size f cdv))->sp vs H Q E->
   ∃t,PSs (ym CX P w K mg base N qual scope f cdv A outer s H E) body t/\t {nx:=λ_ H'=>Q .non H',rt:=Q} (start N vs) H):
  zw P w K mg base CX (k+1) f (uG name qual params body scope dV kV doc pm an cdv ct) ps sp:=by
 refine⟨len,λA outer s H args us vs Q E hr e0 hb r hsp=>?_⟩;have hl:=len _ _ _ _ hsp;have KX:K.In s.heap:=e0.mod.kin.keeps λb o e=>(e0.bs b o e).1;have lim:s.heap.NoLimit:=e0.mod.nolimit.keeps λb o e=>(e0.bs b o e).1;have hkind:∀y∈ps.zip us,scope.names.lookup y.1=some .local∨(scope.names.lookup y.1=some .cell/\((Ds (s.heap.objs.size+1) scope.names []).lookup y.1).isSome=true):=λ⟨n,v⟩ hy=>by
  rcases S.par n (AQ hy).1 with q|q
  ·exact .inl q
  ·exact .inr ⟨q,ge _ _ _ (.inl q)⟩
 refine CB hr.depth (KX _ _ lk) rfl S.co S.gen rfl (DE KX hcd) (hb _ _ _ _ ?_);refine Al S.kind hkind λenv he s1 x=>?_;subst he;refine⟨lim.keeps x.toInCall.keep,codeAny_func ?_⟩;obtain⟨t,ht,hq⟩:=hbody A outer s H vs Q E (hr.deeper _) hsp;have I:Inv (ym CX P w K mg base N qual scope f cdv A outer s H E) [] (start N vs) H s1:=Jr S hr.hd e0 hl r x;refine uT (ht [] s1 (start N vs) H _ I hq) (λfl s' hs=>?_) λe s' hs=>hs;have fin:∀{σ':St}{H':Hp}{v:V}{u:kC},Inv (ym CX P w K mg base N qual scope f cdv A outer s H E) [] σ' H' s'->zt v u->Q v H'->CE outer P w H s Q u s':=
  λ{σ' H' v u} J rv q=>⟨v,H',J.os,J.bare,J.base,J.hok,rv,q⟩
 cases fl with
 |ret u=>
  obtain⟨v,σ',H',J,rv,q⟩:=hs;exact fin J rv q
 |next=>
  obtain⟨σ',H',J,q⟩:=hs;exact fin (v:=V.non) (u:=pN) J rfl q
 |brk=>
  obtain⟨_,_,_,q⟩:=hs;exact uK q
 |cont=>
  obtain⟨_,_,_,q⟩:=hs;exact uK q
section
variable{X:Cx}{x:Str}{p pos:Pos}{e:Expr}{es:List Expr}{t:TA}{id T:String}{r:List V->Hp->VK->Prop}
def tCB(r:List V->Hp->VK->Prop)(t:TA):TE:=λσ H Q=>t σ H λvs H1=>r vs H1 Q
def xS(hc:yd X (.builtin id) r)(hg:Gl X x)(hm:X.mg x=none)(hv:pp x=some (.builtin id))(ha:PA X (e::es) t)(hn:x≠"__name__":=by decide)(hdb:(x==("__debug__":Str))=false:=by decide)
  (he:kJ (e::es) X.env=(false,eval e X.env)::kJ es X.env:=by rfl) (hpl:(pX pos (kJ es X.env)).any (·.1)=false:=by rfl):PE X (.Call (.Name x p) (e::es) [] pos) (tCB r t):=by
 intro pins s σ H Q I h;refine uQ (xk I hg hm hv ?_ hn hdb);exact PyProof.Rows.callWith_builtin1 (thn (ha pos pins s σ H _ I h) λus s1⟨vs,H1,I1,r1,q1⟩=>hc pins s1 σ H1 vs us Q I1 r1 q1) he hpl
def jo(hc:yd X (.type T) r)(hg:Gl X x)(hm:X.mg x=none)(hv:pp x=some (.type T))(ha:PA X (e::es) t)(hn:x≠"__name__":=by decide)(hdb:(x==("__debug__":Str))=false:=by decide)
  (he:kJ (e::es) X.env=(false,eval e X.env)::kJ es X.env:=by rfl) (hpl:(pX pos (kJ es X.env)).any (·.1)=false:=by rfl):PE X (.Call (.Name x p) (e::es) [] pos) (tCB r t):=by
 intro pins s σ H Q I h;refine uQ (xk I hg hm hv ?_ hn hdb);exact py (thn (ha pos pins s σ H _ I h) λus s1⟨vs,H1,I1,r1,q1⟩=>hc pins s1 σ H1 vs us Q I1 r1 q1) he hpl
end
end L2
namespace HT
open PySem PyProof.Rows
def lexLt:List Int->List Int->Bool
 |[],[]=>false
 |[],_::_=>true
 |_::_,[]=>false
 |x::xs,y::ys=>if x=y then lexLt xs ys else decide (x<y)
def lexLt_cons(x y:Int)(xs ys:List Int):lexLt (x::xs) (y::ys)=if x=y then lexLt xs ys else decide (x<y):=rfl
def lexLt_nil_nil:lexLt [] []=false:=rfl
def eqAt_int(A:pI)(s:kE)(a:Int)(t:Tok)(c:Int)(u:Tok):∃e,SeqAt.EqAt A s (.int a t) (.int c u) e/\(e=true↔a=c):=
 ⟨(a==c),SeqAt.EqAt.int_int a t c u,by simp⟩
section
variable{prog:kW}{w:kq}{A:pI}{E:kC->kE->Prop}{s:kE}
def cat_tup{t b:Addr}{vs ws:List kC}{Q:kC->kE->Prop}(ht:IsTup s.heap t vs.toArray)(hb:IsTup s.heap b ws.toArray)(hv:vs≠[])
  (h1:ws=[]->Q (.ref t) s)(h2:ws≠[]->Q (.ref s.heap.objs.size) {s with heap:=s.heap.push {cls:=.type "tuple",data:=.seq (vs++ws).toArray}})
  (hsz:vs.length+ws.length<=sizeLine):wpAny (model prog w) A (Uv .Add (.ref t) (.ref b)) Q E s:=by
 obtain⟨⟨cls,dd,data,sl⟩,ho,hc,n,hd⟩:=id ht;obtain⟨⟨cls2,dd2,data2,sl2⟩,ho2,hc2,n2,hd2⟩:=id hb
 simp only at hc hd hc2 hd2
 subst hc hd hc2 hd2;have e:vs.toArray++ws.toArray=(vs++ws).toArray:=by simp
 by_cases hw:ws=[]
 ·exact concat_meets ⟨_,ho,rfl⟩ ⟨_,ho2,rfl⟩ Du seq_tuple_add Bd BQ (BF _ _)
   (tuple_addW1 t b vs.toArray ws.toArray n n2 dd dd2 sl sl2 (by simpa using hv) (by simp[hw])) ⟨ho,ho2,h1 hw⟩
 ·refine concat_meets ⟨_,ho,rfl⟩ ⟨_,ho2,rfl⟩ Du seq_tuple_add Bd BQ (BF _ _)
   (tuple_addW2 t b vs.toArray ws.toArray n n2 dd dd2 sl sl2 (by simpa using hv) (by simpa using hw) (by rw[kh,kh];exact hsz)) ⟨ho,ho2,?_⟩
  rw[e];exact h2 hw
def sIx(n d:Nat):Option Int->Nat
 |none=>d
 |some v=>if v<0 then(v+(n:Int)).toNat else min v.toNat n
end
end HT
namespace L2
open PySem PySem.Spec PyProof.Rows
abbrev TO:=St->Hp->(Option Int->Hp->Prop)->Prop
def PO(X:Cx)(e:Option Expr)(t:TO):Prop:=
 ∀(pins:List (Addr×Obj))(s:kE)(σ:St)(H:Hp)(Q:Option Int->Hp->Prop),Inv X pins σ H s->t σ H Q->
  wpAny (model X.prog X.w) X.A (evalPart e X.env) (λu s'=>∃o H',Inv X pins σ H' s'/\IsPart u o/\Q o H') X.xe s
def tNoPart:TO:=λ_ H Q=>Q none H
def tPart(t:TE):TO:=λσ H Q=>t σ H λx H1=>∃i,x=.int i/\Q (some i) H1
theorem jX{ns:List Int}:∀{us:List kC},zr (ns.map V.int) us->UD us ns:=by
 induction ns with
 |nil=>intro us r;rw[Be] at r;cases r;exact .nil
 |cons n ns ih=>
  intro us r;rw[kY] at r
  cases r with
  |cons r1 r2=>
   obtain⟨t,e⟩:=r1;subst e;exact .cons n t (ih r2)
section
variable{X:Cx}{e:Expr}{te:TE}{lo hi:Option Expr}{tl th:TO}{pos p2:Pos}
def po_none:PO X none tNoPart:=by
 intro pins s σ H Q I h;rw[evalPart_none];exact kH ⟨none,H,I,.none,h⟩
def po_some(h:PE X e te):PO X (some e) (tPart te):=by
 intro pins s σ H Q I hw;rw[evalPart_some];refine thn (h pins s σ H _ I hw) λu s1⟨x,H1,I1,r1,q1⟩=>?_;obtain⟨i,rfl,q⟩:=q1;obtain⟨t,rfl⟩:=r1;exact⟨some i,H1,I1,.int i t,q⟩
def SlR(X:Cx)(r:V->Option Int->Option Int->Hp->VK->Prop):Prop:=
 ∀(pins:List (Addr×Obj))(s:kE)(σ:St)(H:Hp)(x:V)(v vl vu:kC)(lo hi:Option Int)(sl:Addr)(Q:VK),Inv X pins σ H s->zt x v->s.heap.IsSliceOf sl vl vu .none->IsPart vl lo->IsPart vu hi->r x lo hi H Q->
  ∃T id,Bf (.type T) "__getitem__"=pure (some (.builtin id))/\s.TypeIs v T/\wpAny (model X.prog X.w) X.A (DS v (.ref sl)) (EP X pins σ Q) X.xe s
def tSl(r:V->Option Int->Option Int->Hp->VK->Prop)(te:TE)(tl th:TO):TE:=λσ H Q=>te σ H λx H1=>tl σ H1 λl H2=>th σ H2 λu H3=>r x l u H3 Q
def zex{r:V->Option Int->Option Int->Hp->VK->Prop}(hr:SlR X r)(he:PE X e te)(hl:PO X lo tl)(hu:PO X hi th):PE X (.Subscript e (.Slice lo hi none p2) pos) (tSl r te tl th):=by
 intro pins s σ H Q I h;refine Ej (thn (he pins s σ H _ I h) λv s1⟨x,H1,I1,r1,q1⟩=>?_);refine wpAny_Slice (thn (hl pins s1 σ H1 _ I1 q1) λvl s2⟨l,H2,I2,pl,q2⟩=>thn (hu pins s2 σ H2 _ I2 q2) λvu s3⟨u,H3,I3,pu,q3⟩=>?_);rw[evalPart_none];refine kH ?_;have I4:Inv X pins σ H3 {s3 with heap:=s3.heap.push {cls:=.type "slice",data:=.fields #[vl,vu,.none]}}:=I3.kept (t':=s3.toks) λb ob q=>kG _ q;obtain⟨T,id,hT,ht,hg⟩:=hr pins {s3 with heap:=s3.heap.push {cls:=.type "slice",data:=.fields #[vl,vu,.none]}} σ H3 x v vl vu l u s3.heap.objs.size Q I4 r1 (Heap.IsSliceOf.new ..) pl pu q3;show wpAny (model X.prog X.w) X.A (Cw e (.Slice lo hi none p2) v (.ref s3.heap.objs.size)) (EP X pins σ Q) X.xe {s3 with heap:=s3.heap.push {cls:=.type "slice",data:=.fields #[vl,vu,.none]}};exact tail_any (ops:=[.ref s3.heap.objs.size,v]) ht hT hg (by with_unfolding_all rfl)
def vG(xs:List V)(lo hi:Option Int):List V:=(xs.drop (HT.sIx xs.length 0 lo)).take (HT.sIx xs.length xs.length hi-HT.sIx xs.length 0 lo)
theorem za9(xs:List V)(lo hi:Option Int):(vG xs lo hi).length<=xs.length:=by
 unfold vG;rw[Qx,Qz];omega
def rCatT(K:kF):R2:=λx y H Q=>∃a b xs ys,x=.ref a/\y=.ref b/\SqT K H a xs/\SqT K H b ys/\xs≠[]/\xs.length+ys.length<=sizeLine/\
 (ys=[]->Q (.ref a) H)/\(ys≠[]->∀p,H p=none->Q (.ref p) (upd H p (.tup (xs++ys))))
theorem zr.nil_iff{xs:List V}{us:List kC}(r:zr xs us):us=[]↔xs=[]:=by
 cases r with
 |nil=>simp
 |cons _ _=>simp
def op_catT:OpR X (Uv .Add) (rCatT X.K):=by
 intro pins s σ H x y v u Q I rx ry h;obtain⟨a,b,xs,ys,rfl,rfl,ha,hb,hx,hz,q1,q2⟩:=h
 cases rx
 cases ry;obtain⟨its,r1,p1,_⟩:=I.tuple ha;obtain⟨its2,r2,p2,_⟩:=I.tuple hb;refine HT.cat_tup p1 p2 (λz=>hx (r1.nil_iff.mp z)) (λz=>⟨.ref a,H,I,rfl,q1 (r2.nil_iff.mp z)⟩) (λz=>?_) (by rw[←r1.length,←r2.length];exact hz)
 refine⟨.ref s.heap.objs.size,_,I.laid (t':=s.toks) (o:=.tup (xs++ys)) (λb ob q=>kG _ q) (kN _) ?_,rfl,q2 (λw=>z (r2.nil_iff.mpr w)) _ (I.hok.fresh (kN _))⟩;exact⟨by rw[kO];exact hz,_,r1.append r2,IsTup.new _ _⟩
end
def ixN(n:Nat)(i:Int):Option Nat:=if 0<=i then(if i<n then some i.toNat else none) else if-(n:Int)<=i then some (i+n).toNat else none
variable{α:Type}
def atI(xs:List α)(i:Int):Option α:=(ixN xs.length i).bind λj=>xs[j]?
theorem ixN_seq{n:Nat}{i:Int}{j:Nat}(h:ixN n i=some j):seqIndex? i n=some j/\j<n/\ -(n:Int)<=i/\i<n:=by
 unfold ixN at h
 by_cases h0:0<=i
 ·rw[if_pos h0] at h
  by_cases h1:i<n
  ·rw[if_pos h1] at h;have e:i.toNat=j:=pL h;exact⟨by rw[seqIndex_of h0 h1,e],by omega,by omega,h1⟩
  ·rw[if_neg h1] at h;cases h
 ·rw[if_neg h0] at h
  by_cases h1: -(n:Int)<=i
  ·rw[if_pos h1] at h;have e:(i+n).toNat=j:=pL h;exact⟨by rw[seqIndex_neg (by omega) h1,e],by omega,h1,by omega⟩
  ·rw[if_neg h1] at h;cases h
theorem XH{xs:List α}{i:Int}{v:α}(h:atI xs i=some v):∃j,seqIndex? i xs.length=some j/\xs[j]?=some v/\j<xs.length/\ -(xs.length:Int)<=i/\i<xs.length:=by
 unfold atI at h
 cases e:ixN xs.length i with
 |none=>rw[e] at h;cases h
 |some j=>
  rw[e] at h;obtain⟨h1,h2,h3,h4⟩:=ixN_seq e;exact⟨j,h1,h,h2,h3,h4⟩
theorem Vs{xs:List α}{j:Nat}{v:α}(h:xs[j]?=some v):atI xs (j:Int)=some v:=by
 have hj:j<xs.length:=(kM.mp h).1;have e:ixN xs.length (j:Int)=some j:=by
  unfold ixN;rw[if_pos (by omega),if_pos (by omega)];simp
 unfold atI;rw[e];exact h
def jh(b:Expr):Prop:=∀o i,subscripted b false o i=operate [o,i] (DS o i)
def IxR(X:Cx)(r:R2):Prop:=
 ∀(value slice:Expr)(pins:List (Addr×Obj))(s:kE)(σ:St)(H:Hp)(x y:V)(v u:kC)(Q:VK),Inv X pins σ H s->zt x v->zt y u->r x y H Q->
  subscripted slice false v u=operate [v,u] (DS v u)->wpAny (model X.prog X.w) X.A (Cw value slice v u) (EP X pins σ Q) X.xe s
def MtR(X:Cx)(id:String)(r:V->List V->Hp->VK->Prop):Prop:=
 ∀(pins:List (Addr×Obj))(s:kE)(σ:St)(H:Hp)(x:V)(xs:List V)(v:kC)(us:List kC)(Q:VK),Inv X pins σ H s->zt x v->zr xs us->r x xs H Q->
  wpAny (model X.prog X.w) X.A (call (.builtin id) (v::us)) (EP X pins σ Q) X.xe s
section
variable{X:Cx}{a b:Expr}{ta tb:TE}{pos:Pos}
def IxR.or{r r':R2}(h:IxR X r)(h':IxR X r'):IxR X (λx y H Q=>r x y H Q∨r' x y H Q):=by
 intro value slice pins s σ H x y v u Q I rx ry q hs;rcases q with q|q
 ·exact h value slice pins s σ H x y v u Q I rx ry q hs
 ·exact h' value slice pins s σ H x y v u Q I rx ry q hs
def Wr{r:R2}(hr:IxR X r)(ha:PE X a ta)(hb:PE X b tb)(hs:jh b):PE X (.Subscript a b pos) (tOp r ta tb):=by
 intro pins s σ H Q I h;exact Ej (binT ha hb I h λv u s2 x y H2 I2 rx ry q=>hr a b pins s2 σ H2 x y v u Q I2 rx ry q (hs _ _))
def rIxL(K:kF):R2:=λx y H Q=>∃p xs i v,x=.ref p/\y=.int i/\SqL K H p xs/\atI xs i=some v/\Q v H
def rIxT(K:kF):R2:=λx y H Q=>∃p xs i v,x=.ref p/\y=.int i/\SqT K H p xs/\atI xs i=some v/\Q v H
def rIxS:R2:=λx y H Q=>∃z i c,x=.str z/\y=.int i/\z.length<=sizeLine/\atI z.cps.toList i=some c/\Q (.str ⟨#[c]⟩) H
theorem ix_list:IxR X (rIxL X.K):=by
 intro value slice pins s σ H x y v u Q I rx ry h hs;obtain⟨p,xs,i,z,rfl,rfl,hq,he,q⟩:=h
 cases rx;obtain⟨t,rfl⟩:=ry;obtain⟨its,r,pl,hz⟩:=I.list hq;obtain⟨j,h1,h2,h3,h4,h5⟩:=XH he;obtain⟨w,ew,rw'⟩:=r.get h2;have hl:=r.length;have hn:=line63;have fin:EP X pins σ Q w s:=⟨z,H,I,rw',q⟩
 by_cases h0:0<=i
 ·have hj:i.toNat=j:=by
   rw[seqIndex_of h0 h5] at h1;exact pL h1
  exact item_listR pl.isList h0 (by omega) (by rw[hj];simpa using ew) fin hs
 ·have hj:(i+(its.toArray.size:Int)).toNat=j:=by
   rw[seqIndex_neg (by omega) h4] at h1
   rw[kh,←hl];exact pL h1
  exact Bg (x:=w) pl.isList.typeIs DT.lookup
   (wpAny_getItem_list_neg (Q:=λr s'=>r=w/\EP X pins σ Q r s') pl.isList (by omega) (by rw[kh]<;>omega) (by omega) (by rw[hj];simpa using ew) ⟨rfl,fin⟩) hs
theorem ix_tup:IxR X (rIxT X.K):=by
 intro value slice pins s σ H x y v u Q I rx ry h hs;obtain⟨p,xs,i,z,rfl,rfl,hq,he,q⟩:=h
 cases rx;obtain⟨t,rfl⟩:=ry;obtain⟨its,r,pl,hz⟩:=I.tuple hq;obtain⟨j,h1,h2,h3,h4,h5⟩:=XH he;obtain⟨w,ew,rw'⟩:=r.get h2;have hl:=r.length;have hn:=line63;have fin:EP X pins σ Q w s:=⟨z,H,I,rw',q⟩;exact Bg (x:=w) pl.typeIs slot_tuple_getitem.lookup
  (getItem_tuple (j:=j) (Q:=λr s'=>r=w/\EP X pins σ Q r s') pl (by omega) (by omega) (by rw[kh,←hl];exact h1) (by simpa using ew) ⟨rfl,fin⟩) hs
theorem ix_str:IxR X rIxS:=by
 intro value slice pins s σ H x y v u Q I rx ry h hs;obtain⟨z,i,c,rfl,rfl,hz,he,q⟩:=h;obtain⟨t,rfl⟩:=rx;obtain⟨t',rfl⟩:=ry;obtain⟨j,h1,h2,h3,h4,h5⟩:=XH he;have hl:z.cps.toList.length=z.length:=by simp[Str.length]
 rw[hl] at h1 h4 h5;have hn:=line63;exact tail_any (Ek s z t) slot_str_getitem.lookup (getItem_str (c:=c) (by
  have e1:decide (i< -(2^63:Int))=false:=decide_eq_false (by omega)
  have e2:decide (i≥2^63)=false:=decide_eq_false (by omega)
  rw[e1,e2,Cy]) (by rw[h1];simpa using h2) ⟨.str ⟨#[c]⟩,H,I.tok _,⟨_,rfl⟩,q⟩) hs
def rIx(K:kF):R2:=λx y H Q=>rIxL K x y H Q∨rIxT K x y H Q∨rIxS x y H Q
def We:IxR X (rIx X.K):=ix_list.or (ix_tup.or ix_str)
theorem zb8(lo hi:Option Int)(n:Nat):(gW lo hi none n).1=((HT.sIx n 0 lo:Nat):Int)/\(gW lo hi none n).2.1=((HT.sIx n n hi:Nat):Int)/\(gW lo hi none n).2.2=1:=by
 refine⟨?_,?_,rfl⟩
 ·cases lo with
  |none=>simp[gW,HT.sIx]
  |some i=>
   simp only[gW,HT.sIx,Dv,show(1:Int)>0 by decide,if_true]
   by_cases h:i<0
   ·simp only[h,if_true]<;>omega
   ·simp only[h,if_false]<;>omega
 ·cases hi with
  |none=>simp[gW,HT.sIx]
  |some i=>
   simp only[gW,HT.sIx,Dv,show(1:Int)>0 by decide,if_true]
   by_cases h:i<0
   ·simp only[h,if_true]<;>omega
   ·simp only[h,if_false]<;>omega
def zf0(its:List kC)(lo hi:Option Int):slicePick its.toArray lo hi none=((its.drop (HT.sIx its.length 0 lo)).take (HT.sIx its.length its.length hi-HT.sIx its.length 0 lo)).toArray:=by
 obtain⟨h1,h2,h3⟩:=zb8 lo hi its.toArray.size;unfold slicePick;rw[h1,h2,h3];simp only[sliceRange_one,pick_run,kh]<;>rfl
def rSlL(K:kF):V->Option Int->Option Int->Hp->VK->Prop:=λx lo hi H Q=>∃a xs,x=.ref a/\SqL K H a xs/\∀p,H p=none->Q (.ref p) (upd H p (.lst (vG xs lo hi)))
theorem sl_list:SlR X (rSlL X.K):=by
 intro pins s σ H x v vl vu lo hi sl Q I rx hs pl pu h;obtain⟨a,xs,rfl,hx,q⟩:=h
 cases rx;obtain⟨its,r,ht,hz⟩:=I.list hx;have hlen:=r.length;refine⟨"list",_,DT.lookup,ht.isList.typeIs,?_⟩;refine wpAny_getItem_list_slice ht.isList hs pl pu .none (by simp) ?_ (by rw[kh]<;>omega)
 rw[zf0,←hlen];refine⟨.ref s.heap.objs.size,_,I.laid (t':=s.toks) (o:=.lst (vG xs lo hi)) (λb ob q=>kG _ q) (kN _) ?_,rfl,q _ (I.hok.fresh (kN _))⟩;exact⟨pd (za9 xs lo hi) hz,_,0,(r.drop (HT.sIx xs.length 0 lo)).take (HT.sIx xs.length xs.length hi-HT.sIx xs.length 0 lo),kQ _ rfl⟩
theorem ze5:yd X (.builtin "len") (λxs H Q=>∃p ys,xs=[.ref p]/\(SqL X.K H p ys∨SqT X.K H p ys)/\Q (.int ys.length) H):=by
 intro pins s σ H xs us Q I r h;obtain⟨p,ys,rfl,hq,q⟩:=h;obtain⟨u,rfl,rx⟩:=vals1 r
 cases rx;have hn:=line63;rcases hq with hq|hq
 ·obtain⟨its,r',pl,hz⟩:=I.list hq;have hlen:=r'.length;exact Calls.call_len_list pl.isList (by simp only[kh]<;>omega) ⟨.int ys.length,H,I.tok _,⟨s.toks+1,by rw[kh,hlen]⟩,q⟩
 ·obtain⟨its,r',pl,hz⟩:=I.tuple hq;have hlen:=r'.length;exact len_tuple pl (by simp only[kh]<;>omega) ⟨.int ys.length,H,I.tok _,⟨s.toks+1,by rw[kh,hlen]⟩,q⟩
theorem zf8:yd X (.builtin "len") (λxs H Q=>∃z,xs=[.str z]/\z.length<=sizeLine/\Q (.int z.length) H):=by
 intro pins s σ H xs us Q I r h;obtain⟨z,rfl,hz,q⟩:=h;obtain⟨u,rfl,t,rfl⟩:=vals1 r;have hn:=line63;exact len_str (by omega) ⟨.int z.length,H,I.tok _,⟨_,rfl⟩,q⟩
theorem ze2:yd X (.type "list") (λxs H Q=>∃p ys,xs=[.ref p]/\(SqL X.K H p ys∨SqT X.K H p ys)/\∀l,H l=none->Q (.ref l) (upd H l (.lst ys))):=by
 intro pins s σ H xs us Q I r h;obtain⟨p,ys,rfl,hq,q⟩:=h;obtain⟨u,rfl,rx⟩:=vals1 r
 cases rx;have fin:∀(its:List kC),zr ys its->ys.length<=sizeLine->∀(h':Heap)(c':Nat),(∀b o',s.heap.get? b=some o'->h'.get? b=some o')->
   h'.get? s.heap.objs.size=some {cls:=.type "list",dict:=none,data:=.seq its.toArray c',slots:=#[]}->EP X pins σ Q (.ref s.heap.objs.size) {s with heap:=h'}:=λits r' hz h' c' kp e=>
  ⟨.ref s.heap.objs.size,_,I.laid (t':=s.toks) kp (kN _) (show zV X.prog X.w _ h' _ (.lst ys) from⟨hz,its,c',r',e⟩),rfl,q _ (I.hok.fresh (kN _))⟩
 rcases hq with hq|hq
 ·obtain⟨its,r',pl,hz⟩:=I.list hq;have hlen:=r'.length;obtain⟨o,ho,hc,n,hd⟩:=pl.isList;exact call_list_seq p (.inl rfl) ho hc hd (λh' c' kp e=>fin its r' hz h' c' kp e) (by simp only[kh]<;>omega)
 ·obtain⟨its,r',pl,hz⟩:=I.tuple hq;have hlen:=r'.length;obtain⟨o,ho,hc,n,hd⟩:=pl;exact call_list_seq p (.inr rfl) ho hc hd (λh' c' kp e=>fin its r' hz h' c' kp e) (by simp only[kh]<;>omega)
def tyV(K:kF)(T:String)(x:V)(H:Hp):Prop:=match x with
 |.str _=>T="str"
 |.int _=>T="int"
 |.ref p=>(T="list"/\∃xs,SqL K H p xs)∨(T="tuple"/\∃o,K.lookup p=some o/\o.cls=.type "tuple"/\o.dict=none)∨
   (T="dict"/\((∃kvs,H p=some (.dK kvs))∨∃kvs,H p=some (.dT kvs)))∨(T="set"/\∃S n,H p=some (.set S n))
 |_=>False
theorem tyV_is{pins:List (Addr×Obj)}{σ:St}{H:Hp}{s:kE}{T:String}{x:V}{v:kC}(I:Inv X pins σ H s)(r:zt x v)(ty:tyV X.K T x H):
  s.TypeIs v T/\∀a,v=.ref a->∃ob,s.heap.get? a=some ob/\ob.dict=none:=by
 cases x with
 |str z=>
  obtain⟨t,rfl⟩:=r
  cases(show T="str" from ty);exact⟨Ek s z t,λ_ e=>nomatch e⟩
 |int i=>
  obtain⟨t,rfl⟩:=r
  cases(show T="int" from ty);exact⟨typeIs_int s i t,λ_ e=>nomatch e⟩
 |ref p=>
  cases r;rcases ty with⟨rfl,xs,hq⟩|⟨rfl,o,hk,hc,hd⟩|⟨rfl,hk⟩|⟨rfl,S,n,hk⟩
  ·obtain⟨its,_,pl,_⟩:=I.list hq;refine⟨pl.isList.typeIs,λa e=>?_⟩
   cases e;obtain⟨o,n,e,c,hd,_⟩:=pl;exact⟨o,e,hd⟩
  ·refine⟨⟨o,I.kIn p o hk,hc⟩,λa e=>?_⟩
   cases e;exact⟨o,I.kIn _ o hk,hd⟩
  ·have z:∃o,s.heap.get? p=some o/\o.ExactDict:=by
    rcases hk with⟨kvs,hk⟩|⟨kvs,hk⟩
    ·obtain⟨_,_,_,_,o,_,_,e,ex,_⟩:=I.hok p _ hk;exact⟨o,e,ex⟩
    ·obtain⟨_,_,_,_,o,_,_,e,ex,_⟩:=I.hok p _ hk;exact⟨o,e,ex⟩
   obtain⟨o,e,ex⟩:=z;refine⟨⟨o,e,ex.1⟩,λa e2=>?_⟩
   cases e2;exact⟨o,e,ex.2.1⟩
  ·obtain⟨o,_,_,_,e,ex,_⟩:=I.hok p _ hk;refine⟨⟨o,e,ex.1⟩,λa e2=>?_⟩
   cases e2;exact⟨o,e,ex.2.1⟩
 |_=>exact uK ty
def tBM(K:kF)(T:String)(r:V->List V->Hp->VK->Prop)(to:TE)(t:TA):TE:=λσ H Q=>to σ H λx H1=>tyV K T x H1/\t σ H1 λxs H2=>r x xs H2 Q
variable{o e:Expr}{es:List Expr}{to:TE}{t:TA}{name:Str}{apos cpos:Pos}{T id:String}{r:V->List V->Hp->VK->Prop}
def jO(pa:PlainAttrs T)(slot:Slot T name id)(hty:BG (.builtin id)=pure (.type "method_descriptor"))(hm:MtR X id r)(ho:PE X o to)(ha:PA X (e::es) t)
  (hbase:UO o name X.env (eval o X.env)=eval o X.env:=by rfl)
  (hfew:((pX cpos (kJ (e::es) X.env)).all (λx=> !x.1)&&(UL cpos (ux [] X.env)).all (λx=>x.1.isSome)
   &&decide ((e::es).length+([]:List gI).length+(if([]:List gI).isEmpty then 0 else 1)<30))=true:=by rfl)
  (hline:(apos.endLine==cpos.line)=true:=by rfl) (hs:kJ (e::es) X.env=(false,eval e X.env)::kJ es X.env:=by rfl) (hplain:(pX cpos (kJ es X.env)).any (·.1)=false:=by rfl):
  PE X (.Call (.Attribute o name apos) (e::es) [] cpos) (tBM X.K T r to t):=by
 intro pins s σ H Q I h;refine wpAny_Call_method_late hbase hfew hline rfl (thn (ho pins s σ H _ I h) λv s1⟨x,H1,I1,r1,ty,q1⟩=>?_);obtain⟨h1,h2⟩:=tyV_is I1 r1 ty;refine⟨T,id,pa,slot,hty,h1,h2,?_⟩;have hA:=ha cpos pins s1 σ H1 _ I1 q1;rw[hs] at hA⊢;refine Bh (by show(false||(pX cpos (kJ es X.env)).any (·.1))=false;rw[hplain]<;>rfl) (Ux ?_)
 exact thn hA λus s2⟨vs,H2,I2,r2,q2⟩=>hm pins s2 σ H2 x vs v us Q I2 r1 r2 q2
end
def MtM(X:Cx)(id:String)(r:V->List V->Hp->VK->Prop):Prop:=
 ∀(pins:List (Addr×Obj))(s:kE)(σ:St)(H:Hp)(x:V)(xs:List V)(v:kC)(us:List kC)(Q:VK),Inv X pins σ H s->zt x v->zr xs us->r x xs H Q->
  wpAny (model X.prog X.w) X.A (call (.builtin id) (v::us)) (EP X pins σ Q) X.xe s
theorem zr.one:∀{x:V}{us:List kC},zr [x] us->∃u,us=[u]/\zt x u
 |_,_,.cons r .nil=>⟨_,rfl,r⟩
variable{its:List kC}
section
variable{X:Cx}{pins:List (Addr×Obj)}{σ:St}{H:Hp}{s:kE}{l b:Addr}{xs ys zs:List V}
def Inv.lset{its':List kC}{n:Nat}{f:Array kC->Array kC}{t':Nat}(I:Inv X pins σ H s)(hH:H l=some (.lst xs))
  (e:s.heap.get? l=some {cls:=.type "list",data:=.seq its.toArray n})(hf:f its.toArray=its'.toArray)(hv:zr ys its')(hz:ys.length<=sizeLine):
  Inv X pins σ (upd H l (.lst ys)) {s with heap:=s.heap.update l (kj f),toks:=t'}:=by
 have q:=PySem.IsL.update e f;rw[hf] at q;refine I.write (x:=l) (e:=l) (by rw[hH];exact trivial) (.inl rfl) (λb' u hb hu=>(uH s.heap (kj f) (QM hb)).trans hu) ⟨_,q⟩ ?_
 exact⟨hz,its',_,hv,q⟩
def Inv.lnew{t':Nat}(I:Inv X pins σ H s)(hv:zr ys its)(hz:ys.length<=sizeLine):
  Inv X pins σ (upd H s.heap.objs.size (.lst ys)) {s with heap:=s.heap.push {cls:=.type "list",data:=.seq its.toArray},toks:=t'}:=
 I.laid (λ_ _ q=>kG _ q) (kN _) ⟨hz,its,0,hv,kQ _ rfl⟩
def Inv.fresh(I:Inv X pins σ H s):H s.heap.objs.size=none:=I.hok.fresh (kN _)
def Inv.lstM(I:Inv X pins σ H s)(hH:H l=some (.lst xs)):xs.length<=sizeLine/\∃(its:List kC)(n:Nat),zr xs its/\xs.length=its.length/\s.heap.get? l=some {cls:=.type "list",data:=.seq its.toArray n}:=by
 obtain⟨z,its,n,r,e⟩:=I.hok l _ hH;exact⟨z,its,n,r,r.length,e⟩
theorem VV{n:Nat}(h:n<=sizeLine):Qd n=false:=by
 unfold Qd;exact decide_eq_false (by omega)
end
section
variable{X:Cx}
def rAppend:V->List V->Hp->VK->Prop:=λx vs H Q=>∃l xs y,x=.ref l/\vs=[y]/\H l=some (.lst xs)/\xs.length<sizeLine/\Q .non (upd H l (.lst (xs++[y])))
theorem qK:MtM X "list.append" rAppend:=by
 intro pins s σ H x vs v us Q I rx rv h;obtain⟨l,xs,y,rfl,rfl,hH,hz,q⟩:=h
 cases rx;obtain⟨u,rfl,ru⟩:=rv.one;obtain⟨z,its,n,r,hl,e⟩:=I.lstM hH;refine DF F.slot_list_append ⟨_,e,rfl⟩ F.entry_list_append (F.args_list_append_2 _ _) (PySem.list_append l its.toArray n u (by rw[kh];omega)) ⟨e,?_⟩
 refine⟨.non,_,I.lset (its':=its++[u]) hH e (by simp) (r.append (.cons ru .nil)) ?_,rfl,q⟩
 rw[kO,QX];omega
end
end L2
namespace Att
open PySem PySem.W PySem.Calls PyProof.Rows
theorem zem{P:Params}{h:Heap}:∀(ns:List Int)(vs:List kC),WellAll P h vs (ns.map WData.int)->UD vs ns:=by
 intro ns
 induction ns with
 |nil=>
  intro vs w;rw[Be] at w
  cases w;exact .nil
 |cons n ns ih=>
  intro vs w;rw[kY] at w
  cases w with
  |cons a b=>
   cases a;exact .cons _ _ (ih _ b)
theorem zdt{l:OpenLaw}{n:Nat}(hn:l.most=some n){P:Params}{h:Heap}{args:List WData}{vals:List kC}
  (hpre:l.row.toRowW.claim.pre args=true)(hwl:WellAll P h vals args):
  ∃a vs ns,vals=[ki a]/\args=[WData.list (ns.map WData.int)]/\h.get? a=some {cls:=.type "list",data:=.seq vs.toArray}/\UD vs ns/\ns.length<=n:=by
 have hsh:WShape.hasAll [] args [.list .int]=true:=(pre_splitW hpre).1;have hc:l.pre.holds [] {args:=args}=true:=(pre_splitW hpre).2;obtain⟨d,r,rfl,h1,h2⟩:=hasAllW_cons hsh;obtain rfl:=hasAllW_nil h2;obtain⟨xs,rfl,h3⟩:=hasW_list h1;obtain⟨ns,rfl⟩:=items_int h3;have hlen:ns.length<=n:=by
  unfold OpenLaw.pre at hc;have h4:(WTm.not (.lt (.lit (.int (n:Int))) (.len (.arg 0)))).holds [] {args:=[.list (ns.map .int)]}=true:=by
   have h4:=(holds_andW hc).1;rw[hn] at h4;exact h4
  have h5:=condW_of h4 (w_not (w_lt w_lit (w_len_list (w_arg rfl))));rw[kL] at h5;refine Nat.le_of_not_lt λq=>?_;have q':(n:Int)<((ns.length:Nat):Int):=by omega
  first
   |(rw[decide_eq_true q'] at h5;exact absurd h5 (by decide))
   |(simp at h5;omega)
 cases hwl with
 |cons w1 w2=>
  cases w2
  cases w1 with
  |list ho hall=>exact⟨_,_,ns,rfl,rfl,ho,zem ns _ hall,hlen⟩
def za3(l:OpenLaw)(args:List WData):l.row.toRowW.claim.post args (.bool true) args=true:=
 postW_of (r:=l.row.toRowW) (X:=(true==true))
  (show WShape.has [] (.bool true) .bool=true by first|rfl|decide|simp[WShape.has,WShape.arms,WShape.armsAll])
  (show(WTm.eq .res (.lit (.bool true))).value [] {args:=args,res:=some (.bool true),after:=args}=some (.bool (true==true)) from w_eq_bool (w_res rfl) w_lit) rfl
def attach_call{l:OpenLaw}{n:Nat}{q:kW}{loose:List Str}{XP:(Str->Option kC)->Heap->Prop}{YP:kq->Heap->Prop}{d:DefRec}
  (hn:l.most=some n)(hdf:d.params.defaults=[])
  (call:∀(w:kq)(s₀ s₁:kE)(mg mb:Str->Option kC)(fa:Addr)(o:Obj)(pm cd doc:kC)(a:Addr)(vs:List kC)(ns:List Int),
   Ground q loose [] XP w s₀ mg mb s₁.heap->YP w s₁.heap->
   s₁.heap.get? fa=some o->o.data=.func (docDef d.name d.params d.body d.scope pm cd doc)->s₁.heap.CodeRec cd d.name->mg d.name=some (.ref fa)->
   s₁.heap.get? a=some {cls:=.type "list",data:=.seq vs.toArray}->UD vs ns->ns.length<=n->s₁.gens=#[]->
   UK (model l.prog w) Cg (.call (.ref fa) ⟨[.ref a],[]⟩) (λr s'=>r=.ok (.ret (.bool true))/\OldK s₁.heap s'.heap/\s'.os=s₁.os/\AY s'.gens) s₁):
  WalkO q loose XP YP l.row.toRowW d [] (λf vs=>El f vs):=by
 intro w s₀ s₁ mg mb G Y fa o pm cd doc dV kV ho hd hcd hD hmg hg args vals as hpre hlay hrd hwl hlo;obtain rfl:dV=.none:=Dflts.none hD hdf;obtain rfl:kV=.none:=Dflts.noKw hD;obtain⟨a,vs,ns,rfl,rfl,hobj,hints,hlen⟩:=zdt hn hpre hwl;refine enter_call (Qs (call w s₀ s₁ mg mb fa o pm cd doc a vs ns G Y ho (fd_plain hd) hcd hmg hobj hints hlen hg) λr s' hq=>?_);obtain⟨rfl,h2,h3,h4⟩:=hq;exact⟨.inl ⟨.bool true,.bool true,[],rfl,λ_=>rfl,.bool true,za3 l _,λ_=>⟨List.Pairwise.nil,λ_ hm=>(nomatch hm)⟩⟩,h2,h3,h4⟩
end Att
namespace L2
open PySem PySem.Spec PyProof.Rows
theorem Wi:∀{vs:List kC}{ns:List Int},UD vs ns->zr (ns.map V.int) vs
 |_,_,.nil=>.nil
 |_,_,.cons n t h=>.cons ⟨t,rfl⟩ (Wi h)
def W6(s:Stmt)(j:Nat):Stmt:=match s with
 |.ClassDef _ _ _ body _ _ _ _ _ _ _=>body.getD j (.Pass ⟨0,0,0,0⟩)
 |_=>.Pass ⟨0,0,0,0⟩
def yJ(s:Stmt):Qy:=match s with
 |.FunctionDef _ a _ _ _ _ _ _ _ _=>a
 |_=>{posonlyargs:=[],args:=[],vararg:=none,kwonlyargs:=[],kw_defaults:=[],kwarg:=none,defaults:=[]}
def ya(s:Stmt):List Stmt:=match s with
 |.FunctionDef _ _ b _ _ _ _ _ _ _=>b
 |_=>[]
def zo(s:Stmt):Scope:=match s with
 |.FunctionDef _ _ _ _ _ _ sc _ _ _=>sc
 |_=>{kind:=.function,names:=[],isGenerator:=false,isCoroutine:=false}
abbrev CX0:CXT:=λ_ _ _ _ _ _=>False
abbrev E0:XK:=λ_ _ _=>False
def pass0{X:Cx}:Passes CX0 X E0:=λ_ _ _ _ _ _ _ h=>h.elim
structure Fun(K:kF)(x qual:Str)(st:Stmt)(f:Addr)(fd:pZ):Prop where
 ex:∃(oc:kC)(od:Option Addr)(kV doc pm:kC)(an:Option Addr)(cdv ct:kC)(osl:Array (Option kC)),
  fd=uG x qual (yJ st) (ya st) (zo st) .none kV doc pm an cdv ct/\K.lookup f=some ⟨oc,od,.func fd,osl⟩/\QP K cdv qual=true
 kp:uf K (.ref f)=true
variable{ps:List Str}{sp:Sp}
section
variable{P:kW}{w:kq}{K:kF}{mg:Str->Option kC}{base:Heap}
variable{x qual:Str}{st:Stmt}{f:Addr}
def Fun.ok{fd:pZ}{N:List Str}{k:Nat}(F:Fun K x qual st f fd)(S:zA N ps (zo st))(len:∀vs H Q E,sp vs H Q E->vs.length=ps.length)
  (hbody:∀(cdv:kC)(A:pI)(outer:List Env)(s:kE)(H:Hp)(vs:List V)(Q:VK)(E:XK),zD k (A.deeper (QL qual (zo st) s.heap.objs.size f cdv))->sp vs H Q E->
   ∃t,PSs (ym CX0 P w K mg base N qual (zo st) f cdv A outer s H E).nox (ya st) t/\t {nx:=λ_ H'=>Q .non H',rt:=Q} (start N vs) H):zw P w K mg base CX0 (k+1) f fd ps sp:=by
 obtain⟨oc,od,kV,doc,pm,an,cdv,ct,osl,rfl,lk,hcd⟩:=F.ex;refine YK lk hcd S len λA outer s H vs Q E hr hsp=>?_;obtain⟨t,h,q⟩:=hbody cdv A outer s H vs Q E hr hsp;exact⟨t,h.nox,q⟩
def Fun.binds{fd:pZ}(F:Fun K x qual st f fd)
  (h:∀(kV doc pm:kC)(an:Option Addr)(cdv ct:kC)(us:List kC),us.length=ps.length->QW (uG x qual (yJ st) (ya st) (zo st) .none kV doc pm an cdv ct) ⟨us,[]⟩=pure (ps.zip us)):Binds K fd ps []:=by
 obtain⟨oc,od,kV,doc,pm,an,cdv,ct,osl,rfl,lk,hcd⟩:=F.ex;exact .all (h kV doc pm an cdv ct)
def fun_mk{oc:kC}{od an:Option Addr}{osl:Array (Option kC)}{kV doc pm cdv ct:kC}(l:K.lookup f=some ⟨oc,od,.func (uG x qual (yJ st) (ya st) (zo st) .none kV doc pm an cdv ct),osl⟩)
  (c:QP K cdv qual=true)(k:uf K (.ref f)=true):Fun K x qual st f (uG x qual (yJ st) (ya st) (zo st) .none kV doc pm an cdv ct):=⟨⟨oc,od,kV,doc,pm,an,cdv,ct,osl,rfl,l,c⟩,k⟩
end
def yx{A:pI}{k:Nat}(hr:zD k A):A.units+1<cLine:=DG (Nat.add_le_add_left (by decide:1<=64) _) hr.units
section
variable{X:Cx}
def pv(i:Nat){x:Str}{pos:Pos}(hN:X.N[i]?=some x:=by rfl)(hv:Vis X.env.scope x:=by first|exact QZ rfl|exact uU (QZ rfl)|exact uU (uU rfl))(hd:(x==("__debug__":Str))=false:=by decide)
  (hcd:(x==("__classdict__":Str))=false:=by decide):PE X (.Name x pos) (yW i):=yX hN hv hd hcd
end
def wy{A B:Prop}(h:B):if false=true then A else B:=by
 rw[if_neg kZ];exact h
def xX{A B:Prop}(h:A):if true=true then A else B:=by
 rw[if_pos rfl];exact h
def Same(H H':Hp):Prop:=∀b o,H b=some o->H' b=some o
variable{T:String}
section
variable{X:Cx}
def jG(i j:Int):Prop:=i.natAbs<2^1000000/\j.natAbs<2^1000000
def jG.ok{i j:Int}(h:jG i j):IntMulOk i j:=
 PySem.IntMulOk.of_le (CM.mpr h.1) (CM.mpr h.2) (by decide)
def op_mulB:OpR X (Uv .Mult) (rI jG λi j=>.int (i*j)):=opI λ_ _ _ _ _ _ _ hc q=>mul_int q hc.ok
def qX(_i j:Int):Prop:=j≠0/\j.natAbs<2^8999
theorem za4:OpR X (Uv .FloorDiv) (rI qX λi j=>.int (i.fdiv j)):=opI λ_ j _ _ _ _ _ hc q=>by
 refine floordiv_int hc.1 q (.inl (PyProof.noPylong_of_log2 ?_));have h0:j.natAbs≠0:=by have:=hc.1;omega
 have:=(Nat.log2_lt h0).mpr hc.2;omega
def bt_abs:pp "abs"=some (.builtin "abs"):=by decide+kernel
def Zq:pp "len"=some (.builtin "len"):=by decide+kernel
def Yb:pp "isinstance"=some (.builtin "isinstance"):=by decide+kernel
def bt_int:pp "int"=some (.type "int"):=by decide+kernel
def bt_bool:pp "bool"=some (.type "bool"):=by decide+kernel
def j4:pp "list"=some (.type "list"):=by decide+kernel
def Yp:pp "str"=some (.type "str"):=by decide+kernel
def dictO(a:Addr):HO:=.ext λh=>∃o,h.get? a=some o/\o.cls=.type "dict"
def tyN(K:kF)(H:Hp)(x:V)(T:String):Prop:=match x with
 |.non=>T="NoneType"
 |.bl _=>T="bool"
 |.int _=>T="int"
 |.str _=>T="str"
 |.ref p=>(T="list"/\∃xs,SqL K H p xs)∨(T="tuple"/\∃xs,SqT K H p xs)∨(T="dict"/\H p=some (dictO p))
 |_=>False
variable{pins:List (Addr×Obj)}{H:Hp}{x:V}
theorem JI{σ:St}{s:kE}{v:kC}(I:Inv X pins σ H s)(r:zt x v)(ty:tyN X.K H x T):s.TypeIs v T:=by
 cases x with
 |non=>cases r;cases(show T="NoneType" from ty);rfl
 |bl b=>cases r;cases(show T="bool" from ty);rfl
 |int i=>obtain⟨t,rfl⟩:=r;cases(show T="int" from ty);exact typeIs_int s i t
 |str z=>obtain⟨t,rfl⟩:=r;cases(show T="str" from ty);exact Ek s z t
 |ref p=>
  cases r;rcases ty with⟨rfl,xs,hq⟩|⟨rfl,xs,hq⟩|⟨rfl,hq⟩
  ·obtain⟨its,_,pl,_⟩:=I.list hq;exact pl.isList.typeIs
  ·obtain⟨its,_,⟨o,e,c,_⟩,_⟩:=I.tuple hq;exact⟨o,e,c⟩
  ·obtain⟨⟨o,e,c⟩,_⟩:=I.hok p _ hq;exact⟨o,e,c⟩
 |_=>exact uK ty
theorem wT{σ:St}{s:kE}{Tx:String}{b:Bool}{v:kC}{Q:VK}(hne:b=false->(uj Tx==uj T)=false)
  (hty:BG (.type T)=pure (.type "type"))(hsub:hW (.type Tx) (.type T)=pure b)(I:Inv X pins σ H s)(r:zt x v)(ht:tyN X.K H x Tx)(q:Q (.bl b) H):
  wpAny (model X.prog X.w) X.A (call (.builtin "isinstance") [v,.type T]) (EP X pins σ Q) X.xe s:=by
 cases b with
 |true=>exact call_isinstance_yes (JI I r ht) hty hsub ⟨.bl true,H,I,rfl,q⟩
 |false=>
  have hq:EP X pins σ Q (.bool false) {s with toks:=s.toks+1}:=⟨.bl false,H,I.tok _,rfl,q⟩
  cases x with
  |non=>cases r;cases(show Tx="NoneType" from ht);exact Ql (isinstance_false_none (hne rfl) hty hsub) hq
  |bl b=>cases r;cases(show Tx="bool" from ht);exact Ql (isinstance_false_bool (hne rfl) hty hsub) hq
  |int i=>obtain⟨t,rfl⟩:=r;cases(show Tx="int" from ht);exact Ql (isinstance_false_int (hne rfl) hty hsub) hq
  |str z=>obtain⟨t,rfl⟩:=r;cases(show Tx="str" from ht);exact Ql (isinstance_false_str (hne rfl) hty hsub) hq
  |ref p=>
   have ty:=JI I r ht
   cases r;rcases ht with⟨rfl,xs,hs⟩|⟨rfl,xs,hs⟩|⟨rfl,hs⟩
   ·exact Ql (isinstance_false_list (hne rfl) hty hsub) ⟨ty,hq⟩
   ·exact Ql (isinstance_false_tuple (hne rfl) hty hsub) ⟨ty,hq⟩
   ·exact Ql (CC (hne rfl) hty hsub) ⟨ty,hq⟩
  |_=>exact uK ht
def xZ(Tx T:String):Bool:=(Tx==T)||(Tx=="bool"&&T=="int")
def zcm:BG (.type "int")=pure (.type "type"):=by kernel_rfl
def zbd:BG (.type "bool")=pure (.type "type"):=by kernel_rfl
def ZJ:BG (.type "str")=pure (.type "type"):=by kernel_rfl
theorem tyN_in{K:kF}(h:tyN K H x T):T="NoneType"∨T="bool"∨T="int"∨T="str"∨T="list"∨T="tuple"∨T="dict":=by
 cases x with
 |non=>exact .inl h
 |bl b=>exact .inr (.inl h)
 |int i=>exact .inr (.inr (.inl h))
 |str z=>exact .inr (.inr (.inr (.inl h)))
 |ref p=>
  rcases h with⟨h,_⟩|⟨h,_⟩|⟨h,_⟩
  ·exact .inr (.inr (.inr (.inr (.inl h))))
  ·exact .inr (.inr (.inr (.inr (.inr (.inl h)))))
  ·exact .inr (.inr (.inr (.inr (.inr (.inr h)))))
 |_=>exact uK h
def j9(K:kF)(T:String):List V->Hp->VK->Prop:=λxs H Q=>∃x Tx,xs=[x,.ty T]/\tyN K H x Tx/\Q (.bl (xZ Tx T)) H
def Xe(hty:BG (.type T)=pure (.type "type"))(h1:hW (.type "NoneType") (.type T)=pure (xZ "NoneType" T))(h2:hW (.type "bool") (.type T)=pure (xZ "bool" T))(h3:hW (.type "int") (.type T)=pure (xZ "int" T))
  (h4:hW (.type "str") (.type T)=pure (xZ "str" T))(h5:hW (.type "list") (.type T)=pure (xZ "list" T))(h6:hW (.type "tuple") (.type T)=pure (xZ "tuple" T))(h7:hW (.type "dict") (.type T)=pure (xZ "dict" T))
  (hn:∀Tx∈["NoneType","bool","int","str","list","tuple","dict"],xZ Tx T=false->(uj Tx==uj T)=false):yd X (.builtin "isinstance") (j9 X.K T):=by
 intro pins s σ H xs us Q I r h;obtain⟨x,Tx,rfl,ht,q⟩:=h;obtain⟨u,w',rfl,ru,rw'⟩:=vals2 r
 cases rw';rcases tyN_in ht with rfl|rfl|rfl|rfl|rfl|rfl|rfl
 ·exact wT (hn _ (by simp)) hty h1 I ru ht q
 ·exact wT (hn _ (by simp)) hty h2 I ru ht q
 ·exact wT (hn _ (by simp)) hty h3 I ru ht q
 ·exact wT (hn _ (by simp)) hty h4 I ru ht q
 ·exact wT (hn _ (by simp)) hty h5 I ru ht q
 ·exact wT (hn _ (by simp)) hty h6 I ru ht q
 ·exact wT (hn _ (by simp)) hty h7 I ru ht q
def zef:yd X (.builtin "isinstance") (j9 X.K "int"):=Xe zcm (by rw[kz];kernel_rfl) (by rw[kz];kernel_rfl) (by rw[kz];kernel_rfl) (by rw[kz];kernel_rfl) (by rw[kz];kernel_rfl) (by rw[kz];kernel_rfl) (by rw[kz];kernel_rfl) (by decide+kernel)
def zev:yd X (.builtin "isinstance") (j9 X.K "bool"):=Xe zbd (by rw[kz];kernel_rfl) (by rw[kz];kernel_rfl) (by rw[kz];kernel_rfl) (by rw[kz];kernel_rfl) (by rw[kz];kernel_rfl) (by rw[kz];kernel_rfl) (by rw[kz];kernel_rfl) (by decide+kernel)
def zdf:yd X (.builtin "isinstance") (j9 X.K "str"):=Xe ZJ (by rw[kz];kernel_rfl) (by rw[kz];kernel_rfl) (by rw[kz];kernel_rfl) (by rw[kz];kernel_rfl) (by rw[kz];kernel_rfl) (by rw[kz];kernel_rfl) (by rw[kz];kernel_rfl) (by decide+kernel)
end
def j5{H:Hp}{p:Addr}(h:H p=none)(o:HO):Same H (upd H p o):=λb u q=>by rw[zp (yK q h)];exact q
def cdivb{i j:Int}{n:Nat}(h0:j≠0)(h:j.natAbs<2^n)(hn:n<=8999:=by decide):qX i j:=⟨h0,ka h (Nat.pow_le_pow_right (by decide) hn)⟩
def NS(e:Expr):Prop:=∀es env,kJ (e::es) env=(false,eval e env)::kJ es env
def zN{a b c}:NS (Expr.Constant a b c):=λ_ _=>rfl
def zg{a b}:NS (Expr.Name a b):=λ_ _=>rfl
def yf{a b c d}:NS (Expr.Call a b c d):=λ_ _=>rfl
def yQ{a b c d}:NS (Expr.BinOp a b c d):=λ_ _=>rfl
def ze8{a b c}:NS (Expr.UnaryOp a b c):=λ_ _=>rfl
def yP{a b c}:NS (Expr.Tuple a b c):=λ_ _=>rfl
def wV{a b}:NS (Expr.List a b):=λ_ _=>rfl
def ns_Dict{a b c}:NS (Expr.Dict a b c):=λ_ _=>rfl
def zJ{a b c}:NS (Expr.Subscript a b c):=λ_ _=>rfl
def Wh{a b c}:NS (Expr.Attribute a b c):=λ_ _=>rfl
def wx{a b c d}:NS (Expr.ListComp a b c d):=λ_ _=>rfl
section
variable{X:Cx}
def pa1{e1:Expr}{t1:TE}(h1:PE X e1 t1)(n1:NS e1):PA X [e1] (wA t1 vm):=(vP h1 Yd (n1 _ _))
def pa2{e1 e2:Expr}{t1 t2:TE}(h1:PE X e1 t1)(n1:NS e1)(h2:PE X e2 t2)(n2:NS e2):PA X [e1,e2] (wA t1 (wA t2 vm)):=(vP h1 (vP h2 Yd (n2 _ _)) (n1 _ _))
end
variable{t':Nat}{ch:List Addr}
section
variable{X:Cx}{pins:List (Addr×Obj)}{σ:St}{H:Hp}{s:kE}{h':Heap}
def Inv.turnedNew{T:Addr}{xs:List V}(I:Inv X pins σ H s)(hf:∀b∈ch,yS X pins H b)(k:∀b o,b∉ch->s.heap.get? b=some o->h'.get? b=some o)
  (hT:s.heap.objs.size<=T)(new:zV X.prog X.w (upd H T (.tup xs)) h' T (.tup xs)):Inv X pins σ (upd H T (.tup xs)) {s with heap:=h',toks:=t'}:=by
 have hn:H T=none:=I.hok.fresh hT;have nit:∀b u,H b=some u->b∉ch:=λb u e z=>by rw[(hf b z).1] at e;cases e
 refine I.step (g':=s.gens) (d':=s.drawn) (ch:=ch) (λb hb=>?_) (λb o _ _ hc e _=>k b o hc e) (λb o _ _ hc e _=>⟨o.slots,k b o hc e⟩) (λb o _ e n=>?_)
  (λb o hc e=>⟨o,k b o hc e⟩) (λb ys e=>?_) (λb o u e=>?_) (λb ps e=>⟨#[],?_⟩) (λm hm=>?_) (λb u e=>?_) I.bare
 ·obtain⟨_,f1,_,f3,f4,f5⟩:=hf b hb;exact⟨f3,f1,f4,f5⟩
 ·rw[zp (kc (ka (kR e) hT))];exact n
 ·rw[zp (yK e hn)];exact e
 ·rw[zp (yK e hn)];exact e
 ·rw[zp (yK e hn),e];simp
 ·obtain⟨o,es,ep,ho,r⟩:=hm;exact⟨o,es,ep,k _ o (λz=>(hf _ z).2.1 rfl) ho,r⟩
 ·by_cases hb:b=T
  ·subst hb;rw[zM] at e;cases e;exact new
  ·rw[zp hb] at e;refine(I.hok b u e).stay (λc v hc q=>k c v ?_ q) (λc q=>by rw[zp (yK q hn)];exact q) λc ys q=>by rw[zp (yK q hn)];exact q
   rcases hc with z|z
   ·rw[z];exact nit b u e
   ·exact nit c _ z
def Inv.turnedL(I:Inv X pins σ H s)(hf:∀b∈ch,yS X pins H b)(k:∀b o,b∉ch->s.heap.get? b=some o->h'.get? b=some o):Inv X pins σ H {s with heap:=h',toks:=t'}:=by
 have nit:∀b u,H b=some u->b∉ch:=λb u e z=>by rw[(hf b z).1] at e;cases e
 refine I.step (g':=s.gens) (d':=s.drawn) (ch:=ch) (λb hb=>?_) (λb o _ _ hc e _=>k b o hc e) (λb o _ _ hc e _=>⟨o.slots,k b o hc e⟩) (λ_ _ _ _ n=>n)
  (λb o hc e=>⟨o,k b o hc e⟩) (λ_ _ e=>e) (λ_ _ _ e=>e) (λb ps e=>⟨#[],by rw[e];simp⟩) (λm hm=>?_) (λb u e=>?_) I.bare
 ·obtain⟨_,f1,_,f3,f4,f5⟩:=hf b hb;exact⟨f3,f1,f4,f5⟩
 ·obtain⟨o,es,ep,ho,r⟩:=hm;exact⟨o,es,ep,k _ o (λz=>(hf _ z).2.1 rfl) ho,r⟩
 ·refine(I.hok b u e).stay (λc v hc q=>k c v ?_ q) (λ_ q=>q) λ_ _ q=>q;rcases hc with z|z
  ·rw[z];exact nit b u e
  ·exact nit c _ z
end
section
variable{X:Cx}
def bt_zip:pp "zip"=some (.type "zip"):=by decide+kernel
end
section
variable{P:kW}{w:kq}{H:Hp}{h:Heap}{a:Addr}{o:HO}
theorem zV.there(x:zV P w H h a o):∃u,h.get? a=some u:=by
 cases o with
 |lst xs=>obtain⟨_,_,_,_,e⟩:=x;exact⟨_,e⟩
 |tup xs=>obtain⟨_,_,_,o,e,_⟩:=x;exact⟨o,e⟩
 |dK kvs=>obtain⟨_,_,_,_,o,_,_,e,_⟩:=x;exact⟨o,e⟩
 |dT kvs=>obtain⟨_,_,_,_,o,_,_,e,_⟩:=x;exact⟨o,e⟩
 |set S n=>obtain⟨o,_,_,_,e,_⟩:=x;exact⟨o,e⟩
 |ins C dx fs=>obtain⟨_,_,_,e,_⟩:=x;exact⟨_,e⟩
 |own y=>exact x
 |xd fs=>obtain⟨_,⟨o,_,_,e,_⟩,_⟩:=x;exact⟨o,e⟩
 |rng lo hi=>obtain⟨_,_,_,e⟩:=x;exact⟨_,e⟩
 |frz ob u=>exact⟨ob,x.1⟩
 |tbl ps=>exact⟨_,x⟩
 |met f y=>exact⟨_,x⟩
 |ext φ=>exact x.2.1
theorem HOk.free_of(x:HOk P w H h)(e:h.get? a=none):H a=none:=by
 cases q:H a with
 |none=>rfl
 |some u=>
  obtain⟨v,hv⟩:=(x a u q).there;rw[e] at hv;cases hv
end
structure Fly(P:kW)(w:kq)(outer:List Env)(H H':Hp)(h h':Heap)(e:Addr)(cls:kC):Prop where
 un:Un (frs outer) [] H H' h h'
 new:h.get? e=none
 fly:∃(B:Heap)(a0:kC),Bi B outer e cls a0 h'/\HOk P w H' B/\(∀b o,h.get? b=some o->H b=none->b∉frs outer->B.get? b=some o)/\∀b o,h.get? b=some o->b∉frs outer->∃o',B.get? b=some o'
def CXr(P:kW)(w:kq):CXT:=λouter H s E e s'=>∃(ea:Addr)(cls:kC)(H':Hp),e=.ref ea/\s'.os=s.os/\AY s'.gens/\Fly P w outer H H' s.heap s'.heap ea cls/\E cls none H'
def Raises(X:Cx)(E:XK):Prop:=∀(pins:List (Addr×Obj))(σ:St)(H:Hp)(s:kE)(h':Heap)(e:Addr)(cls:kC)(vs:List kC),Inv X pins σ H s->Em s.heap h' e cls vs->E cls none H->X.xe (.ref e) {s with heap:=h'}
section
variable{P:kW}{w:kq}{K:kF}{mg:Str->Option kC}{base:Heap}{N:List Str}{qual:Str}{scope:Scope}{f:Addr}{cd:kC}{A:pI}{outer:List Env}{s₀:kE}{H₀:Hp}{E:XK}
theorem Je:Raises (ym (CXr P w) P w K mg base N qual scope f cd A outer s₀ H₀ E) E:=by
 intro pins σ H s h' e cls vs I hx hE;have nst:∀b u,H b=some u->b∉frs (QL qual scope s₀.heap.objs.size f cd::outer):=λb u q z=>by
  have:=I.stkFree b z;rw[q] at this;cases this
 have inB:∀b o,s.heap.get? b=some o->b∉frs (QL qual scope s₀.heap.objs.size f cd::outer)->(Bq s.heap (frs (QL qual scope s₀.heap.objs.size f cd::outer))).get? b=some o:=λb o q n=>Ci _ q n;have old:∀b o,s₀.heap.get? b=some o->b∉frs outer->b∉frs (QL qual scope s₀.heap.objs.size f cd::outer):=λb o q n z=>by
  rcases kX.mp (I.stkSub b z) with r|r
  ·exact absurd (kR q) (by rw[r];exact DH.mpr I.ok.above)
  ·exact n r
 have hxn:∀b,b∉(ym (CXr P w) P w K mg base N qual scope f cd A outer s₀ H₀ E).ex:=λb z=>absurd (show b∈([]:List Addr) from z) (by simp)
 have frn:∀b o,s.heap.get? b=some o->b∈frs outer->∀vs,o.data≠.fields vs:=λb o q z=>by
  obtain⟨_,o',q',d⟩:=I.funs.mem z;rw[q] at q';cases q';exact d
 refine wpAny_leaves_madeW (base:=Bq s.heap (frs (QL qual scope s₀.heap.objs.size f cd::outer))) (h:=s.heap) (L:=s₀.heap.objs.size) I.ok.frames rfl (λb o q=>DD _ q)
  (PySem.W.funFrames_hide I.stack λenv he b hb=>Uc.mpr ⟨env,he,hb⟩) hx λh'' t x1 x2 x3 x4=>?_
 have up:s.heap.UpToSlots h'':=(BR hx.keeps).trans x4;refine⟨e,cls,H,rfl,I.os,I.bare,⟨⟨λb o q n hb _=>?_,λb o q n hb _=>?_,λb o q n _=>I.base.free b o q n (hxn b),λb o q _=>?_,I.base.tups,I.base.frzs,I.base.tbls⟩,?_,_,_,x1,λb u q=>?_,λb o q n hb=>?_,λb o q hb=>?_⟩,hE⟩
 ·exact x1.1 b o (inB b o (I.base.keep b o q n hb (hxn b)) (old b o q hb))
 ·obtain⟨sl,q1⟩:=I.base.slot b o q n hb (hxn b);obtain⟨sl',q2⟩:=up b _ q1 (frn b _ q1 hb);exact⟨sl',q2⟩
 ·obtain⟨o',q1⟩:=I.base.there b o q (hxn b)
  by_cases hb:b∈frs outer
  ·obtain⟨sl',q2⟩:=up b _ q1 (frn b _ q1 hb);exact⟨_,q2⟩
  ·exact⟨o',x1.1 b o' (inB b o' q1 (old b o q hb))⟩
 ·cases q:s₀.heap.get? e with
  |none=>rfl
  |some o=>
   obtain⟨o',q1⟩:=I.base.there e o q (hxn e);rw[hx.new] at q1;cases q1
 ·refine(I.hok b u q).stay (λc v hc r=>inB c v r ?_) (λ_ r=>r) λ_ _ r=>r;rcases hc with z|z
  ·rw[z];exact nst b u q
  ·exact nst c _ z
 ·exact inB b o (I.base.keep b o q n hb (hxn b)) (old b o q hb)
 ·obtain⟨o',q1⟩:=I.base.there b o q (hxn b);exact⟨o',inB b o' q1 (old b o q hb)⟩
def Fun.okX{x qual:Str}{st:Stmt}{f:Addr}{fd:pZ}{N:List Str}{k:Nat}(F:Fun K x qual st f fd)(S:zA N ps (zo st))(len:∀vs H Q E,sp vs H Q E->vs.length=ps.length)
  (hb:∀(cdv:kC)(A:pI)(outer:List Env)(s:kE)(H:Hp)(vs:List V)(Q:VK)(E:XK),zD k (A.deeper (QL qual (zo st) s.heap.objs.size f cdv))->sp vs H Q E->
   ∃t,PSs (ym (CXr P w) P w K mg base N qual (zo st) f cdv A outer s H E) (ya st) t/\t {nx:=λ_ H'=>Q .non H',rt:=Q} (start N vs) H):zw P w K mg base (CXr P w) (k+1) f fd ps sp:=by
 obtain⟨oc,od,kV,doc,pm,an,cdv,ct,osl,rfl,lk,hcd⟩:=F.ex;exact YK lk hcd S len λA outer s H vs Q E hr hsp=>hb cdv A outer s H vs Q E hr hsp
end
structure XC(K:kF)(C:Addr):Prop where
 own:BH K C [.type "ValueError",.type "Exception",.type "BaseException",.type "object"] "ValueError.__new__"=true
section
variable{K:kF}{h:Heap}{C:Addr}{bmB:List kC}{newId:String}
theorem exc_obj(X:K.In h)(q:BH K C bmB newId=true):∃bm N nm qn bs hd sn sub ab col dd k0 k1 k2 k3 k5 mN,h.get? C=some (excClassObj nm qn C N bs bm hd sn sub ab col dd k0 k1 k2 k3 k5 newId)/\h.Ns N mN/\mN "__init__"=none/\OwnTail h bmB bm:=by
 unfold BH at q
 split at q
 ·rename_i dd cd sl ho
  split at q
  ·rename_i C' bm k0 k1 k2 k3 n k5 hm hs
   rw[ui,ui,ui,ui,ui] at q;obtain⟨⟨⟨⟨⟨z1,z2⟩,z3⟩,z4⟩,z5⟩,z6⟩:=q;have e1:C'=C:=beq_iff_eq.mp z1;have e2:n=newId:=beq_iff_eq.mp z2;have e6:=beq_iff_eq.mp z6;have e3:cd.hasDel=false:=by cases hh:cd.hasDel with|false=>rfl|true=>rw[hh] at z3;cases z3
   have key:=X _ _ ho;have ks:sl=#[k0,k1,k2,k3,some (.builtin n),k5]:=by cases sl with|mk l=>exact congrArg Array.mk hs
   rw[ks] at key;subst e1 e2
   cases cd with
   |mk nm bs mro ns qn hd sn sub ab col del=>
    have hm':mro=.ref C'::bm:=hm;have e3':del=false:=e3;subst hm' e3';exact⟨bm,ns,nm,qn,bs,hd,sn,sub,ab,col,dd,k0,k1,k2,k3,k5,h.nsMap ns,key,.of_isNs (PySem.W.isNs_of_in X z5),PySem.W.nsMap_none_of_in X z5 e6,PySem.W.tail_of_in X z4⟩
  ·cases q
 ·cases q
end
def tRaise(C:Addr)(E:XK)(ta:TA):TS:=λ_ σ H=>ta σ H λvs H1=>vs.length<=sizeLine/\E (.ref C) none H1
section
variable{X:Cx}{C:Addr}{E:XK}{x:Str}{np cpos pos:Pos}{e:Expr}{es:List Expr}{ta:TA}
def zcc(hx:Raises X E)(hh:X.A.handled=none)(hc:XC X.K C)(hg:Gl X x)(hm:X.mg x=some (.ref C))(ha:PA X (e::es) ta)(hdb:(x==("__debug__":Str))=false:=by decide)
  (he:kJ (e::es) X.env=(false,eval e X.env)::kJ es X.env:=by rfl) (hpl:(pX cpos (kJ es X.env)).any (·.1)=false:=by rfl):
  PS X (.Raise (some (.Call (.Name x np) (e::es) [] cpos)) none pos) (tRaise C E ta):=by
 intro pins s σ H D I h;obtain⟨bm,N,nm,qn,bs,hd,sn,sub,ab,col,dd,k0,k1,k2,k3,k5,mN,hC,hN,hni,T⟩:=exc_obj I.ok.mod.kin hc.own;refine wpAny_Raise_call_subU (C:=C) (N:=N) (nm:=nm) (q:=qn) (bs:=bs) (bm:=bm) (hdct:=hd) (sn:=sn) (sub:=sub) (ab:=ab) (col:=col) (dd:=dd) (k0:=k0) (k1:=k1) (k2:=k2) (k3:=k3) (k5:=k5) (mN:=mN)
  Am (by decide+kernel) Am (T.hasType PySem.F.excBase_ValueError.hasBase) hh (by rw[he];exact hpl) hni (xV I hg hm ⟨rfl,?_⟩ hdb)
 have z:=thn (ha cpos pins s σ H _ I h) λus s1⟨vs,H1,I1,r,hl,q⟩=>show us.length<=sizeLine/\X.K.In s1.heap/\(∀b o,X.base.get? b=some o->s1.heap.get? b=some o)/\∀h' e,Em s1.heap h' e (.ref C) us->X.xe (.ref e) {s1 with heap:=h'} from
  ⟨by rw[←r.length];exact hl,I1.kIn,I1.bk,λh' e hm=>hx pins σ H1 s1 h' e _ us I1 hm q⟩
 rw[he] at z⊢;exact Ux (thn z λus s1⟨hl,_,bk,q⟩=>⟨rfl,hl,bk _ _ hC,hN.keeps bk,T.keeps bk,q⟩)
end
def zeu:pp "ValueError"=some (.type "ValueError"):=by decide+kernel
structure XI(K:kF)(D:Addr):Prop where
 ga:pY K (.ref D) "__getattribute__"=some (some (.builtin "BaseException.__getattribute__"))
 gn:pY K (.ref D) "__getattr__"=some none
 cl:pY K (.ref D) "__class__"=some (some (.builtin "object.__class__"))
 get:DU K (.builtin "object.__class__") "__get__"=some (some (.builtin "getset_descriptor.__get__"))
 tk:ET K (.builtin "object.__class__")=some true
 ob:AF K D (.type "object")=some true
 be:AF K D (.type "BaseException")=some true
theorem XI.cls{K:kF}{D:Addr}(F:XI K D):(BI K D).isSome=true:=by
 have z:=F.ob;unfold AF at z
 cases q:BI K D with
 |none=>rw[q] at z;cases z
 |some cd=>rfl
def XAt(a D:Addr)(h:Heap):Prop:=∃o vs,h.get? a=some o/\o.cls=.ref D/\o.data=.fields vs
section
variable{prog:kW}{w:kq}{A:pI}{E:kC->kE->Prop}{s:kE}{K:kF}{a D:Addr}
variable{M:Model}
def XAt.ty{h:Heap}(x:XAt a D h):Uk M h (BG (.ref a)) (.ref D):=by
 obtain⟨o,vs,e,c,_⟩:=x;exact c▸(AD e).andThen .now
def XI.find{h:Heap}(X:K.In h)(F:XI K D):Uk M h (Builtin.ObjectAttr.find (.ref a) (.ref D) "__class__") (Builtin.ObjectAttr.Found.bind (.builtin "getset_descriptor.__get__") (.builtin "object.__class__")):=
 (Uw X F.cl).andThen ((PySem.W.looks_specialIn X F.get).andThen
  ((show Uk M h (Builtin.ObjectAttr.dataDescriptor? (some (.builtin "object.__class__")) (some (.builtin "getset_descriptor.__get__"))) (some (.builtin "getset_descriptor.__get__",.builtin "object.__class__")) from(PySem.W.looks_takesIn X F.tk).andThen .now).andThen (PySem.W.Looks.tag .now)))
def ga_kind:builtinKind "BaseException.__getattribute__"=some .slot:=by decide+kernel
def zcd:splitId "BaseException.__getattribute__"=some ("BaseException","__getattribute__"):=by decide+kernel
theorem ga_args{args:Args}{Q:Unit->kE->Prop}(ck:DI "BaseException.__getattribute__" args)(h:Q () s):
  wpAny M A (match Manifest.signature? "BaseException.__getattribute__" with|some sig=>Eo "BaseException.__getattribute__" sig args|x=>pure ()) Q E s:=by
 unfold DI at ck
 split at ck
 ·rename_i sig hs
  rw[hs];have ck':Eo "BaseException.__getattribute__" sig args=pure ():=ck;dsimp only;rw[ck'];exact kH h
 ·rename_i hs
  rw[hs];exact kH h
def zde{Q:Option kC->kE->Prop}(X:K.In s.heap)(F:XI K D)(x:XAt a D s.heap)(h:Q (some (.ref D)) {s with toks:=s.toks+1}):wpAny (model prog w) A (getAttr? (.ref a) "__class__") Q E s:=by
 have L0:=x.ty (M:=model prog w);have L1:=Uw (M:=model prog w) X F.ga;have L2:=Uw (M:=model prog w) X F.gn;have L3:=Ck (M:=model prog w) X F.be;have L4:=F.find (M:=model prog w) (a:=a) X;obtain⟨hh,g,dr,t,os⟩:=s;have ne:(Ul "BaseException.__getattribute__"==Ul "object.__getattribute__")=false:=by decide+kernel
 have n1:¬((FF (ki D)&&Ul "BaseException.__getattribute__"==Ul "object.__getattribute__")=true):=by rw[ne,CN];exact kZ
 unfold getAttr? getAttrBy? getAttrBy;refine kB (wpAny_mkText (kB (Qu (uq (kB (L0.at (kB (L1.at ?_))))))));dsimp only;rw[if_neg n1];unfold getAttrByItsOwn hookBefore;refine kB ?_;rw[if_pos (show FF (ki D)=true from rfl)];refine L2.at (kB (Qu (uq ?_)));unfold callGetattribute boundAndCalled;rw[if_neg (show ¬((false&&FF (Ul "BaseException.__getattribute__"))=true) from kZ)];refine kB (Uy (PySem.F.excAttr_ValueError.ga.bind (.ref a)) ?_);refine gM (AK PySem.F.excAttr_ValueError.ga.plain PySem.F.entry_bexc_ga ?_);simp only[BS,ga_kind,zcd];have LI:Uk (model prog w) hh (gP (.ref a) (.type "BaseException")) true:=L0.andThen L3;have ck:=PySem.F.args_bexc_ga (.ref a) (.str "__class__" t);show wpAny _ _ (gP (.ref a) (.type "BaseException")>>=_) _ _ _;refine kB (LI.at ?_);simp only[Qv,kr,if_false];refine ga_args ck ?_;show wpAny _ _ (Qe.«object.__getattribute__» ⟨[.ref a,.str "__class__" t],[]⟩) _ _ _;unfold Qe.«object.__getattribute__»;have e1:slotArgs "__getattribute__" 1 ⟨[.ref a,.str "__class__" t],[]⟩=pure (.ref a,[.str "__class__" t]):=rfl;refine kB (Uy e1 ?_);have e2:Builtin.ObjectAttr.attrName (.str "__class__" t)=pure "__class__":=rfl;refine kB (Uy e2 (kB (L0.at (kB (L4.at ?_)))));have L5:=Ck (M:=model prog w) X F.ob;have L6:Uk (model prog w) hh (gP (.ref a) (.type "object")) true:=L0.andThen L5;show wpAny _ _ (holding [Ul "object.__class__"] (call (.builtin "getset_descriptor.__get__") [.builtin "object.__class__",.ref a,.ref D])>>=λv=>ret v) _ _ _;refine kB (uq (gM ?_));refine AK PySem.W.KF.slot_gs.plain PySem.W.KF.entry_gs (PySem.W.KF.slot_gs.check _ _ _ _ _ _ _ _ PySem.W.KF.type_class (PySem.W.KF.args_gs _ _ _) ?_);unfold Qe.«getset_descriptor.__get__» Builtin.Getset_descriptor.descrGet;rw[PySem.W.dga_obj];refine kB (kH ?_);unfold Builtin.Getset_descriptor.descrGetter Builtin.Getset_descriptor.descrCheckInstance Builtin.Getset_descriptor.descrNameAndClass;simp only[PySem.W.KF.owner_class];refine kB (kB (kH (kB (L6.at ?_))));simp only[Qv,kr,if_false];refine kH (kH ⟨An _ (by decide+kernel),QD PySem.W.KF.entry_class ?_⟩)
 unfold Qe.«object.__class__» shownTypeOf;refine kB (kB (L0.at ?_));dsimp only;rw[if_neg (show ¬((ki D==uj "builtin_function_or_method")=true) from λz=>by cases beq_iff_eq.mp z)]
 refine kH (kH ?_);refine kH ?_;exact PySem.W.handed_on rfl (kH h)
theorem zcy(F:XI K D):PySem.W.KitX K (.ref a) (.ref D) (XAt a D) where
 ty:=λM h _ x=>x.ty
 it:=λM h X _=>by
  have z:=F.cls;unfold BI at z
  split at z
  ·rename_i ho
   intro A' Q' E' s' k q;unfold isType loadHead;exact kB (wpAny_loadPart (k _ _ (X _ _ ho)) (kH q))
  ·cases z
 ne:=λh tp dd its n sl X e=>by
  have z:=F.cls;unfold BI at z
  split at z
  ·rename_i ho
   refine DV.mpr λq=>?_;have e2:D=tp:=Value.ref.inj (beq_iff_eq.mp q);have e3:=X _ _ ho;rw[e2,e] at e3
   cases e3
  ·cases z
 ca:=λX x k=>zde X F x k
end
def excO(a D:Addr):HO:=.ext (XAt a D)
def XN(K:kF)(c:kC)(cv:V):List V->Hp->VK->Prop:=λxs H Q=>∃a D b,xs=[.ref a,cv]/\H a=some (excO a D)/\XI K D/\gf K (.ref D) c=some b/\Q (.bl b) H
section
variable{X:Cx}{c:kC}{cv:V}
def VO(hv:∀u,zt cv u->u=c):yd X (.builtin "isinstance") (XN X.K c cv):=by
 intro pins s σ H xs us Q I r h;obtain⟨a,D,b,rfl,ha,F,e,q⟩:=h;obtain⟨u,u2,rfl,ru,ru2⟩:=vals2 r
 cases ru
 cases hv _ ru2;exact PySem.W.kia_one (zcy F) I.kIn (I.hok a _ ha).1 e (by intro z;cases z) λtk=>⟨.bl b,H,I.tok tk,rfl,q⟩
end
def zbk{X:Cx}{K:kF}{C:Addr}(hK:X.K=K):yd X (.builtin "isinstance") (XN K (.ref C) (.ref C)):=by subst hK;exact VO λ_ r=>r
def zbi{X:Cx}{K:kF}(hK:X.K=K):yd X (.builtin "isinstance") (XN K (.type T) (.ty T)):=by subst hK;exact VO λ_ r=>r
abbrev Cx.tin(X:Cx)(W:kC->kE->Prop)(pn:List (Addr×Obj)):Cx:={X with xe:=W,pn:=pn}
abbrev Cx.hin(X:Cx)(ea:Addr)(pn:List (Addr×Obj)):Cx:={X with A:=X.A.mark (some (.ref ea)),calm:=false,pn:=pn,xe:=λ_ _=>False}
def Cx.Ok.tin{X:Cx}(ok:X.Ok)(W:kC->kE->Prop)(pn:List (Addr×Obj)):(X.tin W pn).Ok:=
 ⟨ok.mod,ok.kind,ok.glob,ok.blt,ok.above,ok.inj,ok.has,ok.cab,ok.hd,ok.frames,ok.stk,ok.exf,ok.bs,ok.bsz,ok.noex,ok.exfs,ok.funs,ok.frf⟩
def Cx.Ok.hin{X:Cx}(ok:X.Ok)(ea:Addr)(pn:List (Addr×Obj)):(X.hin ea pn).Ok:=
 ⟨ok.mod,ok.kind,ok.glob,ok.blt,ok.above,ok.inj,ok.has,ok.cab,λz=>(by cases z),ok.frames,ok.stk,ok.exf,ok.bs,ok.bsz,ok.noex,ok.exfs,ok.funs,ok.frf⟩
variable{h':Heap}
section
variable{X:Cx}{pins pins1 pn:List (Addr×Obj)}{σ:St}{H:Hp}{s:kE}{W:kC->kE->Prop}{ea:Addr}
def Inv.tin(I:Inv X pins σ H s)(W:kC->kE->Prop):Inv (X.tin W (X.pn++pins)) [] σ H s:=
 ⟨I.ok.tin _ _,I.os,I.bare,I.base,I.loc,I.cell,I.free,I.freeC,λp hp=>I.pin p (by simpa using hp),I.hok,I.len⟩
def Inv.hin(I:Inv (X.tin W pn) pins σ H s)(ok:X.Ok)(ea:Addr):Inv (X.hin ea pn) pins σ H s:=⟨ok.hin _ _,I.os,I.bare,I.base,I.loc,I.cell,I.free,I.freeC,I.pin,I.hok,I.len⟩
def Inv.untin(I:Inv (X.tin W (X.pn++pins)) [] σ H s)(ok:X.Ok):Inv X pins σ H s:=⟨ok,I.os,I.bare,I.base,I.loc,I.cell,I.free,I.freeC,λp hp=>I.pin p (by simpa using hp),I.hok,I.len⟩
theorem SP.untin{D:Ends}{f:Flow}{s':kE}(ok:X.Ok)(h:SP (X.tin W (X.pn++pins)) [] D f s'):SP X pins D f s':=by
 cases f with
 |next=>obtain⟨σ',H',I,q⟩:=h;exact⟨σ',H',I.untin ok,q⟩
 |brk=>obtain⟨σ',H',I,q⟩:=h;exact⟨σ',H',I.untin ok,q⟩
 |cont=>obtain⟨σ',H',I,q⟩:=h;exact⟨σ',H',I.untin ok,q⟩
 |ret u=>obtain⟨v,σ',H',I,r,q⟩:=h;exact⟨v,σ',H',I.untin ok,r,q⟩
def JJ{i n:Nat}{v:V}(z:(uC n (none:Option V))[i]?=some (some v)):False:=by
 rw[ul] at z
 split at z<;>cases z
def Inv.forget(I:Inv X pins σ H s):Inv X pins (uC X.N.length none) H s:=by
 obtain⟨m,hn,_⟩:=id I.loc;exact⟨I.ok,I.os,I.bare,I.base,⟨m,hn,λi x v _ z _=>(JJ z).elim⟩,I.cell,I.free,I.freeC,I.pin,I.hok,by simp⟩
def Inv.back{m':Str->Option kC}(I:Inv (X.hin ea (X.pn++pins)) pins1 σ H s)(ok:X.Ok)(hn:h'.Ns X.env.locals m')(hs:Qc X.env.locals s.heap h'):
  Inv X pins (uC X.N.length none) H {s with heap:=h',toks:=t'}:=by
 have neL:∀b o,X.s₀.heap.get? b=some o->b≠X.env.locals:=λb o e=>kc (ka (kR e) ok.above);refine⟨ok,I.os,I.bare,⟨λb o e n hb hx=>(hs.2 b (neL b o e)).trans (I.base.keep b o e n hb hx),λb o e n hb hx=>?_,I.base.free,λb o e hx=>?_,I.base.tups,I.base.frzs,I.base.tbls⟩,
  ⟨m',hn,λi x v _ z _=>(JJ z).elim⟩,λx c e=>?_,I.free,I.freeC,λp hp=>?_,λb u e=>?_,by simp⟩
 ·obtain⟨sl,e1⟩:=I.base.slot b o e n hb hx;exact⟨sl,(hs.2 b (neL b o e)).trans e1⟩
 ·obtain⟨o',e1⟩:=I.base.there b o e hx;exact⟨o',(hs.2 b (neL b o e)).trans e1⟩
 ·obtain⟨v,o,ho,hd⟩:=I.cell x c e;exact⟨v,o,(hs.2 c (I.cne x c e)).trans ho,hd⟩
 ·obtain⟨p1,p2,p3,p4⟩:=I.pin p (UJ _ hp);exact⟨(hs.2 p.1 p3).trans p1,p2,p3,p4⟩
 ·refine(I.hok b u e).stay (λc v hc q=>(hs.2 c ?_).trans q) (λ_ q=>q) λ_ _ q=>q;intro z;have fr:H X.env.locals=none:=I.free;rcases hc with r|r
  ·rw[←r,z,fr] at e;cases e
  ·rw[z,fr] at r;cases r
end
theorem VR{α β:Type}(g:α->β->β){f:α->β->Sem (ForInStep β)}:∀{l:List α}(c:β),(∀x∈l,∀c,f x c=pure (.yield (g x c)))->forIn l c f=pure (l.foldl (λc x=>g x c) c)
 |[],c,_=>rfl
 |x::l,c,h=>by
  have hx:=h x pU c;rw[gJ,hx,pure_bind];exact VR g (g x c) λy hy=>h y (pG _ hy)
def xO(env:Env)(x:Str×Ak)(c:List (Str×Addr)):List (Str×Addr):=
 if x.2==pM then(match env.cells.lookup x.1 with|some a=>(x.1,a)::c|none=>c) else c
theorem Vu{env:Env}:∀(l:List (Str×Ak))(acc:List (Str×Addr)),(∀n c,acc.lookup n=some c->env.cells.lookup n=some c)->
  ∀n c,(l.foldl (λc x=>xO env x c) acc).lookup n=some c->env.cells.lookup n=some c
 |[],acc,h,n,c,e=>h n c e
 |x::l,acc,h,n,c,e=>by
  refine Vu l (xO env x acc) (λn c e=>?_) n c e;unfold xO at e
  split at e
  ·split at e
   ·rename_i a ha
    rw[pb] at e
    split at e
    ·rename_i hb
     have hn:n=x.1:=by simpa using hb
     cases e;rw[hn];exact ha
    ·exact h n c e
   ·exact h n c e
  ·exact h n c e
theorem Vi{env:Env}:∀(l:List (Str×Ak))(acc:List (Str×Addr))(n:Str),((∃c,acc.lookup n=some c)∨((n,pM)∈l/\∃c,env.cells.lookup n=some c))->
  ∃c,(l.foldl (λc x=>xO env x c) acc).lookup n=some c
 |[],acc,n,h=>by
  rcases h with h|⟨h,_⟩
  ·exact h
  ·cases h
 |x::l,acc,n,h=>by
  refine Vi l (xO env x acc) n ?_;rcases h with⟨c,h⟩|⟨h,c,hc⟩
  ·left;unfold xO
   split
   ·split
    ·rw[pb]
     split
     ·exact⟨_,rfl⟩
     ·exact⟨c,h⟩
    ·exact⟨c,h⟩
   ·exact⟨c,h⟩
  ·rcases kX.mp h with e|h
   ·left;subst e;unfold xO;have ef:(pM==pM)=true:=rfl;have en:(n==n)=true:=by simp
    simp only[ef,if_true,hc,pb,en];exact⟨c,rfl⟩
   ·exact .inr ⟨h,c,hc⟩
variable{env:Env}
def za7{scope:Scope}(hf:∀n,(n,pM)∈scope.names->∃c,env.cells.lookup n=some c):
  ∃cl,gQ scope env=pure cl/\(∀n c,cl.lookup n=some c->env.cells.lookup n=some c)/\∀n,(n,pM)∈scope.names->∃c,cl.lookup n=some c:=by
 refine⟨scope.names.foldl (λc x=>xO env x c) [],?_,Vu _ _ (λn c e=>by simp at e),λn h=>Vi _ _ n (.inr ⟨h,hf n h⟩)⟩
 simp only[gQ];rw[VR (xO env) [] (λx hx c=>?_)]
 ·rfl
 ·obtain⟨n,kind⟩:=x
  by_cases hk:kind=.free
  ·subst hk;obtain⟨a,ha⟩:=hf n hx;have ef:(pM==pM)=true:=rfl
   simp[cellOf,ha,xO,ef]
  ·have e:(kind==pM)=false:=by simpa using hk
   simp[e,xO]
theorem YB(env:Env)(x:Str):∀names:List (Str×Ak),
  (names.map λ(n,k)=>if(k==pM&&env.scope.kind==.function&&env.kindOf n==some .cell) then(n,AG) else(n,k)).lookup x=
  (names.lookup x).map λk=>if(k==pM&&env.scope.kind==.function&&env.kindOf x==some .cell) then AG else k
 |[]=>rfl
 |(n,k)::r=>by
  have ih:=YB env x r;rw[kY]
  by_cases e:x=n
  ·subst e;have ex:(x==x)=true:=by simp
   by_cases c:(k==pM&&env.scope.kind==.function&&env.kindOf x==some .cell)=true
   ·dsimp only;rw[if_pos c,pb,ex,pb,ex];exact congrArg some (if_pos c).symm
   ·dsimp only;rw[if_neg c,pb,ex,pb,ex];exact congrArg some (if_neg c).symm
  ·have e':(x==n)=false:=by simpa using e
   by_cases c:(k==pM&&env.scope.kind==.function&&env.kindOf n==some .cell)=true
   ·dsimp only;rw[if_pos c,pb,e',pb,e'];exact ih
   ·dsimp only;rw[if_neg c,pb,e',pb,e'];exact ih
structure xw(dsc:Scope)(N:List Str)(scope:Scope)(own:List Str)(ix:List Nat):Prop where
 kind:scope.kind=.function
 nocell:∀y∈scope.names,y.2≠AG
 names:∀y∈scope.names,y.2=NameKind.local->scope.names.lookup y.1=some .local
 free:∀y∈scope.names,y.2=pM->dsc.names.lookup y.1=some .cell∨dsc.names.lookup y.1=some .free
 ix:∀i∈ix,i<N.length/\scope.names.lookup (N.getD i "")=some .free
def Cx.comp(X:Cx)(scope:Scope)(own:List Str)(ix:List Nat)(cl:List (Str×Addr))(C:Addr)(fp:List Addr)(s:kE)(H:Hp)(xe:kC->kE->Prop):Cx:=
 {X with N:=own++ix.map (λi=>X.N.getD i ""),s₀:=s,H₀:=H,env:=AM scope cl C X.env,outer:=X.stack,ex:=fp,fn:=λ_=>false,pn:=[],xe:=xe}
def yq(k:Nat)(ix:List Nat)(σ:St):St:=uC k none++ix.map (λi=>(σ[i]?).join)
section
variable{X:Cx}{pins:List (Addr×Obj)}{σ:St}{H H4:Hp}{s s4:kE}{dsc scope:Scope}{own:List Str}{ix:List Nat}{cl:List (Str×Addr)}{C:Addr}{fp:List Addr}{xe:kC->kE->Prop}
def comp_fp(I:Inv X pins σ H s)(hf:∀b∈fp,yS X pins H b){b:Addr}(hb:b∈fp):b∉frs X.stack:=λhs=>by
 obtain⟨_,f1,f2,_⟩:=hf b hb;rcases kX.mp (I.stkSub b hs) with e|e
 ·exact f1 e
 ·exact f2 e
theorem Inv.comp(I:Inv X pins σ H s)(hd:X.env.scope=dsc)(S:xw dsc X.N scope own ix)(cs:∀n c,cl.lookup n=some c->X.env.cells.lookup n=some c)(ch:∀n,(n,pM)∈scope.names->∃c,cl.lookup n=some c)
  (hf:∀b∈fp,yS X pins H b)(ho:∀b∈fp,∃o,s.heap.get? b=some o)(I4:Inv X pins σ H4 s4)(un:Un (frs X.stack) fp H H4 s.heap s4.heap)(hC:s.heap.objs.size<=C)(hn:∃m,s4.heap.Ns C m)(hC0:H4 C=none):
  Inv (X.comp scope own ix cl C fp s H xe) [] (yq own.length ix σ) H4 s4:=by
 have kfree:∀x,scope.names.lookup x=some .free->(AM scope cl C X.env).kindOf x=some .cell∨(AM scope cl C X.env).kindOf x=some .free:=λx h=>by
  have e:(AM scope cl C X.env).kindOf x=_:=YB X.env x scope.names;rw[e,h,Bu]
  split
  ·exact .inl rfl
  ·exact .inr rfl
 have kback:∀x,((AM scope cl C X.env).kindOf x=some .cell∨(AM scope cl C X.env).kindOf x=some .free)->scope.names.lookup x=some .free:=λx h=>by
  have e:(AM scope cl C X.env).kindOf x=_:=YB X.env x scope.names;rw[e] at h
  cases q:scope.names.lookup x with
  |none=>rw[q] at h;rcases h with h|h<;>cases h
  |some k=>
   have nc:=S.nocell _ (uB q);rw[q,Bu] at h
   cases k<;>first|rfl|exact absurd rfl nc|(rcases h with h|h<;>cases h)
 refine⟨⟨I.ok.mod,S.kind,I.ok.glob,I.ok.blt,hC,λx y c h1 h2=>I.ok.inj x y c (cs x c h1) (cs y c h2),λx hx=>ch x (uB (kback x hx)),λx c h=>(nomatch h),I.ok.hd,I.ok.frames,.inl rfl,λb hb=>⟨λz=>?_,λx c e=>(hf b hb).2.2.2.2.1 x c (cs x c e)⟩,
  I.bs,pd I.ok.bsz I.sz,λb o e hb=>?_,λb hb=>comp_fp I hf hb,I.stack,I.stkFree⟩,I4.os.trans I.os.symm,I4.bare,un,?_,λx c e=>I4.cell x c (cs x c e),hC0,λx c e=>I4.freeC x c (cs x c e),λp hp=>(nomatch hp),I4.hok,?_⟩
 ·obtain⟨o,e⟩:=ho b hb;have z':b=C:=z;exact absurd (ka (kR e) (by rw[z'];exact hC)) (Qb _)
 ·rcases(hf b hb).2.2.2.1 with z|z
  ·exact I.ok.noex b o e z
  ·exact absurd (ka (kR e) (pd I.ok.bsz z)) (Qb _)
 ·obtain⟨m,hm⟩:=hn;refine⟨m,hm,λi x v e1 e2 _=>?_⟩;have e1':(own++ix.map (λi=>X.N.getD i ""))[i]?=some x:=e1;unfold yq at e2
  by_cases hi:i<own.length
  ·rw[pW (by rw[pQ];exact hi),ul,if_pos hi] at e2
   cases e2
  ·rw[pJ (by rw[pQ];omega),pQ,kg] at e2
   rw[pJ (by omega),kg] at e1'
   cases q:ix[i-own.length]? with
   |none=>rw[q] at e2;cases e2
   |some j=>
    rw[q] at e1' e2;rw[Bu,Option.some.injEq] at e1' e2;obtain⟨hj,hfr⟩:=S.ix j (uD q);rw[e1'] at hfr;have eN:X.N[j]?=some x:=by
     rw[kK hj,←e1',pB,kK hj];rfl
    have es:σ[j]?=some (some v):=by
     cases w:σ[j]? with
     |none=>rw[w] at e2;cases e2
     |some o=>rw[w] at e2;exact congrArg some e2
    have kd:=S.free _ (uB hfr) rfl;rw[←hd] at kd;obtain⟨m4,hm4,hl⟩:=I4.loc;obtain⟨u,r,l⟩:=hl j x v eN es (.inr kd);refine⟨u,r,.inr ⟨kfree x hfr,?_⟩⟩;rcases l with⟨k,_⟩|⟨_,c,ec,cell⟩
    ·have k':X.env.scope.names.lookup x=some .local:=k;rcases kd with z|z<;>(rw[k'] at z;cases z)
    ·obtain⟨c',ec'⟩:=ch x (uB hfr);have z:=cs x c' ec';rw[ec] at z
     cases z;exact⟨c,ec',cell⟩
 ·show(yq own.length ix σ).length=(own++ix.map (λi=>X.N.getD i "")).length
  unfold yq;rw[kO,kO,pQ,kL,kL]
def Inv.outOf{pins':List (Addr×Obj)}{σ':St}{H':Hp}{s':kE}(I:Inv X pins σ H s)(hf:∀b∈fp,yS X pins H b)(J:Inv (X.comp scope own ix cl C fp s H xe) pins' σ' H' s'):Inv X pins σ H' s':=
 I.call' J.os J.base J.hok J.bare λb hb=>by
  obtain⟨_,f1,_,f3,f4,f5⟩:=hf b hb;exact⟨f3,f1,f4,f5⟩
end
abbrev Ve(ifs:List Expr)(env:Env):Sem Bool:=forIn ifs true λc r=>if r=true then do let ok ←isTrue c env (eval c env);pure (EU ok) else pure (EU r)
def PIf(X:Cx)(ifs:List Expr)(t:TT):Prop:=
 ∀(pins:List (Addr×Obj))(s:kE)(σ:St)(H:Hp)(Q:Bool->Hp->Prop),Inv X pins σ H s->t σ H Q->wpAny (model X.prog X.w) X.A (Ve ifs X.env) (TP X pins σ Q) X.xe s
def tYes:TT:=λ_ H Q=>Q true H
def pif_nil{X:Cx}:PIf X [] tYes:=λ_ _ _ H _ I h=>wpAny_tests_nil ⟨H,I,h⟩
def pif_one{X:Cx}{c:Expr}{t:TT}(h:PT X c t):PIf X [c] t:=λpins s σ H Q I q=>wpAny_tests_one (h pins s σ H Q I q)
section
variable{prog:kW}{w:kq}{A:pI}{R:CL->kE->Prop}{s:kE}
abbrev nb(prog:kW)(w:kq)(A:pI)(env:Env)(R:CL->kE->Prop):kC->kE->Prop:=notedBy (model prog w) A env λe s'=>R (.error e) s'
theorem zdz{elt target iter:Expr}{ifs:List Expr}{scope:Scope}{pos:Pos}{it acc:kC}(I:Nat->kE->Prop)
  (turn:∀n s,I n s->wpAny (model prog w) A (gb it) (λr s₁=>(r=none/\R (.ok .next) s₁)∨∃v,r=some v/\
   wpAny (model prog w) A (AO target it v) (λ_ s₂=>wpAny (model prog w) A (assign target env v) (λ_ s₃=>wpAny (model prog w) A (Ve ifs env) (λok s₄=>
    if ok=true then wpAny (model prog w) A (eval elt env) (λx s₅=>wpAny (model prog w) A (call (.builtin "list.append") [acc,x]) (λ_ s₆=>∃m,m<n/\I m s₆) (nb prog w A env R) s₅) (nb prog w A env R) s₄
    else ∃m,m<n/\I m s₄) (nb prog w A env R) s₃) (nb prog w A env R) s₂) (nb prog w A env R) s₁) (nb prog w A env R) s)
  (n:Nat) (h:I n s):UK (model prog w) A (.compLoop (.ListComp elt [⟨target,iter,ifs,0⟩] scope pos) 0 it acc env) R s:=by
 refine codeAny_loop rfl I (λn s hI=>?_) n h;refine wpAny_noted ?_;have e:=compTurn_list elt target iter ifs scope pos it acc env;show wpAny (model prog w) A (compTurn (.ListComp elt [⟨target,iter,ifs,0⟩] scope pos) 0 it acc env) _ _ s;rw[e];refine kB (Cv (kB (thn (turn n s hI) λr s₁ h₁=>?_)));rcases h₁ with⟨rfl,h₁⟩|⟨v,rfl,h₁⟩
 ·exact kH h₁
 ·refine kB (thn h₁ λ_ s₂ h₂=>kB (thn h₂ λ_ s₃ h₃=>kB (thn h₃ λok s₄ h₄=>?_)))
  cases ok with
  |false=>exact kH ⟨rfl,h₄⟩
  |true=>
   refine kB (kB (thn h₄ λx s₅ h₅=>kB (thn h₅ λ_ s₆ h₆=>?_)));exact kH (kH ⟨rfl,h₆⟩)
end
def va(k:Nat)(ix:List Nat)(wi:TI)(g:TG)(ti:TT)(te:TE):TE:=λσ H Q=>wi σ H λJ H1=>∀D,H1 D=none->∃W:Nat->Nat->Hp->Prop,(∃m,W 0 m (upd H1 D (.lst [])))/\∀i m H2,W i m H2->
 (J.stop i H2/\Q (.ref D) H2)∨(J.go i H2/\∀x H3,J.yld i H2 x H3->g x (yq k ix σ) H3 λσ4 H4=>ti σ4 H4 λb H5=>if b=true then te σ4 H5 λy H6=>∃ys,H6 D=some (.lst ys)/\ys.length<sizeLine/\∃m',m'<m/\W (i+1) m' (upd H6 D (.lst (ys++[y])))
  else ∃m',m'<m/\W (i+1) m' H5)
section
variable{X:Cx}{pins:List (Addr×Obj)}{σ:St}{H:Hp}{s:kE}{dsc scope:Scope}{own:List Str}{ix:List Nat}{elt tg iter:Expr}{ifs:List Expr}{pos:Pos}{wi:TI}{g:TG}{ti:TT}{te:TE}
def wu(X:Cx)(scope:Scope)(own:List Str)(ix:List Nat)(tg:Expr)(ifs:List Expr)(elt:Expr)(g:TG)(ti:TT)(te:TE):Prop:=
 ∀cl C fp s H xe,PG (X.comp scope own ix cl C fp s H xe) tg g/\PIf (X.comp scope own ix cl C fp s H xe) ifs ti/\PE (X.comp scope own ix cl C fp s H xe) elt te
theorem JT{use:Option (kC->Sem Unit)}{RQ:kC->kE->Prop}{Q:VK}{p0:Pos}(hc:X.calm=true)(hd:X.env.scope=dsc)(S:xw dsc X.N scope own ix)(hi:PI X tg iter wi)(hb:wu X scope own ix tg ifs elt g ti te)
  (hs:∀x,uY iter X.env x=pure x)(I:Inv X pins σ H s)(h:va own.length ix wi g ti te σ H Q)
  (fin:∀D C H' s',Inv X pins σ H' s'->yS X pins H' C->(∃m,s'.heap.Ns C m)->Q (.ref D) H'->compPost (model X.prog X.w) X.A X.xe use RQ (.ref D) C (.ok .next) s'):
  wpAny (model X.prog X.w) X.A (comprehension (.ListComp elt [⟨tg,iter,ifs,0⟩] scope pos) scope X.env p0 (newList []) false (eval iter X.env) use) RQ X.xe s:=by
 obtain⟨cl,hcl,cs,ch⟩:=za7 (scope:=scope) (env:=X.env) λn hn=>I.ok.has n (by
  have z:=S.free _ hn rfl;rw[←hd] at z;exact z)
 refine wpAny_comprehension_free rfl hs hcl S.kind S.names (thn (hi pins s σ H _ I h) λv s1 h1=>thn h1 λitv s2 h2=>?_);obtain⟨it,fp,tn,J,H2,e,I2,T,st2,f2,W⟩:=h2;subst e;have hD0:H2 s2.heap.objs.size=none:=I2.fresh;obtain⟨W,⟨m0,w0⟩,turn⟩:=W _ hD0;have I3:=I2.lnew (ys:=[]) (its:=[]) (t':=s2.toks) .nil (uF _);refine QQ (AN S.nocell (by intro y hy;cases hy) (λh₁ hns₁ hsb₁=>?_) S.kind)
 dsimp only at hns₁ hsb₁⊢;generalize hH3:s2.heap.push {cls:=.type "list",dict:=none,data:=.seq ([]:List kC).toArray}=g3 at hns₁ hsb₁⊢;have hC:g3.objs.size=s2.heap.objs.size+1:=by rw[←hH3,QB]
 have old3:∀b o,g3.get? b=some o->h₁.get? b=some o:=λb o e=>hsb₁.extBut b o (kc (kR e)) (kG _ e);have old:∀b o,s2.heap.get? b=some o->h₁.get? b=some o:=λb o e=>old3 b o (by rw[←hH3];exact kG _ e)
 have I4:Inv X pins σ (upd H2 s2.heap.objs.size (.lst [])) {s2 with heap:=h₁,toks:=s2.toks+0}:=I3.kept (t':=s2.toks+0) λb o e=>old3 b o (by rw[←hH3];exact e)
 have fpo:∀b∈fp,∃o,s2.heap.get? b=some o:=λb hb=>let⟨o,e,_⟩:=T.obj _ _ st2 b hb;⟨o,e⟩;have hC0:upd H2 s2.heap.objs.size (.lst []) g3.objs.size=none:=by
  rw[zp (by rw[hC];exact Nat.succ_ne_self _)]
  exact I2.hok.fresh (by rw[hC];exact Qh _)
 have hCs:s2.heap.objs.size<=g3.objs.size:=by rw[hC];exact Qh _
 have into:∀{H':Hp}{s':kE}{xe:kC->kE->Prop},Inv X pins σ H' s'->Un (frs X.stack) fp H2 H' s2.heap s'.heap->(∃m,s'.heap.Ns g3.objs.size m)->H' g3.objs.size=none->Inv (X.comp scope own ix cl g3.objs.size fp s2 H2 xe) [] (yq own.length ix σ) H' s':=
  λI' un hn h0=>I2.comp hd S cs ch f2 fpo I' un hCs hn h0
 have stat:∀{H':Hp}{xe:kC->kE->Prop}{σ':St}{s':kE},Inv (X.comp scope own ix cl g3.objs.size fp s2 H2 xe) [] σ' H' s'->(∀b∈fp,H' b=none)->∀b∈fp,yS (X.comp scope own ix cl g3.objs.size fp s2 H2 xe) [] H' b:=λ{H' xe σ' s'} K hn b hb=>
  ⟨hn b hb,(K.ok.exf b hb).1,K.ok.exfs b hb,.inl hb,(K.ok.exf b hb).2,λp hp=>nomatch hp⟩
 have loop:∀s₃:kE,s₃={s2 with heap:=h₁,toks:=s2.toks+0}->
   UK (model X.prog X.w) X.A (.compLoop (.ListComp elt [⟨tg,iter,ifs,0⟩] scope pos) 0 (.ref it) (.ref s2.heap.objs.size) (AM scope cl g3.objs.size X.env)) (compPost (model X.prog X.w) X.A X.xe use RQ (.ref s2.heap.objs.size) g3.objs.size) s₃:=by
  rintro s₃ rfl;generalize hxe:nb X.prog X.w X.A (AM scope cl g3.objs.size X.env) (compPost (model X.prog X.w) X.A X.xe use RQ (.ref s2.heap.objs.size) g3.objs.size)=xe;obtain⟨hg,hif,hel⟩:=hb cl g3.objs.size fp s2 H2 xe;refine zdz (λn s'=>∃i H',Inv (X.comp scope own ix cl g3.objs.size fp s2 H2 xe) [] (yq own.length ix σ) H' s'/\tn i s'.heap/\(∀b∈fp,H' b=none)/\W i n H') ?_ m0
   ⟨0,_,into I4 (Un.laid old (kN _) hD0) ⟨_,hns₁⟩ hC0,T.keep _ _ _ st2 λb hb o e=>old b o e,λb hb=>?_,w0⟩
  ·rintro n s3 ⟨i,H3,K3,st3,fr3,w3⟩;rw[hxe];rcases turn i n H3 w3 with⟨stop,qn⟩|⟨go,step⟩
   ·refine thn (T.done (X.comp scope own ix cl g3.objs.size fp s2 H2 xe) rfl rfl rfl hc i [] s3 _ H3 xe K3 (stat K3 fr3) st3 stop) λr s4⟨hr,K4⟩=>.inl ⟨hr,?_⟩;obtain⟨m,hm,_⟩:=K4.loc;exact fin _ _ H3 s4 (I2.outOf f2 K4) (I2.fpOk hCs K4.free) ⟨m,hm⟩ qn
   ·refine thn (T.item (X.comp scope own ix cl g3.objs.size fp s2 H2 xe) rfl rfl rfl hc i [] s3 _ H3 xe K3 (stat K3 fr3) st3 go) λr s4⟨u,hr,h4⟩=>.inr ⟨u,hr,?_⟩;refine thn h4 λ_ s5⟨x,H5,K5,r5,y5,st5,fr5⟩=>?_;have K5':=K5.pinned (stat K5 fr5) (T.obj _ _ st5);refine thn (hg _ s5 _ H5 x u _ K5' r5 (step x H5 y5)) λ_ s6⟨σ6,H6,K6,q6⟩=>?_;refine thn (hif _ s6 σ6 H6 _ K6 q6) λb s7⟨H7,K7,q7⟩=>?_;have again:∀{σ8:St}{H8:Hp}{s8:kE},Inv (X.comp scope own ix cl g3.objs.size fp s2 H2 xe) ([]++jy fp s5.heap) σ8 H8 s8->(∃m',m'<n/\W (i+1) m' H8)->∃m,m<n/\∃i H',Inv (X.comp scope own ix cl g3.objs.size fp s2 H2 xe) [] (yq own.length ix σ) H' s8/\tn i s8.heap/\(∀b∈fp,H' b=none)/\W i m H':=λ{σ8 H8 s8} K8⟨m',hm,w8⟩=>by
     obtain⟨m,hm8,_⟩:=K8.loc;refine⟨m',hm,i+1,H8,into (I2.outOf f2 K8) K8.base ⟨m,hm8⟩ K8.free,T.keep _ _ _ st5 λb hb o e=>(K8.pin (b,o) (kT _ (kT _ (Ye hb e)))).1,λb hb=>?_,w8⟩;obtain⟨o,e,d⟩:=T.obj _ _ st5 b hb;exact(K8.pin (b,o) (kT _ (kT _ (Ye hb e)))).2.1
    cases b with
    |false=>exact again K7 q7
    |true=>
     refine thn (hel _ s7 σ6 H7 _ K7 q7) λv s8⟨y,H8,K8,r8,ys,e8,z8,q8⟩=>?_;refine thn (qK (X:=X.comp scope own ix cl g3.objs.size fp s2 H2 xe) _ s8 σ6 H8 (.ref s2.heap.objs.size) [y] (.ref s2.heap.objs.size) [v] (λ_ H'=>∃m',m'<n/\W (i+1) m' H') K8 rfl (.cons r8 .nil) ⟨_,ys,y,rfl,rfl,e8,z8,q8⟩) ?_;rintro u9 s9 ⟨v9,H9,K9,r9,q9⟩;exact again K9 q9
  ·have z:=(f2 b hb).1;obtain⟨o,e⟩:=fpo b hb;rw[zp (kc (kR e))];exact z
 exact codeAny_compStart_list (loop _ rfl) (T.self _ 0 _ _ _ (T.keep _ _ _ st2 λb hb o e=>old b o e) (loop _ rfl))
def ZA{N:List Str}(hc:X.calm=true)(hd:X.env.scope=dsc)(hN:X.N=N)(S':xw dsc N scope own ix)(hi:PI X tg iter wi)(hb:wu X scope own ix tg ifs elt g ti te)
  (hs:∀x,uY iter X.env x=pure x:=by intro _;rfl):PE X (.ListComp elt [⟨tg,iter,ifs,0⟩] scope pos) (va own.length ix wi g ti te):=by
 have S:xw dsc X.N scope own ix:=by rw[hN];exact S'
 intro pins s σ H Q I h;rw[eval_ListComp];refine JT (use:=none) hc hd S hi hb hs I h λD C H' s' I' f' hn q=>?_;obtain⟨m,hm⟩:=hn;obtain⟨f0,f1,f2,f3,f4,f5⟩:=f';exact⟨m,hm,λh' sb=>⟨.ref D,H',I'.turned (t':=s'.toks) (λb o hb e=>(sb.2 b hb).trans e) f0 f1 f3 f4 f5,rfl,q⟩⟩
theorem ps_setC{i:Nat}{x:Str}{N:List Str}{pos' pos1:Pos}(hN:X.N.Nodup)(hx0:X.N[i]?=some x)(hx:Loc X.env.scope x)(hc:X.calm=true)(hd:X.env.scope=dsc)(hN':X.N=N)(S':xw dsc N scope own ix)(hi:PI X tg iter wi)(hb:wu X scope own ix tg ifs elt g ti te)
  (hsw:uh (.ListComp elt [⟨tg,iter,ifs,0⟩] scope pos) (some (.Name x pos')) pos1.line X.env=pure true:=by rfl)(hf:X.fn x=true∨X.env.scope.names.lookup x=some .local:=by first|exact .inl rfl|exact .inr rfl|assumption)
  (hs:∀x,uY iter X.env x=pure x:=by intro _;rfl):PS X (.Assign [.Name x pos'] (.ListComp elt [⟨tg,iter,ifs,0⟩] scope pos) pos1) (wg (va own.length ix wi g ti te) (xT i)):=by
 have S:xw dsc X.N scope own ix:=by rw[hN'];exact S'
 intro pins s σ H D I h;rw[exec_Assign_Name_used _ _ _ _ hsw]
 have main:=JT (p0:=iter.pos) (pos:=pos) (use:=some (assign (.Name x pos') X.env)) (RQ:=λ_ s'=>SP X pins D .next s') hc hd S hi hb hs I h λl C H' s' I' f' hn q=>by
  obtain⟨m,o,es,ep,ho,hdt,hr⟩:=hn;obtain⟨f0,f1,f2,f3,f4,f5⟩:=f';have Ip:Inv X (pins++[(C,o)]) σ H' s':=I'.pins_of λp hp=>(pS.mp hp).elim (λz=>I'.pin p (kT _ z)) λz=>by
   have e:p=(C,o):=by simpa using z
   subst e;exact⟨ho,f0,f1,f2,λv z=>by rw[hdt] at z;cases z⟩
  refine DN (qu (v:=.ref l) Ip hN hx0 hx rfl (λs2 I2=>?_) hf);have pc:=I2.pin (C,o) (kT _ (kT _ (by simp)))
  refine⟨m,⟨o,es,ep,pc.1,hdt,hr⟩,λh' sb=>⟨_,H',I2.unpinned.turned (t':=s2.toks) (λb o hb e=>(sb.2 b hb).trans e) pc.2.1 f1 f3 f4 f5,q⟩⟩
 refine kB (Cv (kB ?_));exact kB (thn main λ_ s' hq=>kH (kH hq))
end
mutual
def RdD(K:kF)(H:Hp):Ao->V->Prop
 |.none,v=>v=.non
 |.bool b,v=>v=.bl b
 |.int i,v=>v=.int i
 |.str x,v=>v=.str x
 |.list ds,v=>∃p xs,v=.ref p/\SqL K H p xs/\wt K H ds xs
 |.tuple ds,v=>∃p xs,v=.ref p/\SqT K H p xs/\wt K H ds xs
 |.dict _,_=>False
def wt(K:kF)(H:Hp):List Ao->List V->Prop
 |[],xs=>xs=[]
 |d::ds,xs=>∃x r,xs=x::r/\RdD K H d x/\wt K H ds r
end
section
variable{X:Cx}{pins:List (Addr×Obj)}{σ:St}{H:Hp}{s:kE}
mutual
theorem xU(I:Inv X pins σ H s):∀(d:Ao)(v:V)(u:kC),RdD X.K H d v->zt v u->∃as,Reads s.heap u d as
 |.none,v,u,h,r=>by
  rw[RdD] at h;subst h;cases r;exact⟨_,.none⟩
 |.bool b,v,u,h,r=>by
  rw[RdD] at h;subst h;cases r;exact⟨_,.bool b⟩
 |.int i,v,u,h,r=>by
  rw[RdD] at h;subst h;obtain⟨t,rfl⟩:=r;exact⟨_,.int i t⟩
 |.str x,v,u,h,r=>by
  rw[RdD] at h;subst h;obtain⟨t,rfl⟩:=r;exact⟨_,.str x t⟩
 |.list ds,v,u,h,r=>by
  rw[RdD] at h;obtain⟨p,xs,rfl,hq,hs⟩:=h
  cases r;obtain⟨its,rv,pl,hz⟩:=I.list hq;obtain⟨o,ho,hc,n,hd⟩:=pl.isList;obtain⟨as,ra⟩:=XS I ds xs its hs rv;exact⟨_,reads_list_at ho hc hd (by simpa using ra)⟩
 |.tuple ds,v,u,h,r=>by
  rw[RdD] at h;obtain⟨p,xs,rfl,hq,hs⟩:=h
  cases r;obtain⟨its,rv,pl,hz⟩:=I.tuple hq;obtain⟨o,ho,hc,n,hd⟩:=pl;obtain⟨as,ra⟩:=XS I ds xs its hs rv;exact⟨_,reads_tuple_at ho hc hd (by simpa using ra)⟩
 |.dict kvs,v,u,h,r=>by
  rw[RdD] at h;exact h.elim
theorem XS(I:Inv X pins σ H s):∀(ds:List Ao)(xs:List V)(us:List kC),wt X.K H ds xs->zr xs us->∃as,ReadsAll s.heap us ds as
 |[],xs,us,h,r=>by
  rw[wt] at h;subst h;cases r;exact⟨_,.nil⟩
 |d::ds,xs,us,h,r=>by
  rw[wt] at h;obtain⟨x,xr,rfl,hx,hr⟩:=h
  cases r with
  |cons r1 r2=>
   obtain⟨as,ra⟩:=xU I d _ _ hx r1;obtain⟨bs,rb⟩:=XS I ds _ _ hr r2;exact⟨_,.cons ra rb⟩
end
end
def rEqD(K:kF):R2:=λx y H Q=>∃d e,RdD K H d x/\RdD K H e y/\ut d=true/\ut e=true/\Q (.bl (QE d e)) H
def rNeD(K:kF):R2:=λx y H Q=>∃d e,RdD K H d x/\RdD K H e y/\ut d=true/\ut e=true/\Q (.bl (!PyData.eqv d e)) H
theorem hu64{A:pI}{k:Nat}(hr:zD k A):A.units+64<cLine:=by have:=hr.un;omega
section
variable{X:Cx}
def JV(hu:X.A.units+64<cLine):OpR X (ug .Eq) (rEqD X.K):=by
 intro pins s σ H x y v u Q I rx ry h;obtain⟨d,e,hd,he,sd,se,q⟩:=h;obtain⟨as,ra⟩:=xU I d x v hd rx;obtain⟨bs,rb⟩:=xU I e y u he ry;exact eq_dataH ra rb sd se hu ⟨.bl (QE d e),H,I,rfl,q⟩
def op_neD(hu:X.A.units+64<cLine):OpR X (ug .NotEq) (rNeD X.K):=by
 intro pins s σ H x y v u Q I rx ry h;obtain⟨d,e,hd,he,sd,se,q⟩:=h;obtain⟨as,ra⟩:=xU I d x v hd rx;obtain⟨bs,rb⟩:=xU I e y u he ry;exact ne_dataH ra rb sd se hu ⟨.bl (!PyData.eqv d e),H,I,rfl,q⟩
end
section
variable{X:Cx}
def yd.imp{f:kC}{r r':List V->Hp->VK->Prop}(h:yd X f r)(i:∀xs H Q,r' xs H Q->r xs H Q):yd X f r':=λpins s σ H xs us Q I rv q=>h pins s σ H xs us Q I rv (i xs H Q q)
def tyF(H:Hp)(x:V):Option String:=match x with
 |.non=>some "NoneType"
 |.bl _=>some "bool"
 |.int _=>some "int"
 |.str _=>some "str"
 |.ref p=>match H p with
  |some (.lst _)=>some "list"
  |some (.tup _)=>some "tuple"
  |_=>none
 |_=>none
theorem tyF_tyN{K:kF}{H:Hp}{x:V}(h:tyF H x=some T):tyN K H x T:=by
 cases x with
 |non=>exact(pL h).symm
 |bl b=>exact(pL h).symm
 |int i=>exact(pL h).symm
 |str z=>exact(pL h).symm
 |ref p=>
  unfold tyF at h;dsimp only at h
  cases q:H p with
  |none=>rw[q] at h;cases h
  |some o=>
   rw[q] at h
   cases o with
   |lst xs=>exact .inl ⟨(pL h).symm,xs,.of q⟩
   |tup xs=>exact .inr (.inl ⟨(pL h).symm,xs,.of q⟩)
   |_=>cases h
 |_=>cases h
def Ys(T:String):List V->Hp->VK->Prop:=λxs H Q=>∃x Tx,xs=[x,.ty T]/\tyF H x=some Tx/\Q (.bl (xZ Tx T)) H
def isiF(h:yd X (.builtin "isinstance") (j9 X.K T)):yd X (.builtin "isinstance") (Ys T):=h.imp λxs H Q⟨x,Tx,e,t,q⟩=>⟨x,Tx,e,tyF_tyN t,q⟩
end
def tyF_lst{H:Hp}{p:Addr}{xs:List V}(h:H p=some (.lst xs)):tyF H (.ref p)=some "list":=by unfold tyF;dsimp only;rw[h]
def tyF_tup{H:Hp}{p:Addr}{xs:List V}(h:H p=some (.tup xs)):tyF H (.ref p)=some "tuple":=by unfold tyF;dsimp only;rw[h]
section
variable{X:Cx}
def bt_min:pp "min"=some (.builtin "min"):=by decide+kernel
def Zi:pp "max"=some (.builtin "max"):=by decide+kernel
end
def zew{base h:Heap}{l:List Env}{e:Addr}{cls a0:kC}(x:Bi base l e cls a0 h)(k:∀b o,h.get? b=some o->h'.get? b=some o):Bi base l e cls a0 h':=by
 obtain⟨f1,f2,f3,oe,vs,T,oT,ts,he,hc,hd,h1,hnT,hTe,hT,hdT,h3⟩:=x;exact⟨λb o q=>k b o (f1 b o q),f2,f3.of_keeps λb o q _=>⟨o,k b o q,rfl⟩,oe,vs,T,oT,ts,k _ _ he,hc,hd,h1,hnT,hTe,k _ _ hT,hdT,h3⟩
section
open PySem.W
variable{M:Model}{K:kF}
theorem zdu{c1 c2 c3 c4 c5 cls:kC}{tp e:Addr}{h:Heap}(X:K.In h)(ty:Looks M h (BG (.ref e)) cls)(at5:h.get? tp=some {cls:=.type "tuple",data:=.seq [c1,c2,c3,c4,c5].toArray})
  (x1:exmOne K cls c1=some false) (x2:exmOne K cls c2=some false) (x3:exmOne K cls c3=some false) (x4:exmOne K cls c4=some false) (x5:exmOne K cls c5=some false):Looks M h (excMatches (.ref e) (.ref tp)) false:=by
 intro A Q E s k0 q;obtain⟨hh,gs,dr,tk,os⟩:=s;have k:∀b o,h.get? b=some o->hh.get? b=some o:=k0;have isT:Looks M hh (gP (.ref tp) (.type "tuple")) true:=(((Looks.ld at5).andThen .now).andThen (Looks.of_pure Uo)).keeps k;have tyh:=ty.keeps k;obtain⟨a1,b1⟩:=exm_cls (M:=M) X x1;obtain⟨a2,b2⟩:=exm_cls (M:=M) X x2;obtain⟨a3,b3⟩:=exm_cls (M:=M) X x3;obtain⟨a4,b4⟩:=exm_cls (M:=M) X x4;obtain⟨a5,b5⟩:=exm_cls (M:=M) X x5;have a1:=a1.keeps k;have a2:=a2.keeps k;have a3:=a3.keeps k;have a4:=a4.keeps k;have a5:=a5.keeps k;have b1:=b1.keeps k;have b2:=b2.keeps k;have b3:=b3.keeps k;have b4:=b4.keeps k;have b5:=b5.keeps k;have tph:=k _ _ at5;unfold excMatches;refine kB (isT.at ?_);dsimp only;rw[if_pos rfl]
 first
  |refine kB (kB (uE tph rfl (kH ?_)))
  |refine kB (uE tph rfl ?_)
 dsimp only[Option.getD_some,Option.getD]
 repeat (first|lk|simp only[gJ,Ap,if_true,if_false,Qv,kr])
 exact q
end
def tTry2(K:kF)(n i:Nat)(cs:List Addr)(c:kC)(tb:XK->TS)(th:TS):TS:=λD σ H=>∃E:XK,tb E D σ H/\∀cls dx H',E cls dx H'->∃Dc:Addr,cls=.ref Dc/\(∀C∈cs,uV K (.ref Dc) (.ref C)=some false)/\uV K (.ref Dc) c=some true/\
 ∀ea,H' ea=none->th {nx:=λ_ H2=>D.nx (uC n none) H2,rt:=D.rt,bk:=λ_ H2=>D.bk (uC n none) H2,ct:=λ_ H2=>D.ct (uC n none) H2} ((uC n none).set i (some (.ref ea))) (upd H' ea (excO ea Dc))
section
variable{X:Cx}{body suite:List Stmt}{b₀:Stmt}{x nm:Str}{np hpos pos:Pos}{i:Nat}{C:Addr}{tb:XK->TS}{th:TS}
theorem zez{n:Nat}{K:kF}{y1 y2 y3 y4 y5:Str}{q1 q2 q3 q4 q5 qt qh:Pos}{kt:Nat}{C1 C2 C3 C4 C5:Addr}{first:List Stmt}(hg1:Gl X y1)(hm1:X.mg y1=some (.ref C1))(hg2:Gl X y2)(hm2:X.mg y2=some (.ref C2))(hg3:Gl X y3)(hm3:X.mg y3=some (.ref C3))(hg4:Gl X y4)(hm4:X.mg y4=some (.ref C4))(hg5:Gl X y5)(hm5:X.mg y5=some (.ref C5))(hK:X.K=K)(hn:X.N.length=n)(hst:X.stack=X.env::X.outer)(hfr:X.env.frame=some X.env.locals)(hex:X.ex=[])(hN:X.N.Nodup)(hi:X.N[i]?=some nm)(hlo:X.env.scope.names.lookup nm=some .local)(hg:Gl X x)(hm:X.mg x=some (.ref C))
  (hb:∀(W:kC->kE->Prop)(pn:List (Addr×Obj))(E:XK),Passes (CXr X.prog X.w) (X.tin W pn) E->PSs (X.tin W pn) body (tb E))(hh:∀(ea:Addr)(pn:List (Addr×Obj)),PSs (X.hin ea pn) (b₀::suite) th)
  (hf:X.fn nm=true∨X.env.scope.names.lookup nm=some .local:=by first|exact .inl rfl|exact .inr rfl)(hdb:(x==("__debug__":Str))=false:=by decide)(hd1:(y1==("__debug__":Str))=false:=by decide)(hd2:(y2==("__debug__":Str))=false:=by decide)(hd3:(y3==("__debug__":Str))=false:=by decide)(hd4:(y4==("__debug__":Str))=false:=by decide)(hd5:(y5==("__debug__":Str))=false:=by decide):
  PS X (.Try body [.ExceptHandler (some (.Tuple [.Name y1 q1,.Name y2 q2,.Name y3 q3,.Name y4 q4,.Name y5 q5] kt qt)) none first qh,.ExceptHandler (some (.Name x np)) (some nm) (b₀::suite) hpos] [] [] pos) (tTry2 K n i [C1,C2,C3,C4,C5] (.ref C) tb th):=by
 subst hK hn;intro pins s σ H D I h;obtain⟨E,h1,h2⟩:=h;refine wpAny_Try_except ?_;have go:=hb (λe s₁=>wpAny (model X.prog X.w) X.A (noteFrame e X.env) (λ_ s₂=>wpAny (model X.prog X.w) X.A (setFlight e none) (λ_ s₃=>
  wpAny (model X.prog X.w) X.A (handleBy e X.env [.ExceptHandler (some (.Tuple [.Name y1 q1,.Name y2 q2,.Name y3 q3,.Name y4 q4,.Name y5 q5] kt qt)) none first qh,.ExceptHandler (some (.Name x np)) (some nm) (b₀::suite) hpos]) (SP X pins D) X.xe s₃) X.xe s₂) X.xe s₁) (X.pn++pins) E ?key
 ·refine uT (go [] s σ H D (I.tin _) h1) (λf s1 q=>?_) λe s1 q=>q;have q':=SP.untin I.ok q
  cases f with
  |next=>exact gH q'
  |brk=>exact q'
  |cont=>exact q'
  |ret u=>exact q'
 intro pins1 σ1 H1 s1 e s' I1 hx;obtain⟨ea,cls,H2,rfl,os,bare,F,hE⟩:=hx;obtain⟨Dc,rfl,hno,hmx,hth⟩:=h2 cls none H2 hE;obtain⟨B,a0,fl,hokB,old,there⟩:=F.fly;have hea:H2 ea=none:=hokB.free_of fl.2.1;have fun1:s1.heap.FunFrames X.base X.stack:=I1.stack;have inv:∀h6:Heap,Bi B X.stack ea (.ref Dc) a0 h6->s'.heap.UpToSlots h6->Inv (X.hin ea (X.pn++pins)) pins1 (uC X.N.length none) (upd H2 ea (excO ea Dc)) {s' with heap:=h6}:=λh6 f6 up=>by
  have st:∀b o,s1.heap.get? b=some o->b∈frs X.stack->H1 b=none->∃sl,h6.get? b=some {o with slots:=sl}:=λb o q hb n=>by
   obtain⟨sl,q1⟩:=F.un.slot b o q n hb (by simp)
   obtain⟨_,o',q',d⟩:=fun1.mem hb;rw[q] at q';cases q';obtain⟨sl',q2⟩:=up b _ q1 d;exact⟨sl',q2⟩
  have nea:∀b o,s1.heap.get? b=some o->b≠ea:=λb o q z=>by rw[z,F.new] at q;cases q
  refine(Inv.call' (ch:=[]) (s':={s' with heap:=h6}) I1.forget os ⟨λb o q n hb _=>f6.1 b o (old b o q n hb),λb o q n hb _=>st b o q hb n,λb o q n _=>?_,λb o q _=>?_,λb xs q=>?_,λb o u q=>?_,λb ps q=>?_⟩ ?_ bare (λb z=>absurd z (by simp))).hin I.ok ea
  ·rw[zp (nea b o q)];exact F.un.free b o q n (by simp)
  ·by_cases hb:b∈frs X.stack
   ·obtain⟨sl,q1⟩:=st b o q hb (I1.stkFree b hb);exact⟨_,q1⟩
   ·obtain⟨o',q1⟩:=there b o q hb;exact⟨o',f6.1 b o' q1⟩
  ·have q':=F.un.tups b xs q;rw[zp (yK q' hea)];exact q'
  ·have q':=F.un.frzs b o u q;rw[zp (yK q' hea)];exact q'
  ·obtain⟨mo,q'⟩:=F.un.tbls b ps q;exact⟨mo,by rw[zp (yK q' hea)];exact q'⟩
  ·intro b u q
   by_cases hb:b=ea
   ·subst hb;rw[zM] at q;cases q;obtain⟨_,_,_,oe,vs,T,oT,ts,he,hc,hd,_⟩:=f6;exact⟨⟨oe,vs,he,hc.1,hd⟩,⟨oe,he⟩,λg1 g2⟨o,vs,p1,p2,p3⟩ k=>⟨o,vs,k o p1,p2,p3⟩⟩
   ·rw[zp hb] at q;refine(hokB b u q).stay (λc v _ r=>f6.1 c v r) (λc r=>?_) λc xs r=>?_
    ·rw[zp (yK r hea)];exact r
    ·rw[zp (yK r hea)];exact r
 rw[hst] at fl inv;refine wpAny_looks_onW (I.ok.frames.trans (by rw[hst])) hfr fl λh₄ held₄ sm₄=>?_
 refine wpAny_landsW held₄ λh₅ fl₅ sm₅=>?_;have up₅:=sm₄.trans sm₅;have I5:=inv h₅ fl₅ up₅;refine Cm (CD (Cj ?_)) (by intro q;cases q)
 show wpAny (model X.prog X.w) (X.A.mark (some (.ref ea))) (spliced ((false,eval (.Name y1 q1) X.env)::(false,eval (.Name y2 q2) X.env)::(false,eval (.Name y3 q3) X.env)::(false,eval (.Name y4 q4) X.env)::(false,eval (.Name y5 q5) X.env)::[])) _ _ _
 refine uL (xV (X:=X.hin ea (X.pn++pins)) I5 hg1 hm1 ?_ hd1);refine uL (xV (X:=X.hin ea (X.pn++pins)) I5 hg2 hm2 ?_ hd2);refine uL (xV (X:=X.hin ea (X.pn++pins)) I5 hg3 hm3 ?_ hd3);refine uL (xV (X:=X.hin ea (X.pn++pins)) I5 hg4 hm4 ?_ hd4);refine uL (xV (X:=X.hin ea (X.pn++pins)) I5 hg5 hm5 ?_ hd5);refine Ur ⟨(by show 5<=sizeLine;decide),?_⟩
 have grow:∀b o,h₅.get? b=some o->(h₅.push {cls:=.type "tuple",data:=.seq [ki C1,.ref C2,.ref C3,.ref C4,.ref C5].toArray}).get? b=some o:=λb o q=>kG _ q;have tupAt:(h₅.push {cls:=.type "tuple",data:=.seq [ki C1,.ref C2,.ref C3,.ref C4,.ref C5].toArray}).get? h₅.objs.size=some {cls:=.type "tuple",data:=.seq [ki C1,.ref C2,.ref C3,.ref C4,.ref C5].toArray}:=kQ _ rfl;have fl₇:=zew fl₅ grow;have up₇:=up₅.trans (BR grow);have I7':=inv _ fl₇ up₇;obtain⟨ob5,hob5,hoc5⟩:=fl₇.there;have ty5:Uk (model X.prog X.w) (h₅.push {cls:=.type "tuple",data:=.seq [ki C1,.ref C2,.ref C3,.ref C4,.ref C5].toArray}) (BG (.ref ea)) (.ref Dc):=hoc5▸(AD hob5).andThen .now;refine Aj (zdu (show X.K.In _ from I7'.kIn) ty5 tupAt (hno C1 (by simp)) (hno C2 (by simp)) (hno C3 (by simp)) (hno C4 (by simp)) (hno C5 (by simp))) ?_
 generalize h₅.push {cls:=.type "tuple",data:=.seq [ki C1,.ref C2,.ref C3,.ref C4,.ref C5].toArray}=h₇ at*;refine Cm (CD (xV (X:=X.hin ea (X.pn++pins)) I7' hg hm ?_ hdb)) (by intro q;cases q)
 obtain⟨ob,hob,hoc⟩:=fl₇.there;have ty:Uk (model X.prog X.w) h₇ (BG (.ref ea)) (.ref Dc):=hoc▸(AD hob).andThen .now;refine Aj (s:={s' with heap:=h₇}) (PySem.W.exm_one (show X.K.In h₇ from I7'.kIn) ty hmx) ?_;refine codeAny_handlers_suite_as (lands_againW fl₇ λh₆ fl₆ sm₆=>?_);have I6:=inv h₆ fl₆ (up₇.trans sm₆);refine qu (X:=X.hin ea (X.pn++pins)) (v:=.ref ea) I6 hN hi (.inl hlo) rfl (λs7 I7=>?_) hf;refine uT (hh ea _ pins1 s7 _ _ _ I7 (hth ea hea)) (λf s8 q=>?_) λ_ _ z=>z.elim;have knd:(X.env.scope.kind==.class||(X.env.scope.kind==.module&&X.env.locals !=X.env.globals))=false:=by rw[I.ok.kind];rfl
 cases f with
 |next=>
  obtain⟨σ',H',I8,q⟩:=q;obtain⟨m,hn,_⟩:=id I8.loc;exact Aq hlo hn knd λh' m' hn' hs=>⟨_,H',I8.back I.ok hn' hs,q⟩
 |brk=>
  obtain⟨σ',H',I8,q⟩:=q;obtain⟨m,hn,_⟩:=id I8.loc;exact Aq hlo hn knd λh' m' hn' hs=>⟨_,H',I8.back I.ok hn' hs,q⟩
 |cont=>
  obtain⟨σ',H',I8,q⟩:=q;obtain⟨m,hn,_⟩:=id I8.loc;exact Aq hlo hn knd λh' m' hn' hs=>⟨_,H',I8.back I.ok hn' hs,q⟩
 |ret u=>
  obtain⟨v,σ',H',I8,r,q⟩:=q;obtain⟨m,hn,_⟩:=id I8.loc;exact Aq hlo hn knd λh' m' hn' hs=>⟨v,_,H',I8.back I.ok hn' hs,r,q⟩
end
variable{its ys:Array kC}{i1 i2 l1 l2:Addr}
section
variable{prog:kW}{w:kq}{A:pI}{E:kC->kE->Prop}{s:kE}
variable{R:kC->kE->Prop}
def Vt{c t:Addr}{i:Nat}{v:kC}(hi:s.heap.IsTupleIter c t i)(ht:s.heap.IsTuple t its)(hv:its[i]?=some v)
  (hR:∀g,g.IsTupleIter c t (i+1)->Qc c s.heap g->R v {s with heap:=g}):wpAny (model prog w) A (uZ (.ref c)) R E s:=by
 obtain⟨o,ho,hc,hd⟩:=id hi;obtain⟨o2,ho2,_,n2,hd2⟩:=ht;unfold uZ;refine kB (uW (name:=kx "__next__") hi.typeIs UB (uX UB hi.typeIs Aa ?_ (AR _)));show wpAny _ _ (field (.ref c) 0>>=_) _ _ s;refine kB (uz ho hd (x:=.ref t) rfl ?_);show wpAny _ _ (if(ki t==pN)=true then _ else _) _ _ s;rw[if_neg (show ¬((ki t==pN)=true) from kZ)];show wpAny _ _ (field (.ref c) 1>>=_) _ _ s;refine kB (uz ho hd (x:=.int i 0) rfl ?_);show wpAny _ _ (Ad (.ref t)>>=_) _ _ s;refine kB (uE ho2 hd2 ?_);simp only[QR,hv];refine kB (gh ho hd (by simp) (kH ⟨v,rfl,kH (hR _ ⟨_,uM _ ho (CF (gR hd _)),(DW ..).trans hc,?_⟩ (uv ..))⟩));rw[gR hd];simp[QY]
def zcf{c t:Addr}{i:Nat}(hh:A.handled=none)(hi:s.heap.IsTupleIter c t i)(ht:s.heap.IsTuple t its)(hv:its[i]?=none)
  (hE:∀g e,EK c s.heap g->(∃o,g.get? e=some o/\o.cls=.type "StopIteration")->E (.ref e) {s with heap:=g}):wpAny (model prog w) A (uZ (.ref c)) R E s:=by
 obtain⟨o,ho,hc,hd⟩:=id hi;obtain⟨o2,ho2,_,n2,hd2⟩:=ht;unfold uZ;refine kB (uW (name:=kx "__next__") hi.typeIs UB (uX UB hi.typeIs Aa ?_ (AR _)));show wpAny _ _ (field (.ref c) 0>>=_) _ _ s;refine kB (uz ho hd (x:=.ref t) rfl ?_);show wpAny _ _ (if(ki t==pN)=true then _ else _) _ _ s;rw[if_neg (show ¬((ki t==pN)=true) from kZ)];show wpAny _ _ (field (.ref c) 1>>=_) _ _ s;refine kB (uz ho hd (x:=.int i 0) rfl ?_);show wpAny _ _ (Ad (.ref t)>>=_) _ _ s;refine kB (uE ho2 hd2 ?_);simp only[QR,hv];refine kB (UP (kB (gh ho hd (by simp) ?_)));show wpAny _ _ (Ep (.type "StopIteration") []>>=_) _ _ _
 refine kB ?_;simp only[Ep,newTuple];refine kB (QQ ?_ (by size_fits))
 refine kB (m:=Uz _ _) (Uy (a:=pN) (by first|rfl|(simp only[Uz];rfl)) ?_);refine QQ ?_ (by size_fits)
 simp only[raiseNew];refine kB (Cz ?_);first|rw[show A.in1.handled=none from hh]|rw[hh]
 refine kB (kH (EL ?_));exact hE _ _ (((uv ..).extBut.push _).push _) ⟨_,kQ _ rfl,rfl⟩
variable{R:Option kC->kE->Prop}{xs:Array kC}
def zcx{z p q:Addr}{k1 k2:Nat}{x y a b:kC}(D:ZipApart z p q i1 i2 l1 l2)(hz:IsZip s.heap z p q .none)(hp:gi s.heap p (.ref i1) (.ref i2))(hq:gi s.heap q a b)
  (h1:s.heap.IsTupleIter i1 l1 k1)(h2:s.heap.IsTupleIter i2 l2 k2)(t1:s.heap.IsTuple l1 xs)(t2:s.heap.IsTuple l2 ys)(hx:xs[k1]?=some x)(hy:ys[k2]?=some y)
  (hR:∀g,IsZip g z p q (QY s.heap.objs.size)->gi g q x y->g.IsTupleIter i1 l1 (k1+1)->g.IsTupleIter i2 l2 (k2+1)->gi g s.heap.objs.size x y->g.objs.size=s.heap.objs.size+1->
   (∀c o,c≠z->c≠q->c≠i1->c≠i2->s.heap.get? c=some o->g.get? c=some o)->R (some (.ref s.heap.objs.size)) {s with heap:=g}):wpAny (model prog w) A (gb (.ref z)) R E s:=by
 have hT:s.TypeIs (.ref z) "zip":=⟨_,hz,rfl⟩;unfold gb;refine kB (Qu (uW (name:=kx "__next__") hT AS (uX AS hT Dw ?_ (DX _))));show wpAny _ _ (field (.ref z) 2>>=_) _ _ s;refine kB (uz hz rfl (x:=.bool false) rfl ?_);show wpAny _ _ (field (.ref z) 3>>=_) _ _ s;refine kB (uz hz rfl (x:=.ref p) rfl (kB (uE hp rfl ?_)));show wpAny _ _ (QC (.ref z)>>=_) _ _ s;refine kB ?_;unfold QC;refine kB (uz hz rfl (x:=.none) rfl (kH ?_));simp only[if_true];refine kB (UP (kB (uz hz rfl (x:=.ref q) rfl (kB (Ue hz (by simp) λg1 z1 b1=>?_)))))
 replace z1:IsZip g1 z p q .ellipsis:=z1
 refine kB ?_;simp only[Dx,EV,gJ,Ap];refine kB (kB (DA ?_));show wpAny _ _ (uZ (.ref i1)>>=_) _ _ _;refine kB (Vt (h1.extBut b1.extBut D.i1z) (t1.extBut b1.extBut D.l1z) hx λg2 j1 b2=>kH ?_);have q2:gi g2 q a b:=b2.extBut _ _ D.TOi1 (b1.extBut _ _ D.TOz hq);refine kB (uE q2 rfl (kB (CO q2 λg3 q3 b3=>?_)));replace q3:gi g3 q x b:=q3;refine kB (Ua (kH (kB (kB (DA ?_)))));show wpAny _ _ (uZ (.ref i2)>>=_) _ _ _;refine kB (Vt (((h2.extBut b1.extBut D.i2z).extBut b2.extBut D.i12.symm).extBut b3.extBut D.TOi2.symm) (((t2.extBut b1.extBut D.l2z).extBut b2.extBut D.l2i1).extBut b3.extBut D.l2TO) hy λg4 j2 b4=>kH ?_);have q4:gi g4 q x b:=b4.extBut _ _ D.TOi2 q3;refine kB (uE q4 rfl (kB (CO q4 λg5 q5 b5=>?_)));replace q5:gi g5 q x y:=q5;refine kB (Ua (kH (kH (kB (uE q5 rfl (kB (wpAny_newTuple ?_)))))));have sz:g5.objs.size=s.heap.objs.size:=by rw[b5.1,b4.1,b3.1,b2.1,b1.1]
 have z5:IsZip g5 z p q .ellipsis:=b5.extBut _ _ D.TOz.symm (b4.extBut _ _ D.i2z.symm (b3.extBut _ _ D.TOz.symm (b2.extBut _ _ D.i1z.symm z1)));have k5:∀c o,c≠z->c≠q->c≠i1->c≠i2->s.heap.get? c=some o->g5.get? c=some o:=λc o c1 c2 c3 c4 e=>b5.extBut _ _ c2 (b4.extBut _ _ c4 (b3.extBut _ _ c2 (b2.extBut _ _ c3 (b1.extBut _ _ c1 e))));have u1:g5.IsTupleIter i1 l1 (k1+1):=((j1.extBut b3.extBut D.TOi1.symm).extBut b4.extBut D.i12).extBut b5.extBut D.TOi1.symm;have u2:g5.IsTupleIter i2 l2 (k2+1):=j2.extBut b5.extBut D.TOi2.symm;have zl:z<g5.objs.size:=kR z5;show wpAny _ _ (hX (.ref z) (.ref g5.objs.size)>>=_) _ _ _;refine kB ?_;unfold hX;have z6:IsZip (g5.push {cls:=.type "tuple",data:=.seq #[x,y]}) z p q .ellipsis:=kG _ z5;refine kB (Ue z6 (by simp) λg7 z7 b7=>?_);replace z7:IsZip g7 z p q (QY g5.objs.size):=z7
 refine Ue z7 (by simp) λg8 z8 b8=>?_;replace z8:IsZip g8 z p q (QY g5.objs.size):=z8
 have up:∀c o,c≠z->g5.get? c=some o->g8.get? c=some o:=λc o c1 e=>b8.extBut _ _ c1 (b7.extBut _ _ c1 (kG _ e));have w8:gi g8 g5.objs.size x y:=b8.extBut _ _ (gZ zl) (b7.extBut _ _ (gZ zl) (kQ _ rfl));have s8:g8.objs.size=g5.objs.size+1:=by rw[b8.1,b7.1,QB]
 rw[sz] at z8 w8 s8;refine kH ⟨_,rfl,kH ?_⟩;show R (some (.ref g5.objs.size)) _;rw[sz];exact hR g8 z8 (up _ _ D.TOz q5) (u1.at λo e=>up _ o D.i1z e) (u2.at λo e=>up _ o D.i2z e) w8 s8 λc o c1 c2 c3 c4 e=>up c o c1 (k5 c o c1 c2 c3 c4 e)
def zbg{z p q:Addr}{k1:Nat}{a b:kC}(hh:A.handled=none)(D:ZipApart z p q i1 i2 l1 l2)(hz:IsZip s.heap z p q .none)(hp:gi s.heap p (.ref i1) (.ref i2))(hq:gi s.heap q a b)
  (h1:s.heap.IsTupleIter i1 l1 k1)(t1:s.heap.IsTuple l1 xs)(hx:xs[k1]?=none)
  (hR:∀g,(∀c o,c≠z->c≠q->c≠i1->c≠i2->s.heap.get? c=some o->g.get? c=some o)->R none {s with heap:=g}):wpAny (model prog w) A (gb (.ref z)) R E s:=by
 have hT:s.TypeIs (.ref z) "zip":=⟨_,hz,rfl⟩;unfold gb;refine kB (Qu (uW (name:=kx "__next__") hT AS (uX AS hT Dw ?_ (DX _))));show wpAny _ _ (field (.ref z) 2>>=_) _ _ s;refine kB (uz hz rfl (x:=.bool false) rfl ?_);show wpAny _ _ (field (.ref z) 3>>=_) _ _ s;refine kB (uz hz rfl (x:=.ref p) rfl (kB (uE hp rfl ?_)));show wpAny _ _ (QC (.ref z)>>=_) _ _ s;refine kB ?_;unfold QC;refine kB (uz hz rfl (x:=.none) rfl (kH ?_));simp only[if_true];refine kB (UP (kB (uz hz rfl (x:=.ref q) rfl (kB (Ue hz (by simp) λg1 z1 b1=>?_)))))
 replace z1:IsZip g1 z p q .ellipsis:=z1
 refine kB ?_;simp only[Dx,EV,gJ,Ap];refine kB (kB (DA ?_));show wpAny _ _ (uZ (.ref i1)>>=_) _ _ _
 refine kB (zcf (by first|exact hh|(show A.in1.handled=none;exact hh)) (h1.extBut b1.extBut D.i1z) (t1.extBut b1.extBut D.l1z) hx λg2 e b2 he=>?_)
 obtain⟨oe,hoe,ce⟩:=he;have z2:IsZip g2 z p q .ellipsis:=b2 _ _ D.i1z.symm z1;have ez:e≠z:=λy=>by subst y;rw[z2] at hoe;cases hoe;simp at ce
 refine Ue z2 (by simp) λg3 _ b3=>kB (QG (T:="StopIteration") (b:=true) ⟨oe,b3.extBut _ _ ez hoe,ce⟩ CP (kH (hR g3 λc o c1 _ c3 _ y=>b3.extBut _ _ c1 (b2 _ _ c3 (b1.extBut _ _ c1 y)))))
end
def zh1(h:Heap)(l:Addr):Heap:=h.push {cls:=.type "tuple_iterator",data:=.fields #[.ref l,.int 0 0]}
def zh2(h:Heap)(l m:Addr):Heap:=(zh1 h l).push {cls:=.type "tuple_iterator",data:=.fields #[.ref m,.int 0 0]}
def zh3(h:Heap)(l m:Addr):Heap:=(zh2 h l m).push {cls:=.type "tuple",data:=.seq #[.ref h.objs.size,.ref (zh1 h l).objs.size]}
def zh4(h:Heap)(l m:Addr):Heap:=(zh3 h l m).push {cls:=.type "tuple",data:=.seq #[.none,.none]}
def zh5(h:Heap)(l m:Addr):Heap:=(zh4 h l m).push {cls:=.type "zip",data:=.fields #[.none,.bool false,.bool false,.ref (zh2 h l m).objs.size,.ref (zh3 h l m).objs.size]}
def zdl(l m:Addr)(xs ys:Array kC):Meets (Qe.«zip.__new__» ⟨[.type "zip",.ref l,.ref m],[]⟩) (λ_ R s=>s.heap.IsTuple l xs/\s.heap.IsTuple m ys/\R (.ok (.ret (.ref (zh4 s.heap l m).objs.size))) {s with heap:=zh5 s.heap l m}):=
 .of_wp λprog w A R s h=>by
  obtain⟨hp,g,d,tk,os⟩:=s;obtain⟨hl1,hl2,h⟩:=h;have hsub:=sub_zip;have L1:FJ (FR ⟨hp,g,d,tk,os⟩) l xs:=hl1;have L2:FJ (FR ⟨hp.push {cls:=.type "tuple_iterator",data:=.fields #[.ref l,.int 0 0]},g,d,tk,os⟩) m ys:=Heap.IsTuple.push hl2 _
  wp_walk using Ag L1,Ag L2
  exact⟨_,rfl,h⟩
variable{l:Addr}
section
variable{prog:kW}{w:kq}{A:pI}{E:kC->kE->Prop}{s:kE}
def ze9{m:Addr}{xs:Array kC}{R:kC->kE->Prop}(t1:s.heap.IsTuple l xs)(t2:s.heap.IsTuple m ys)
  (h:∀g,IsZip g (s.heap.objs.size+4) (s.heap.objs.size+2) (s.heap.objs.size+3) .none->gi g (s.heap.objs.size+2) (.ref s.heap.objs.size) (.ref (s.heap.objs.size+1))->gi g (s.heap.objs.size+3) .none .none->
   g.IsTupleIter s.heap.objs.size l 0->g.IsTupleIter (s.heap.objs.size+1) m 0->(∀c o,s.heap.get? c=some o->g.get? c=some o)->R (.ref (s.heap.objs.size+4)) {s with heap:=g}):wpAny (model prog w) A (call (.type "zip") [.ref l,.ref m]) R E s:=by
 refine callType_new F.called_zip (by decide) (F.typeCall_zip_2 _ _) (F.newCall_zip_2 _ _) (λobj=>F.args_object_init_3 obj _ _) F.entry_zip_new (zdl l m xs ys) ⟨t1,t2,?_⟩
 have s1:(zh1 s.heap l).objs.size=s.heap.objs.size+1:=QB ..;have s2:(zh2 s.heap l m).objs.size=s.heap.objs.size+2:=by unfold zh2;rw[QB,s1]
 have s3:(zh3 s.heap l m).objs.size=s.heap.objs.size+3:=by unfold zh3;rw[QB,s2]
 have s4:(zh4 s.heap l m).objs.size=s.heap.objs.size+4:=by unfold zh4;rw[QB,s3]
 have up:∀{c o},(zh4 s.heap l m).get? c=some o->(zh5 s.heap l m).get? c=some o:=λe=>kG _ e;have up3:∀{c o},(zh3 s.heap l m).get? c=some o->(zh5 s.heap l m).get? c=some o:=λe=>up (kG _ e);have up2:∀{c o},(zh2 s.heap l m).get? c=some o->(zh5 s.heap l m).get? c=some o:=λe=>up3 (kG _ e);have up1:∀{c o},(zh1 s.heap l).get? c=some o->(zh5 s.heap l m).get? c=some o:=λe=>up2 (kG _ e);have e5:(zh5 s.heap l m).get? (zh4 s.heap l m).objs.size=some {cls:=.type "zip",data:=.fields #[.none,.bool false,.bool false,.ref (zh2 s.heap l m).objs.size,.ref (zh3 s.heap l m).objs.size]}:=kQ _ rfl;have e4:(zh5 s.heap l m).get? (zh3 s.heap l m).objs.size=some {cls:=.type "tuple",data:=.seq #[.none,.none]}:=up (kQ _ rfl);have e3:(zh5 s.heap l m).get? (zh2 s.heap l m).objs.size=some {cls:=.type "tuple",data:=.seq #[.ref s.heap.objs.size,.ref (zh1 s.heap l).objs.size]}:=up3 (kQ _ rfl);have e2:(zh5 s.heap l m).get? (zh1 s.heap l).objs.size=some {cls:=.type "tuple_iterator",data:=.fields #[.ref m,.int 0 0]}:=up2 (kQ _ rfl);have e1:(zh5 s.heap l m).get? s.heap.objs.size=some {cls:=.type "tuple_iterator",data:=.fields #[.ref l,.int 0 0]}:=up1 (kQ _ rfl);show _/\_;rw[s2,s3,s4] at e5;rw[s1,s2] at e3;rw[s3] at e4;rw[s1] at e2;rw[s4];exact⟨⟨_,e5,rfl⟩,h _ e5 e3 e4 ⟨_,e1,rfl,rfl⟩ ⟨_,e2,rfl,rfl⟩ λc o x=>up1 (kG _ x)⟩
end
def Ity(K:kF)(l1 l2:Addr):It:=
 ⟨λi H=>∃xs ys x y,SqT K H l1 xs/\SqT K H l2 ys/\xs[i]?=some x/\ys[i]?=some y,
  λi H v H'=>∃T x y,H T=none/\v=.ref T/\H'=upd H T (.tup [x,y])/\(∀xs,SqT K H l1 xs->xs[i]?=some x)/\(∀ys,SqT K H l2 ys->ys[i]?=some y),
  λi H=>∃xs,SqT K H l1 xs/\xs.length<=i⟩
def ZipTt(z p q i1 i2 l1 l2:Addr)(i:Nat)(h:Heap):Prop:=∃a b,IsZip h z p q .none/\gi h p (.ref i1) (.ref i2)/\gi h q a b/\h.IsTupleIter i1 l1 i/\h.IsTupleIter i2 l2 i
def Inv.tup_inj{X:Cx}{pins:List (Addr×Obj)}{σ:St}{H:Hp}{s:kE}{a:Addr}{xs ys:List V}(I:Inv X pins σ H s)(h1:SqT X.K H a xs)(h2:SqT X.K H a ys):xs=ys:=I.tuple_inj h1 h2
variable{elts:List Expr}
theorem zam{P:kW}{w:kq}{K:kF}{x1:Nat}{pos:Pos}{z p q:Addr}(D:ZipApart z p q i1 i2 l1 l2):
  Turn P w K (.Tuple elts x1 pos) (Ity K l1 l2) [z,p,q,i1,i2] z (ZipTt z p q i1 i2 l1 l2) where
 mem:=by simp
 obj:=λi h st b hb=>by
  obtain⟨a,b',hz,hp,hq,h1,h2⟩:=st;simp only[kX,pi,or_false] at hb;rcases hb with rfl|rfl|rfl|rfl|rfl
  ·exact⟨_,hz,λv r=>by cases r⟩
  ·exact⟨_,hp,λv r=>by cases r⟩
  ·exact⟨_,hq,λv r=>by cases r⟩
  ·obtain⟨o,e,c,d⟩:=h1;exact⟨o,e,λv r=>by rw[d] at r;cases r⟩
  ·obtain⟨o,e,c,d⟩:=h2;exact⟨o,e,λv r=>by rw[d] at r;cases r⟩
 keep:=λi h h' st k=>by
  obtain⟨a,b',hz,hp,hq,h1,h2⟩:=st;exact⟨a,b',k z (by simp) _ hz,k p (by simp) _ hp,k q (by simp) _ hq,h1.at λo e=>k i1 (by simp) o e,h2.at λo e=>k i2 (by simp) o e⟩
 item:=by
  intro X hP hw hK hc i pins s σ H E I hf st hg;subst hP hw hK;obtain⟨xs,ys,x,y,hq1,hq2,hx,hy⟩:=hg;obtain⟨a,b',hz,hp,hq,h1,h2⟩:=st;obtain⟨its1,rv1,p1,_⟩:=I.tuple hq1;obtain⟨its2,rv2,p2,_⟩:=I.tuple hq2;obtain⟨u1,hu1,ru1⟩:=rv1.get hx;obtain⟨u2,hu2,ru2⟩:=rv2.get hy;refine zcx D hz hp hq h1 h2 p1 p2 (x:=u1) (y:=u2) (by simpa using hu1) (by simpa using hu2) λg1 z1 t1 j1 j2 pr sz kk=>⟨_,rfl,?_⟩
  refine wpAny_letOwnedTupleGo_zip z1 λg2 z2 sb=>?_;have lt:∀b∈[z,p,q,i1,i2],b≠s.heap.objs.size:=λb hb e=>by
   have:∃o,s.heap.get? b=some o:=by
    simp only[kX,pi,or_false] at hb;rcases hb with rfl|rfl|rfl|rfl|rfl
    ·exact⟨_,hz⟩
    ·exact⟨_,hp⟩
    ·exact⟨_,hq⟩
    ·obtain⟨o,e,_⟩:=h1;exact⟨o,e⟩
    ·obtain⟨o,e,_⟩:=h2;exact⟨o,e⟩
   obtain⟨o,r⟩:=this;exact absurd (kR r) (by rw[e];exact Qb _)
  have nz:∀{b:Addr},b≠z->∀{o},g1.get? b=some o->g2.get? b=some o:=λ{b} hb{o} e=>(sb.2 b hb).trans e;have zT:s.heap.objs.size≠z:=(lt z (by simp)).symm
  have hnT:H s.heap.objs.size=none:=I.hok.fresh (kN _);have new:zV X.prog X.w (upd H s.heap.objs.size (.tup [x,y])) g2 s.heap.objs.size (.tup [x,y]):=⟨by show 2<=sizeLine;decide,[u1,u2],.cons ru1 (.cons ru2 .nil),⟨_,nz zT pr,rfl,_,rfl⟩⟩
  have I1:=Inv.turnedNew (h':=g2) (t':=s.toks) (ch:=[z,p,q,i1,i2]) I hf (λb o hb e=>nz (by simp at hb;exact hb.1) (kk b o (by simp at hb;exact hb.1) (by simp at hb;exact hb.2.2.1) (by simp at hb;exact hb.2.2.2.1) (by simp at hb;exact hb.2.2.2.2) e)) (kN _) new
  refine⟨.ref s.heap.objs.size,_,I1,rfl,⟨_,x,y,hnT,rfl,rfl,λzs hy'=>by rw[I.tup_inj hy' hq1];exact hx,λzs hy'=>by rw[I.tup_inj hy' hq2];exact hy⟩,⟨u1,u2,z2,?_,?_,?_,?_⟩,λb hb=>by rw[zp (lt b hb)];exact(hf b hb).1⟩
  ·exact nz D.TIz (kk p _ D.TIz D.TITO D.TIi1 D.TIi2 hp)
  ·exact nz D.TOz t1
  ·exact j1.at λo e=>nz D.i1z e
  ·exact j2.at λo e=>nz D.i2z e
 done:=by
  intro X hP hw hK hc i pins s σ H E I hf st hg;subst hP hw hK;obtain⟨xs,hq1,hl⟩:=hg;obtain⟨a,b',hz,hp,hq,h1,h2⟩:=st;obtain⟨its1,rv1,p1,_⟩:=I.tuple hq1;have e1:=rv1.length;refine zbg (I.ok.hd hc) D hz hp hq h1 p1 (by simp;omega) λg1 kk=>⟨rfl,?_⟩
  exact I.turnedL (t':=s.toks) (ch:=[z,p,q,i1,i2]) hf (λb o hb e=>kk b o (by simp at hb;exact hb.1) (by simp at hb;exact hb.2.2.1) (by simp at hb;exact hb.2.2.2.1) (by simp at hb;exact hb.2.2.2.2) e)
 self:=λ_ _ _ _ _ st h=>by
  obtain⟨a,b',hz,_⟩:=st;exact Dy hz h
section
variable{X:Cx}
def iZipU(K:kF)(ta:TA):TI:=λσ H R=>ta σ H λvs H1=>∃l1 l2 xs ys,vs=[.ref l1,.ref l2]/\H1 l1=some (.tup xs)/\H1 l2=some (.tup ys)/\R (Ity K l1 l2) H1
theorem pi_zipT{a b:Expr}{ta:TA}{p pos tpos:Pos}{x1:Nat}(hg:Gl X "zip")(hm:X.mg "zip"=none)(ha:PA X [a,b] ta)(hs:kJ [a,b] X.env=[(false,eval a X.env),(false,eval b X.env)]:=by rfl)
  (hs2:kJ [b] X.env=[(false,eval b X.env)]:=by rfl):PI X (.Tuple elts x1 tpos) (.Call (.Name "zip" p) [a,b] [] pos) (iZipU X.K ta):=by
 intro pins s σ H R I h;refine Call_ (xk I hg hm bt_zip (py (thn (ha pos pins s σ H _ I h) λus s1⟨vs,H1,I1,r1,q1⟩=>?_) (by rw[hs,hs2]) (by rw[hs2];rfl)))
 obtain⟨l1,l2,xs,ys,e,e1,e2,r⟩:=q1;subst e;obtain⟨u,w',rfl,ru,rw'⟩:=vals2 r1
 cases ru
 cases rw';obtain⟨its1,rv1,p1,_⟩:=I1.tuple (.of e1);obtain⟨its2,rv2,p2,_⟩:=I1.tuple (.of e2);have lt:∀{t:Addr}{its:Array kC},s1.heap.IsTuple t its->t<s1.heap.objs.size:=λh=>by obtain⟨o,ho,_⟩:=h;exact kR ho
 refine ze9 p1 p2 λg hz hp hq hi1 hi2 kk=>Dy hz ?_;have I2:Inv X pins σ H1 {s1 with heap:=g}:=I1.kept (t':=s1.toks) kk;refine⟨_,_,_,_,H1,rfl,I2,zam (zipApart_new (n:=s1.heap.objs.size) (lt p1) (lt p2)),⟨_,_,hz,hp,hq,hi1,hi2⟩,λb hb=>?_,r⟩;have hb':s1.heap.objs.size<=b:=by
  simp only[kX,pi,or_false] at hb;rcases hb with rfl|rfl|rfl|rfl|rfl<;>omega
 exact I1.fpOk hb' (I1.hok.fresh hb')
end
open PySem.Builtin PySem.Builtin.Str
section
variable{P:kW}{w:kq}{K:kF}{mg:Str->Option kC}{base:Heap}{N:List Str}{qual:Str}{scope:Scope}{f:Addr}{cd:kC}{A:pI}{outer:List Env}{s₀:kE}{H₀:Hp}{E:XK}
theorem pass_cx:Passes (CXr P w) (ym (CXr P w) P w K mg base N qual scope f cd A outer s₀ H₀ E) E:=by
 intro pins σ H s e s' I hx;obtain⟨ea,cls,H',rfl,hos,hbare,F,hE⟩:=hx;obtain⟨un,new,B,a0,fl,hok,hb1,hb2⟩:=F;have old:∀b o,s₀.heap.get? b=some o->b∉frs outer->b∉frs (QL qual scope s₀.heap.objs.size f cd::outer):=λb o q n z=>by
  rcases kX.mp (I.stkSub b z) with r|r
  ·exact absurd (kR q) (by rw[r];exact DH.mpr I.ok.above)
  ·exact n r
 have xn:∀b,b∉(ym (CXr P w) P w K mg base N qual scope f cd A outer s₀ H₀ E).ex:=λb z=>absurd (show b∈([]:List Addr) from z) (by simp)
 have data:∀b o,s.heap.get? b=some o->b∈frs outer->∀ws,o.data≠.fields ws:=λb o q z=>by
  obtain⟨_,o',q',d⟩:=I.funs.mem z;rw[q] at q';cases q';exact d
 have inn:∀b,b∈frs outer->b∈frs (QL qual scope s₀.heap.objs.size f cd::outer):=λb hb=>by
  obtain⟨v,hv,r⟩:=Uc.mp hb;exact Uc.mpr ⟨v,pG _ hv,r⟩
 have free0:∀b,b∈frs outer->H b=none:=λb hb=>I.stkFree b (inn b hb);have slot:∀b o g,s.heap.get? b=some o->b∈frs outer->s'.heap.UpToSlots g->∃sl,g.get? b=some {o with slots:=sl}:=λb o g q hb up=>by
  obtain⟨sl,q1⟩:=un.slot b o q (free0 b hb) (inn b hb) (by simp)
  obtain⟨sl',q2⟩:=up b _ q1 (data b o q hb);exact⟨sl',q2⟩
 refine wpAny_leaves_onW (base:=B) I.ok.frames rfl fl λg x1 up=>?_;refine⟨ea,cls,H',rfl,hos.trans I.os,hbare,⟨⟨λb o q n hb _=>?_,λb o q n hb _=>?_,λb o q n _=>?_,λb o q _=>?_,λb xs q=>un.tups b xs (I.base.tups b xs q),λb o u q=>un.frzs b o u (I.base.frzs b o u q),λb ps q=>?_⟩,?_,B,a0,x1,hok,λb o q n hb=>?_,λb o q hb=>?_⟩,hE⟩
 ·exact x1.1 b o (hb1 b o (I.base.keep b o q n hb (xn b)) (I.base.free b o q n (xn b)) (old b o q hb))
 ·obtain⟨sl,q1⟩:=I.base.slot b o q n hb (xn b);obtain⟨sl2,q2⟩:=slot b _ g q1 hb up;exact⟨sl2,q2⟩
 ·by_cases hb:b∈frs outer
  ·obtain⟨sl,q1⟩:=I.base.slot b o q n hb (xn b);exact un.free b _ q1 (free0 b hb) (by simp)
  ·exact un.free b o (I.base.keep b o q n hb (xn b)) (I.base.free b o q n (xn b)) (by simp)
 ·obtain⟨o',q1⟩:=I.base.there b o q (xn b)
  by_cases hb:b∈frs outer
  ·obtain⟨sl,q2⟩:=slot b o' g q1 hb up;exact⟨_,q2⟩
  ·obtain⟨o2,q2⟩:=hb2 b o' q1 (old b o q hb);exact⟨o2,x1.1 b o2 q2⟩
 ·obtain⟨more,q1⟩:=I.base.tbls b ps q;obtain⟨more2,q2⟩:=un.tbls b _ q1;exact⟨more++more2,by rw[q2];simp⟩
 ·cases q:s₀.heap.get? ea with
  |none=>rfl
  |some o=>
   obtain⟨o',q1⟩:=I.base.there ea o q (xn ea);rw[new] at q1;cases q1
 ·exact hb1 b o (I.base.keep b o q n hb (xn b)) (I.base.free b o q n (xn b)) (old b o q hb)
 ·obtain⟨o',q1⟩:=I.base.there b o q (xn b);exact hb2 b o' q1 (old b o q hb)
end
open PySem.W (KasT kas_asc kas_desc kas_rev kas_tail3 kas_descPart kas_count kas_place kas_bin kas_sort kas_ask kas_item)
def ansT{α:Type}(ans:Nat->Nat->Bool):KasT α->α
 |.ret a=>a
 |.ask i j k=>ansT ans (k (ans i j))
def ye{α:Type}(n:Nat)(R:α->Prop):KasT α->Prop
 |.ret a=>R a
 |.ask i j k=>i<n/\j<n/\∀b,ye n R (k b)
theorem ye.bind{α β:Type}{n:Nat}{R:α->Prop}{S:β->Prop}{f:α->KasT β}:∀{t:KasT α},ye n R t->(∀a,R a->ye n S (f a))->ye n S (t.bind f)
 |.ret a,h,k=>k a h
 |.ask i j g,h,k=>⟨h.1,h.2.1,λb=>ye.bind (h.2.2 b) k⟩
theorem ye.ends{α:Type}{n:Nat}{R:α->Prop}{ans:Nat->Nat->Bool}:∀{t:KasT α},ye n R t->R (ansT ans t)
 |.ret _,h=>h
 |.ask i j g,h=>ye.ends (n:=n) (t:=g (ans i j)) (h.2.2 (ans i j))
theorem ye.wp{α:Type}{n:Nat}{R:α->Prop}{ans:Nat->Nat->Bool}{cmp:Nat->Nat->(Bool->kE->Prop)->kE->Prop}{s:kE}{Q:α->kE->Prop}(hc:∀i j C,i<n->j<n->C (ans i j) s->cmp i j C s):
  ∀{t:KasT α},ye n R t->Q (ansT ans t) s->t.kasWp cmp Q s
 |.ret _,_,q=>q
 |.ask i j g,h,q=>hc i j _ h.1 h.2.1 (ye.wp (n:=n) (t:=g (ans i j)) hc (h.2.2 (ans i j)) q)
def Ord(n:Nat)(p:Array Nat):Prop:=p.toList.Perm (pe n)
def Ord.get{n:Nat}{p:Array Nat}(h:Ord n p)(hn:0<n)(i:Nat):p.getD i 0<n:=by
 by_cases hi:i<p.size
 ·have e:p.getD i 0=p[i]:=by simp[Er,hi]
  rw[e];exact UV.mp (h.mem_iff.mp (by simp))
 ·have e:p.getD i 0=0:=by simp[Er,hi]
  rw[e];exact hn
def Ord.of{n:Nat}{p q:Array Nat}(h:Ord n p)(e:q.Perm p):Ord n q:=(Array.perm_iff_toList_perm.mp e).trans h
def Ord.rev{n:Nat}{p:Array Nat}(h:Ord n p)(i j:Nat):Ord n (kas_rev p i j):=h.of (mirror_perm _ _ _ _)
theorem Yt{n:Nat}{p:Array Nat}(h:Ord n p)(hn:0<n):∀(f m:Nat),ye n (λ_=>True) (kas_asc p f m)
 |0,_=>trivial
 |f+1,m=>⟨h.get hn _,h.get hn _,λb=>by
  cases b with
  |true=>dsimp only;rw[if_pos rfl];trivial
  |false=>dsimp only;rw[if_neg (by decide)];exact Yt h hn f (m+1)⟩
theorem qA{n:Nat}(hn:0<n):∀(f:Nat){p:Array Nat}(m q:Nat),Ord n p->ye n (λr=>Ord n r.1) (kas_desc f p m q)
 |0,_,_,_,h=>h
 |f+1,p,m,q,h=>⟨h.get hn _,h.get hn _,λb=>by
  cases b with
  |true=>
   dsimp only;rw[if_pos rfl]
   by_cases z:q>0
   ·rw[if_pos z];exact qA hn f _ _ (h.rev _ _)
   ·rw[if_neg z];exact qA hn f _ _ h
  |false=>
   dsimp only;rw[if_neg (by decide)]
   refine⟨h.get hn _,h.get hn _,λd=>?_⟩
   cases d with
   |true=>dsimp only;rw[if_pos rfl];exact h
   |false=>dsimp only;rw[if_neg (by decide)];exact qA hn f _ _ h⟩
def Za{n a b:Nat}{p:Array Nat}(hn:0<n)(h:Ord n p):ye n (λr=>Ord n r.2) (kas_tail3 a b p):=
 ye.bind (Yt (h.rev _ _) hn _ _) λ_ _=>h.rev _ _
def ZV{n a b:Nat}{p:Array Nat}(hn:0<n)(h:Ord n p):ye n (λr=>Ord n r.2) (kas_descPart a b p):=
 ye.bind (qA hn _ _ _ h) λr hr=>by
  by_cases z:r.2.2>0
  ·rw[if_pos z];exact Za hn (hr.rev _ _)
  ·rw[if_neg z];exact Za hn hr
theorem Vj{n b:Nat}{p:Array Nat}(hn:0<n)(h:Ord n p):ye n (λr=>Ord n r.2) (kas_count b p):=
 ye.bind (Yt h hn _ _) λm _=>by
  by_cases z:(m==b)=true
  ·rw[if_pos z];exact h
  ·rw[if_neg z]
   by_cases y:m>1
   ·rw[if_pos y];refine⟨h.get hn _,h.get hn _,λc=>?_⟩
    cases c with
    |true=>dsimp only;rw[if_pos rfl];exact h
    |false=>dsimp only;rw[if_neg (by decide)];exact ZV hn (h.rev _ _)
   ·rw[if_neg y];exact ZV hn h
theorem XJ{n:Nat}{p:Array Nat}(hn:0<n)(h:Ord n p)(k:Nat):∀(f l r:Nat),ye n (λ_=>True) (kas_place p k f l r)
 |0,_,_=>trivial
 |f+1,l,r=>by
  unfold kas_place
  by_cases z:l≥r
  ·rw[if_pos z];trivial
  ·rw[if_neg z];refine⟨h.get hn _,h.get hn _,λc=>?_⟩
   cases c with
   |true=>dsimp only;rw[if_pos rfl];exact XJ hn h k f _ _
   |false=>dsimp only;rw[if_neg (by decide)];exact XJ hn h k f _ _
theorem JH{n:Nat}(hn:0<n):∀(f:Nat){p:Array Nat}(k:Nat),Ord n p->ye n (Ord n) (kas_bin f p k)
 |0,_,_,h=>h
 |f+1,p,k,h=>ye.bind (XJ hn h k _ _ _) λl _=>JH hn f (k+1) (h.of (bubble_perm _ _ _))
def ZD{n:Nat}(hn:0<n):ye n (Ord n) (kas_sort n):=
 ye.bind (Vj hn (by unfold Ord;simp)) λr hr=>by
  by_cases z:r.1<n
  ·rw[if_pos z];exact JH hn _ _ hr
  ·rw[if_neg z];exact hr
def Keeps(g h:Heap):Prop:=∀b o,g.get? b=some o->h.get? b=some o
def Keeps.push{g h:Heap}(k:Keeps g h)(o:Obj):Keeps g (h.push o):=λb x e=>kG _ (k b x e)
def Keeps.upd{g h:Heap}{a:Addr}{f:Obj->Obj}(k:Keeps g h)(ha:g.objs.size<=a):Keeps g (h.update a f):=λb x e=>by
 rw[pj _ _ _ _ (kc (ka (kR e) ha))];exact k b x e
def zbe(vs:List kC):((pe vs.length).map λi=>vs.getD i pN)=vs:=by
 refine Dz (by simp) λi h1 h2=>?_
 have hi:i<vs.length:=h2
 simp[hi]
open PySem.W (KasT kas_sort kas_ask)
section
open PySem.SeqAt
open PySem.AutoSeq1 (wpAny_loadPart')
open PySem.MeetsSeq PySem.MeetsSeq2 PySem.MeetsSeq3
def ltRc{A:pI}{s:kE}{a c:Int}{t u:Tok}(prog:kW)(w:kq)(E:kC->kE->Prop)(Q:kC->kE->Prop)(h:Q (.bool (decide (a<c))) s):wpAny (model prog w) A (CQ .Lt (.int a t) (.int c u)) Q E s:=
 (Cn h:wpAny (model prog w) A (ug .Lt (.int a t) (.int c u)) Q E s)
theorem tupleLt(l b:Addr)(items items2:Array kC)(n n2:Nat)(dd dd2:Option Addr)(sl sl2:Array (Option kC))(ns ms:List Int)(hlen:ns.length=ms.length)(hi:UD items.toList ns)(hj:UD items2.toList ms):
  Meets (Qe.«tuple.__lt__» ⟨[.ref l,.ref b],[]⟩)
   (λ_ R s=>s.heap.get? l=some {cls:=.type "tuple",dict:=dd,data:=.seq items n,slots:=sl}/\s.heap.get? b=some {cls:=.type "tuple",dict:=dd2,data:=.seq items2 n2,slots:=sl2}/\R (.ok (.ret (.bool (HT.lexLt ns ms)))) s):=
 .of_wp λprog w A R s h=>by
  obtain⟨hp,g,d,tk,os⟩:=s;obtain⟨hl,hb,h⟩:=h;have f2:=BJ;have z1:items.size=ns.length:=by rw[←hi.length];simp
  have z2:items2.size=ms.length:=by rw[←hj.length];simp
  wp_walk using QU hl,QU hb,UW _ (λrest b s'=>b.1=none/\s'=⟨hp,g,d,tk,os⟩/\∃(vs ws:List kC)(ns' ms':List Int),rest=vs.zip ws/\UD vs ns'/\UD ws ms'/\ns'.length=ms'.length/\R (.ok (.ret (.bool (HT.lexLt ns' ms')))) ⟨hp,g,d,tk,os⟩) _
  case turn=>
   rintro⟨y,x⟩ rest b s' ⟨hb',rfl,vs,ws,ns',ms',hz,hvi,hwi,hln,hR⟩
   cases hvi with
   |nil=>rw[BC] at hz;cases hz
   |cons a t hv=>
    cases hwi with
    |nil=>rw[Ar] at hz;cases hz
    |cons c u hw=>
     rw[uc] at hz
     injection hz with q1 q2
     injection q1 with q3 q4
     subst q3 q4;rw[HT.lexLt_cons] at hR;simp only[pH] at hln;obtain⟨e,he,hiff⟩:=HT.eqAt_int A.in1 ⟨hp,g,d,tk,os⟩ a t c u;refine kB (he prog w _ _ ?_)
     cases e with
     |true=>
      rw[if_pos (hiff.mp rfl)] at hR
      wp_walk
      exact⟨rfl,rfl,_,_,_,_,q2,hv,hw,by omega,hR⟩
     |false=>
      rw[if_neg (λq=>absurd (hiff.mpr q) kZ)] at hR;have hri:=ltRc (A:=A.in1) (s:=⟨hp,g,d,tk,os⟩) (a:=a) (c:=c) (t:=t) (u:=u) prog w
      wp_walk using hri
      exact⟨_,rfl,by simpa using hR⟩
  case fin=>
   rintro⟨b1,b2⟩ s' ⟨hb',rfl,vs,ws,ns',ms',hz,hvi,hwi,hln,hR⟩
   simp only at hb'
   subst hb';have hv:HT.lexLt ns' ms'=decide (items.size<items2.size):=by
    rw[decide_eq_false (by omega)]
    cases hvi with
    |nil=>
     cases hwi with
     |nil=>rfl
     |cons c u hw=>cases hln
    |cons a t hv=>
     cases hwi with
     |nil=>cases hln
     |cons c u hw=>rw[uc] at hz;cases hz
   rw[hv] at hR
   wp_walk
   exact⟨_,rfl,by simpa[AA] using hR⟩
  case h=>
   exact⟨rfl,rfl,items.toList,items2.toList,ns,ms,rfl,hi,hj,hlen,h⟩
end
def yc(h:Heap)(v:kC)(ns:List Int):Prop:=∃(a:Addr)(its:Array kC)(n:Nat)(dd:Option Addr)(sl:Array (Option kC)),v=.ref a/\h.get? a=some {cls:=.type "tuple",dict:=dd,data:=.seq its n,slots:=sl}/\UD its.toList ns
def TupP(h:Heap)(v:kC)(ns ms:List Int):Prop:=∃(a:Addr)(x y:kC)(n:Nat)(dd:Option Addr)(sl:Array (Option kC)),v=.ref a/\h.get? a=some {cls:=.type "tuple",dict:=dd,data:=.seq #[x,y] n,slots:=sl}/\yc h x ns/\yc h y ms
theorem ZQ{h:Heap}:∀{us:List kC}{ns:List Int},UD us ns->∃as,ReadsAll h us (ns.map Uf) as
 |_,_,.nil=>⟨_,.nil⟩
 |_,_,.cons n t r=>let⟨_,q⟩:=ZQ r;⟨_,.cons (.int n t) q⟩
variable{ns:List Int}
def yc.reads{h:Heap}{v:kC}(t:yc h v ns):∃as,Reads h v (.tuple (ns.map Uf)) as:=by
 obtain⟨a,its,n,dd,sl,rfl,o,i⟩:=t;obtain⟨as,r⟩:=ZQ (h:=h) i;exact⟨_,reads_tuple_at o rfl rfl (by simpa using r)⟩
theorem Ji:∀ns:List Int,uJ (ns.map Uf)=true
 |[]=>rfl
 |n::ns=>by simp only[kY,uJ,Ji ns,CS,Bool.and_self]
def W1(ns:List Int):CS (.tuple (ns.map Uf))=true:=by
 simp only[CS,Ji ns]
theorem Jp:∀ns:List Int,Qm (ns.map Uf)<=1
 |[]=>by simp[Qm]
 |n::ns=>by
  have:=Jp ns;simp only[kY,Qm,gj];omega
theorem ZO:∀{ns ms:List Int},FB (ns.map Uf) (ms.map Uf)=decide (ns=ms)
 |[],[]=>rfl
 |[],m::ms=>rfl
 |n::ns,[]=>rfl
 |n::ns,m::ms=>by
  simp only[kY,FB,QE,ZO]
  by_cases h1:n=m<;>by_cases h2:ns=ms<;>simp[h1,h2]
section
variable{prog:kW}{w:kq}{A:pI}{E:kC->kE->Prop}{s:kE}{C:Bool->kE->Prop}
theorem eq_tupI{x y:kC}{ms:List Int}(hx:yc s.heap x ns)(hy:yc s.heap y ms)(hu:A.units+64<cLine)(q:C (decide (ns=ms)) s):wpAny (model prog w) A (eqBool x y) C E s:=by
 obtain⟨as,ra⟩:=hx.reads;obtain⟨bs,rb⟩:=hy.reads;refine As prog w A E s x y _ _ as bs C ra rb (W1 ns) (W1 ms) ?_ ?_
 ·have:=Jp ns;have:(DY (ns.map Uf)).depth<=2:=by simp only[gj];omega
  have:=EW (DY (ns.map Uf)).depth (DY (ms.map Uf)).depth;omega
 ·simp only[QE];rw[ZO];exact q
end
open PySem.W (KatTups) in
theorem ktups{h:Heap}:∀vs:List kC,(∀v,v∈vs->∃a b,a≠[]/\TupP h v a b)->∃fs,fs.length=vs.length/\KatTups h vs fs/\∀f,f∈fs->∃ns,yc h f ns
 |[],_=>⟨[],rfl,.nil,λf hf=>by cases hf⟩
 |v::vs,hv=>by
  obtain⟨fs,l,t,r⟩:=ktups vs λu hu=>hv u (pG _ hu);obtain⟨a,b,ne,p,x,y,n,dd,sl,rfl,o,i,j⟩:=hv v (pU ..);refine⟨x::fs,by simp[l],.cons o rfl rfl rfl t,λf hf=>?_⟩
  rcases kX.mp hf with rfl|hf
  ·exact⟨_,i⟩
  ·exact r f hf
theorem vH:∀{xs:List V}{us:List kC},zr xs us->∀i,i<xs.length->zt (xs.getD i .non) (us.getD i pN)
 |_,_,.nil,i,h=>by cases h
 |_,_,.cons r t,0,_=>r
 |_,_,.cons r t,i+1,h=>vH t i (Nat.lt_of_succ_lt_succ h)
theorem Xu{f:Nat->V}{g:Nat->kC}:∀l:List Nat,(∀i,i∈l->zt (f i) (g i))->zr (l.map f) (l.map g)
 |[],_=>.nil
 |i::l,h=>.cons (h i (pU ..)) (Xu l λj hj=>h j (pG _ hj))
section
variable{X:Cx}{pins:List (Addr×Obj)}{σ:St}{H:Hp}{s:kE}
def WW(I:Inv X pins σ H s){a:Addr}(h:H a=some (.tup (ns.map V.int))):yc s.heap (.ref a) ns:=by
 obtain⟨its,r,⟨⟨cls,dd,data,sl⟩,ho,hc,n,hd⟩,_⟩:=I.tuple (.of h)
 simp only at hc hd
 subst hc hd;exact⟨a,_,n,dd,sl,rfl,ho,jX r⟩
def qe:pp "sorted"=some (.builtin "sorted"):=by decide+kernel
theorem hu100{A:pI}{k:Nat}(hr:zD k A):A.units+100<cLine:=by have:=hr.un;omega
end
structure jH(ts:List Addr)(H:Hp):Prop where
 only:∀b,H b=none∨(∃o xs,H b=some (.frz o (.lst xs)))∨(b∈ts/\H b=some (.tbl #[]))
 tabs:∀b,b∈ts->H b=some (.tbl #[])
variable{fa:Addr}
theorem Z8{P:kW}{w:kq}{K:kF}{mg mb:Str->Option kC}{CX:CXT}{k:Nat}{a:Addr}{fd:pZ}{x:Str}{s₁:kE}{vs:List kC}{ts:List Addr}
  (KX:K.In s₁.heap)(hns:s₁.heap.Ns km mg)(hb:s₁.heap.Ns Bc mb)(hbb:∀x:Str,x≠"__name__"->mb x=pp x)(hlim:s₁.heap.NoLimit)(hg:s₁.gens=#[])
  (ha:s₁.heap.get? a=some {cls:=.type "list",data:=.seq vs.toArray})(hi:UD vs ns)(hl:ns.length<=sizeLine)(hr:zD k Cg)
  (hT:∀b,b∈ts->s₁.heap.get? b=some (CT #[])/\K.lookup b=none/\isCodeTable s₁.heap b)
  (hbm:∃bm ob,mg "__builtins__"=some (.ref bm)/\bm≠Bc/\s₁.heap.get? bm=some ob/\ob.cls=.type "module"/\ob.dict=some Bc/\ob.data=.plain)
  (F:∀base:Heap,K.In base->base.Ns km mg->(∀b,b∈ts->base.BuiltinsAt mg b)->zw P w K mg base CX k fa fd [x] sp) (hbind:∀(s:kE)(u:kC),Cf s fd ⟨[u],[]⟩ [(x,u)])
  (hsp:∀H:Hp,jH ts H->SqL K H a (ns.map V.int)->sp [.ref a] H (λv _=>v=.bl true) λ_ _ _=>False)
  (hCX:∀H e s',CX [] H s₁ (λ_ _ _=>False) e s'->False):
  UK (model P w) Cg (.call (.ref fa) ⟨[.ref a],[]⟩) (λr s'=>r=.ok (.ret (.bool true))/\OldK s₁.heap s'.heap/\s'.os=s₁.os/\AY s'.gens) s₁:=by
 have rv:=Wi hi;have lenV:=hi.length;have naT:a∉ts:=λz=>by
  have e:=(hT a z).1;rw[ha] at e
  cases e
 have core:∀H:Hp,jH ts H->SqL K H a (ns.map V.int)->HOk P w H s₁.heap->(∀b,H b≠none->b=a∨b∈ts)->(H a≠none->K.lookup a=none)->
   UK (model P w) Cg (.call (.ref fa) ⟨[.ref a],[]⟩) (λr s'=>r=.ok (.ret (.bool true))/\OldK s₁.heap s'.heap/\s'.os=s₁.os/\AY s'.gens) s₁:=by
  intro H hO hS hok hA hK;have base_of:∀{b:Addr}{o:Obj},s₁.heap.get? b=some o->H b=none->(x8 s₁.heap H).get? b=some o:=λe n=>zcq e n;have noD:∀{b:Addr}{o:Obj},s₁.heap.get? b=some o->o.cls≠.none->o.cls≠.type "list"->H b=none:=λ{b o} e d1 d2=>by
   cases q:H b with
   |none=>rfl
   |some u=>
    rcases hA b (by rw[q];simp) with e'|e'
    ·subst e';rw[ha] at e;cases e;exact absurd rfl d2
    ·rw[(hT b e').1] at e;cases e;exact absurd rfl d1
  have noA:∀{b:Addr}{o:Obj}{es:Array gX}{ep:Nat},s₁.heap.get? b=some o->o.data=.dict es ep->H b=none:=λ{b o es ep} e d=>by
   cases q:H b with
   |none=>rfl
   |some u=>
    rcases hA b (by rw[q];simp) with e'|e'
    ·subst e';rw[ha] at e;cases e;have d':FS vs.toArray _=Data.dict es ep:=d
     cases d'
    ·rw[(hT b e').1] at e;cases e;have d':EI #[]=Data.dict es ep:=d
     cases d'
  have nsK:∀{b:Addr}{m:Str->Option kC},s₁.heap.Ns b m->(x8 s₁.heap H).Ns b m:=λ{b m}⟨o,es,ep,e,d,r⟩=>⟨o,es,ep,base_of e (noA e d),d,r⟩;have hKb:K.In (x8 s₁.heap H):=λb o e=>base_of (KX b o e) (by
   cases q:H b with
   |none=>rfl
   |some u=>
    rcases hA b (by rw[q];simp) with e'|e'
    ·subst e';rw[hK (by rw[q];simp)] at e;cases e
    ·rw[(hT b e').2.1] at e;cases e)
  have hM:Mod K mg (x8 s₁.heap H):=⟨hKb,nsK hns,⟨mb,nsK hb,hbb⟩,let⟨mc,h1,h2⟩:=hlim;⟨mc,nsK h1,h2⟩⟩;have hB:∀b,b∈ts->(x8 s₁.heap H).BuiltinsAt mg b:=λb hb'=>by
   obtain⟨bm,ob,b1,b2,b3,b4,b5,b6⟩:=hbm;refine⟨bm,ob,b1,b2,λq=>?_,λq=>?_,base_of b3 (noD b3 (by rw[b4];simp) (by rw[b4];simp)),b4,b5,b6⟩
   ·obtain⟨o,es,ep,e,d,_⟩:=hns;rw[←q,b3] at e;cases e;rw[b6] at d;cases d
   ·rw[q,(hT b hb').1] at b3;cases b3;cases b4
  have e0:Env0 P w K mg (x8 s₁.heap H) Cg [] s₁ H:=⟨rfl,hM,λb o e=>of_hidT e,DP (zei _ _),trivial,λb hb=>absurd (show b∈([]:List Addr) from hb) (by simp),hok,.of_eq hg⟩
  refine Qs ((F _ hKb (nsK hns) hB).run Cg [] s₁ H ⟨[.ref a],[]⟩ [.ref a] [.ref a] _ _ hr e0 (hbind s₁ (.ref a)) (.cons rfl .nil) (hsp H hO hS)) λr s' h=>?_
  cases r with
  |error e=>exact(hCX H e s' h).elim
  |ok fl=>
   cases fl with
   |next=>exact uK h
   |brk=>exact uK h
   |cont=>exact uK h
   |ret u=>
    obtain⟨v,H',os,bare,un,hok',r',q⟩:=h;have q':v=.bl true:=q;subst q';obtain rfl:u=Ee true:=r';have at':∀b o,s₁.heap.get? b=some o->asItWas s₁.heap s'.heap b o:=λb o e=>by
     cases q:H b with
     |none=>exact .inl (un.keep b o e q (by intro z;exact absurd (show b∈([]:List Addr) from z) (by simp)) (by simp))
     |some u=>
      rcases hO.only b with z|⟨ob,xs,z⟩|⟨hbt,z⟩
      ·rw[q] at z;cases z
      ·have z2:=un.frzs b ob _ z;obtain⟨e1,_⟩:=hok b _ z;obtain⟨e2,_⟩:=hok' b _ z2;rw[e] at e1;cases e1;exact .inl e2
      ·obtain⟨more,z2⟩:=un.tbls b _ z;have e2:s'.heap.get? b=some {cls:=.none,data:=.fields (#[]++more)}:=hok' b _ z2;have e1:=(hT b hbt).1;rw[e] at e1;cases e1;exact .inr (.inl ⟨(hT b hbt).2.2,rfl,#[],more,rfl,e2⟩)
    exact⟨rfl,⟨at',λb o e=>un.there b o e (by simp)⟩,os,bare⟩
 cases hk:K.lookup a with
 |some o=>
  have e:=KX a o hk;rw[ha] at e
  cases e;refine core (λb=>if b∈ts then some (.tbl #[]) else none) ⟨λb=>?_,λb hb'=>if_pos hb'⟩ (.inr ⟨_,vs.toArray,_,hk,rfl,rfl,rfl,by rw[kh,lenV];exact hl,by simpa using rv⟩) (λb u z=>?_) (λb z=>?_) λz=>absurd (if_neg naT) z
  ·by_cases hbt:b∈ts
   ·exact .inr (.inr ⟨hbt,if_pos hbt⟩)
   ·exact .inl (if_neg hbt)
  ·by_cases hbt:b∈ts
   ·have z':=(if_pos hbt).symm.trans z
    cases z';exact(hT b hbt).1
   ·have z':=(if_neg hbt).symm.trans z
    cases z'
  ·by_cases hbt:b∈ts
   ·exact .inr hbt
   ·exact absurd (if_neg hbt) z
 |none=>
  refine core (λb=>if b=a then some (.frz {cls:=.type "list",data:=.seq vs.toArray} (.lst (ns.map V.int))) else if b∈ts then some (.tbl #[]) else none) ⟨λb=>?_,λb hb'=>?_⟩ (.inl (.inr ⟨{cls:=.type "list",data:=.seq vs.toArray},if_pos rfl⟩)) (λb u z=>?_) (λb z=>?_) λ_=>hk
  ·by_cases hb:b=a
   ·exact .inr (.inl ⟨_,_,if_pos hb⟩)
   ·by_cases hbt:b∈ts
    ·exact .inr (.inr ⟨hbt,(if_neg hb).trans (if_pos hbt)⟩)
    ·exact .inl ((if_neg hb).trans (if_neg hbt))
  ·have hb:¬b=a:=λz=>naT (z▸hb');exact(if_neg hb).trans (if_pos hb')
  ·by_cases hb:b=a
   ·have z':=(if_pos hb).symm.trans z
    cases z';subst hb;exact⟨ha,by rw[kL];exact hl,vs,_,rv,ha⟩
   ·by_cases hbt:b∈ts
    ·have z':=((if_neg hb).trans (if_pos hbt)).symm.trans z
     cases z';exact(hT b hbt).1
    ·have z':=((if_neg hb).trans (if_neg hbt)).symm.trans z
     cases z'
  ·by_cases hb:b=a
   ·exact .inl hb
   ·by_cases hbt:b∈ts
    ·exact .inr hbt
    ·exact absurd ((if_neg hb).trans (if_neg hbt)) z
open PySem.W (kla_fn kla_obj envX tabObj CodeHd)
structure jq(x y:Str)(sc:Scope):Prop where
 kind:sc.kind=.function
 co:sc.isCoroutine=false
 gen:sc.isGenerator=false
 par:sc.names.lookup x=some .local
 cap:sc.names.lookup y=some .free
 nocell:∀z,z∈sc.names->z.2≠.cell
 free:∀z,z∈sc.names->z.2=.free->z.1=y
def vZ(P:kW)(w:kq)(K:kF)(mg:Str->Option kC)(base:Heap)(x y:Str)(qual:Str)(sc:Scope)(f:Addr)(cd:kC)(c:Addr)(A:pI)(outer:List Env)(s:kE)(H:Hp):Cx where
 prog:=P
 w:=w
 K:=K
 mg:=mg
 base:=base
 A:=A.deeper (envX qual sc s.heap.objs.size f cd [(y,c)])
 N:=[x,y]
 s₀:=s
 H₀:=H
 env:=envX qual sc s.heap.objs.size f cd [(y,c)]
 outer:=outer
 stack:=envX qual sc s.heap.objs.size f cd [(y,c)]::outer
 ex:=[]
 calm:=true
 fn:=λ_=>false
 pn:=[]
 xe:=λ_ _=>False
variable{d:Addr}
def qf{y z:Str}{c:Addr}(h:([(y,c)]:List (Str×Addr)).lookup z=some d):z=y/\d=c:=by
 rw[pb] at h
 by_cases e:z=y
 ·subst e;rw[beq_self_eq_true] at h
  cases h;exact⟨rfl,rfl⟩
 ·rw[beq_eq_false_iff_ne.mpr e] at h
  cases h
def Jv(y:Str)(c:Addr):([(y,c)]:List (Str×Addr)).lookup y=some c:=by rw[pb,beq_self_eq_true]
theorem inv_lam{P:kW}{w:kq}{K:kF}{mg:Str->Option kC}{base:Heap}{x y qual:Str}{sc:Scope}{f c:Addr}{cd:kC}{A:pI}{outer:List Env}{s:kE}{H:Hp}{u uy:kC}{v vy:V}{h₁:Heap}{tk:Nat}
  (S:jq x y sc)(hd:A.handled=none)(e0:Env0 P w K mg base A outer s H)(ru:zt v u)(ry:zt vy uy)(hc:s.heap.IsCell c (some uy))(hcn:H c=none)
  (hns:h₁.Ns s.heap.objs.size (λz=>([(x,u)]:List (Str×kC)).reverse.lookup z))(hk:∀b o,s.heap.get? b=some o->h₁.get? b=some o):
  Inv (vZ P w K mg base x y qual sc f cd c A outer s H) [] [some v,some vy] H {s with heap:=h₁,toks:=tk}:=by
 have noA:∀b:Addr,b∉(vZ P w K mg base x y qual sc f cd c A outer s H).ex:=λb z=>absurd (show b∈([]:List Addr) from z) (by simp)
 refine⟨⟨e0.mod,S.kind,rfl,rfl,kN _,λy1 z1 d h1 h2=>?_,λz hz=>?_,λz d hf _=>?_,λ_=>hd,AJ e0.frames,.inr ⟨rfl,rfl⟩,λb z=>absurd z (noA b),e0.bs,e0.bsz,λb _ _=>noA b,λb z=>absurd z (noA b),e0.funs,e0.frf⟩,
  rfl,e0.bare,Un.kept hk,⟨_,hns,λi z v' h1 h2 h3=>?_⟩,λz d h=>?_,e0.hok.fresh (kN _),λz d h=>?_,λp hp=>absurd (show p∈([]:List (Addr×Obj)) from hp) (by simp),e0.hok.kept hk,rfl⟩
 ·exact(qf h1).1.trans (qf h2).1.symm
 ·have hz:sc.names.lookup z=some .cell∨sc.names.lookup z=some .free:=hz;rcases hz with hz|hz
  ·exact absurd rfl (S.nocell _ (uB hz))
  ·have e:=S.free _ (uB hz) rfl;have e:z=y:=e;subst e;exact⟨c,Jv _ _⟩
 ·cases hf
 ·match i,h1,h2 with
  |0,h1,h2=>
   cases h1
   cases h2;refine⟨u,ru,.inl ⟨S.par,?_⟩⟩;show([(x,u)]:List (Str×kC)).reverse.lookup x=some u
   simp
  |1,h1,h2=>
   cases h1
   cases h2;obtain⟨o,ho,hd'⟩:=hc;exact⟨uy,ry,.inr ⟨.inr S.cap,c,Jv _ _,o,hk _ _ ho,hd'⟩⟩
 ·obtain⟨_,rfl⟩:=qf h;obtain⟨o,ho,hd'⟩:=hc;exact⟨_,o,hk _ _ ho,hd'⟩
 ·obtain⟨_,rfl⟩:=qf h;exact hcn
variable{ctv:kC}
section
variable{X:Cx}{pins:List (Addr×Obj)}{σ:St}{H:Hp}{s:kE}
theorem lam_run{A:pI}{k:Nat}{x y name qual:Str}{params:Qy}{body:Expr}{sc:Scope}{c c':Addr}{pm u uy:kC}{v vy:V}{te:TE}{Q:VK}(I:Inv X pins σ H s)
  (e0:Env0 X.prog X.w X.K X.mg X.base A X.stack s H)(hr:zD k A)(S:jq x y sc)(ho:s.heap.get? fa=some (kla_obj name qual params body sc [(y,c)] pm c' ctv))(hcd:s.heap.CodeRec (.ref c') qual)
  (hb:QW (kla_fn name qual params body sc [(y,c)] pm (.ref c') ctv) ⟨[u],[]⟩=pure [(x,u)])(ru:zt v u)(ry:zt vy uy)(hc:s.heap.IsCell c (some uy))(hcn:H c=none)
  (hbody:PE (vZ X.prog X.w X.K X.mg X.base x y qual sc fa (.ref c') c A X.stack s H) body te)(q:te [some v,some vy] H Q):
  wpAny (model X.prog X.w) A (call (.ref fa) [u]) (EP X pins σ Q) (λ_ _=>False) s:=by
 refine gM (Qs (R:=CR CX0 X.stack X.prog X.w H s Q E0) ?_ λr s' hq=>?_)
 ·refine CU hr.depth ho rfl S.co S.gen rfl hcd ?_;rw[hb];refine kH (AN S.nocell (λz hz=>?_) (λh₁ hns hsb=>⟨I.nolimit.fresh _ hsb,?_⟩) S.kind)
  ·rw[kf] at hz;rw[hz];exact S.par
  ·show UK _ _ (.expr body (envX qual sc s.heap.objs.size fa (.ref c') [(y,c)])) _ _
   have kp:∀d u,s.heap.get? d=some u->h₁.get? d=some u:=λd u z=>hsb.extBut d u (kc (kR z)) (kG _ z);have J:=inv_lam (tk:=s.toks+1) (f:=fa) (qual:=qual) (cd:=.ref c') S hr.hd e0 ru ry hc hcn hns kp;refine CV (uT (hbody [] _ _ H Q J q) (λr s' hs=>?_) λe s' hs=>hs.elim);obtain⟨v',H',J',r',q'⟩:=hs;exact⟨v',H',J'.os,J'.bare,J'.base,J'.hok,r',q'⟩
 ·cases r with
  |error e=>exact hq.elim
  |ok fl=>
   cases fl with
   |ret u=>exact I.after hq
   |next=>exact uK hq
   |brk=>exact uK hq
   |cont=>exact uK hq
end
open PySem.W (kla_fn kla_obj envX tabObj CodeHd)
def yE(c:Addr)(q:Str):HO:=.ext λh=>h.CodeRec (.ref c) q
def xm(H:Hp)(P:Addr)(pos:Pos)(q:Str):Prop:=∃ps,H P=some (.tbl ps)/\TriplesOk ps.toList/\(codeAmong pos ps.toList=none∨∃c,codeAmong pos ps.toList=some (.ref c)/\H c=some (yE c q))
def vJ(P:Addr)(H H':Hp):Prop:=∀b o,b≠P->H b=some o->H' b=some o
def vJ.refl(P:Addr)(H:Hp):vJ P H H:=λ_ _ _ h=>h
def xm.same{H H':Hp}{P:Addr}{pos:Pos}{q:Str}(h:xm H P pos q)(g:Same H H'):xm H' P pos q:=by
 obtain⟨ps,e,t,z⟩:=h;refine⟨ps,g _ _ e,t,?_⟩;rcases z with z|⟨c,z,y⟩
 ·exact .inl z
 ·exact .inr ⟨c,z,g _ _ y⟩
section
variable{X:Cx}{pins:List (Addr×Obj)}{σ:St}{H:Hp}{s:kE}
def Wc{params:Qy}{body:Expr}{sc:Scope}{pos:Pos}{c0 P:Addr}{clos:List (Str×Addr)}{Q:kC->kE->Prop}(I:Inv X pins σ H s)(hcode:X.env.code=.ref c0)(C:CodeHd X.base c0 P)(hB:X.base.BuiltinsAt X.mg P)
  (hcl:gQ sc X.env=pure clos)(hdef:Au params X.env=([],[]))(ht:xm H P pos (X.env.qual++"<lambda>"))
  (q:∀(fa c':Addr)(ctv:kC)(H':Hp)(s':kE),Inv X pins σ H' s'->vJ P H H'->xm H' P pos (X.env.qual++"<lambda>")->s'.heap.get? fa=some (kla_obj "<lambda>" (X.env.qual++"<lambda>") params body sc clos ((X.mg "__name__").getD .none) c' ctv)->
   H' c'=some (yE c' (X.env.qual++"<lambda>"))->yS X pins H' fa->Q (.ref fa) s'):
  wpAny (model X.prog X.w) X.A (eval (.Lambda params body sc pos) X.env) Q X.xe s:=by
 obtain⟨ps,hP,tr,alt⟩:=ht;have hPh:s.heap.get? P=some (tabObj ps):=I.hok P _ hP;have kb:=I.bk;have hg:s.heap.Ns km X.mg:=I.ok.mod.glob.keeps kb;have Cs:=C.keeps kb;have Bs:s.heap.BuiltinsAt X.mg P:=by
  obtain⟨bm,o,b1,b2,b3,b4,b5,b6⟩:=hB;exact⟨bm,o,b1,b2,b3,b4,kb _ _ b5,b6⟩
 have neG:km≠P:=λz=>by
  obtain⟨o,es,ep,e,hd,_⟩:=hg;rw[z,hPh] at e;cases e;cases hd
 refine PySem.W.kla_eval hdef ?_;rcases alt with hn|⟨c',hf,hc'⟩
 ·refine PySem.W.kla_makeFunction hcl I.ok.glob hg hcode Cs hPh tr hn neG Bs λc' ctv h' tk hx hge hlt hrec htb=>?_;have neC:∀b u,H b=some u->b≠c':=λb u e z=>by
   rw[z,I.hok.fresh hge] at e;cases e
  have nP:∀b,H b=none->b≠P:=λb n z=>by rw[z,hP] at n;cases n
  have cP:c'≠P:=λz=>by rw[←z,I.hok.fresh hge] at hP;cases hP
  have keep:∀b o,b≠P->s.heap.get? b=some o->(h'.push (kla_obj "<lambda>" (X.env.qual++"<lambda>") params body sc clos ((X.mg "__name__").getD .none) c' ctv)).get? b=some o:=λb o n e=>kG _ (hx b o n e);have hP':=kG (kla_obj "<lambda>" (X.env.qual++"<lambda>") params body sc clos ((X.mg "__name__").getD .none) c' ctv) htb;have upP:∀b u,b≠P->H b=some u->upd (upd H P (.tbl (ps++#[QY pos.line,QY pos.col,.ref c']))) c' (yE c' (X.env.qual++"<lambda>")) b=some u:=λb u n e=>by rw[zp (neC b u e),zp n];exact e
  have up0:upd (upd H P (.tbl (ps++#[QY pos.line,QY pos.col,.ref c']))) c' (yE c' (X.env.qual++"<lambda>")) P=some (.tbl (ps++#[QY pos.line,QY pos.col,.ref c'])):=by rw[zp cP.symm,zM]
  have J:Inv X pins σ (upd (upd H P (.tbl (ps++#[QY pos.line,QY pos.col,.ref c']))) c' (yE c' (X.env.qual++"<lambda>"))) {s with heap:=h'.push (kla_obj "<lambda>" (X.env.qual++"<lambda>") params body sc clos ((X.mg "__name__").getD .none) c' ctv),toks:=tk}:=by
   refine I.step (g':=s.gens) (d':=s.drawn) (ch:=[]) (λ_ z=>nomatch z) (λb o _ _ _ e n=>keep b o (nP b n) e) (λb o _ _ _ e n=>⟨o.slots,keep b o (nP b n) e⟩) (λb o _ e n=>?_) (λb o _ e=>?_) (λb xs e=>?_) (λb o u e=>?_) (λb qs e=>?_) (λm hm=>?_) (λb u e=>?_) I.bare
   ·rw[zp (kc (ka (kR e) hge)),zp (nP b n)];exact n
   ·by_cases z:b=P
    ·exact⟨_,z▸hP'⟩
    ·exact⟨o,keep b o z e⟩
   ·exact upP b _ (λz=>by rw[z,hP] at e;cases e) e
   ·exact upP b _ (λz=>by rw[z,hP] at e;cases e) e
   ·by_cases z:b=P
    ·subst z;rw[hP] at e
     cases e;exact⟨_,up0⟩
    ·exact⟨#[],by rw[upP b _ z e];simp⟩
   ·obtain⟨o,es,ep,ho,r⟩:=hm;exact⟨o,es,ep,keep _ o (nP _ I.free) ho,r⟩
   ·by_cases z:b=c'
    ·subst z;rw[zM] at e
     cases e;have hr2:=hrec.push (kla_obj "<lambda>" (X.env.qual++"<lambda>") params body sc clos ((X.mg "__name__").getD .none) b ctv);obtain⟨c2,oc,vs,t,e2,hoc,hd,hv⟩:=id hr2
     cases e2;refine⟨hr2,⟨oc,hoc⟩,λh1 h2 ph k=>?_⟩;obtain⟨c3,oc3,vs3,t3,e3,hoc3,hd3,hv3⟩:=ph
     cases e3;exact⟨_,oc3,vs3,t3,rfl,k _ hoc3,hd3,hv3⟩
    ·rw[zp z] at e
     by_cases y:b=P
     ·subst y;rw[zM] at e
      cases e;exact hP'
     ·rw[zp y] at e;refine(I.hok b u e).stay (λd v hd hv=>keep d v ?_ hv) (λd hd=>?_) λd xs hd=>?_
      ·rcases hd with rfl|hd
       ·exact y
       ·intro z';rw[z',hP] at hd;cases hd
      ·exact upP d _ (λz'=>by rw[z',hP] at hd;cases hd) hd
      ·exact upP d _ (λz'=>by rw[z',hP] at hd;cases hd) hd
  refine q h'.objs.size c' ctv _ _ J (λb o n e=>upP b o n e) ⟨_,up0,?_,.inr ⟨c',?_,zM⟩⟩ (kQ _ rfl) zM ?_
  ·rw[UT];exact TriplesOk_snoc _ _ _ _ tr
  ·rw[UT];exact codeAmong_snoc _ tr hn
  ·have hsz:s.heap.objs.size<=h'.objs.size:=pd hge (ub hlt);have nf:upd (upd H P (.tbl (ps++#[QY pos.line,QY pos.col,.ref c']))) c' (yE c' (X.env.qual++"<lambda>")) h'.objs.size=none:=by
    rw[zp (gZ hlt),zp]
    ·exact I.hok.fresh hsz
    ·intro z;rw[←z,I.hok.fresh hsz] at hP
     cases hP
   exact I.fpOk hsz nf
 ·have hrec:s.heap.CodeRec (.ref c') (X.env.qual++"<lambda>"):=(I.hok c' _ hc').1;refine PySem.W.kla_makeFunctionHit hcl I.ok.glob hg hcode Cs hPh tr hf Bs λctv h' tk hk hsz=>?_;have J:Inv X pins σ H {s with heap:=h'.push {cls:=.type "function",data:=.func (kla_fn "<lambda>" (X.env.qual++"<lambda>") params body sc clos ((X.mg "__name__").getD .none) (.ref c') ctv)},toks:=tk}:=I.kept λb o e=>kG _ (hk b o e);exact q h'.objs.size c' ctv H _ J (.refl P H) ⟨ps,hP,tr,.inr ⟨c',hf,hc'⟩⟩ (kQ _ rfl) hc' (I.fpOk hsz (I.hok.fresh hsz))
end
open PySem.W (KasT kas_sort kas_ask kas_item)
section
variable{prog:kW}{w:kq}{A:pI}{E:kC->kE->Prop}{s:kE}{vs ks:List kC}{g:Heap}{a kS:Addr}{e e1:Nat}{f:kC}
def VJ(prog:kW)(w:kq)(A:pI)(a kS:Addr)(e1:Nat)(vs ks:List kC)(P:AE->kE->Prop)(s:kE):Prop:=
 s.heap.get? a=some (ko "list" #[] e1)/\∃(κ:BT)(ans:Nat->Nat->Bool),
  (2<=vs.length->∀Q':BT->kE->Prop,Q' κ s->wpAny (model prog w) A (Es ks.toArray) Q' (λ_ _=>False) s)/\
  (2<=vs.length->∀i j C,i<vs.length->j<vs.length->C (ans i j) s->kas_ask prog w A κ ks i j C s)/\
  ∀p:Array Nat,Ord vs.length p->(2<=vs.length->p=ansT ans (kas_sort vs.length))->P (.done (.ret .none)) {s with heap:=(s.heap.update kS (kj λ_=>(#[]:Array kC))).update a (kj λ_=>uk (p.toList.map λi=>vs.getD i pN))}
theorem WC{st:Et}{p:Array Nat}{P:AE->kE->Prop}(hs:(arrOf st).map (·.2)=uk (p.toList.map λi=>vs.getD i pN))(hf:failedOf st=none)(hz:p.size=vs.length)(h64:vs.length<64)(hkl:ks.length<64)(nak:a≠kS)
  (hk:s.heap.get? kS=some (ko "list" ks.toArray e))(ha:s.heap.get? a=some (ko "list" #[] e1))
  (q:P (.done (.ret .none)) {s with heap:=(s.heap.update kS (kj λ_=>(#[]:Array kC))).update a (kj λ_=>uk (p.toList.map λi=>vs.getD i pN))}):
  wpAny (model prog w) A (ksk_tail a false e1 (.ref kS) st) P E s:=by
 have ha2:(s.heap.update kS (kj λ_=>(#[]:Array kC))).get? a=some (ko "list" #[] e1):=by rw[pj _ _ _ _ nak];exact ha
 have hsz:(uk (p.toList.map λi=>vs.getD i pN)).size=vs.length:=by simp[hz]
 unfold ksk_tail;dsimp only;rw[hs];refine kB (BK hk rfl ?_ (by rw[kh,AI];omega) (uF _))
 refine kB (Ua ?_);refine kB (seqEpoch_at ha2 rfl ?_);refine kB (BK ha2 rfl ?_ (uF _) (by simp only[kr,if_false];rw[hsz,AI];omega))
 rw[hf];simp only[bne_self_eq_false,kr,if_false];exact kH q
theorem zd8{P:AE->kE->Prop}(hl:ks.length=vs.length)(h64:vs.length<64)(nak:a≠kS)(hk:s.heap.get? kS=some (ko "list" ks.toArray e))(h:VJ prog w A a kS e1 vs ks P s):
  wpAny (model prog w) A (ksk_end a false vs.toArray e1 (.ref kS) ks.toArray) P E s:=by
 obtain⟨ha,κ,ans,hkind,hask,q⟩:=h;have z0:vs.toArray.size=vs.length:=rfl;unfold ksk_end;dsimp only;simp only[kr,if_false]
 by_cases h2:vs.length<2
 ·rw[z0,if_pos h2,if_pos h2,pure_bind];rw[StateT.run_pure];refine kB (kH ?_);refine WC (p:=uk (pe vs.length)) ?_ rfl (by simp) h64 (by omega) nak hk ha (q _ (by unfold Ord;simp) λz=>absurd h2 (DH.mpr z))
  show(ks.toArray.zip vs.toArray).map (·.2)=_
  rw[show(uk (pe vs.length)).toList=pe vs.length from rfl,zbe]
  apply EA.mp
  simp[List.map_snd_zip,hl]
 ·have h2':2<=vs.length:=by omega
  rw[z0,if_neg h2,if_neg h2];refine kB (uT (hkind h2' (λκ' s'=>κ'=κ/\s'=s) ⟨rfl,rfl⟩) (λκ' s' hs=>?_) λ_ _ z=>z.elim);obtain⟨rfl,rfl⟩:=hs;have run:=ye.wp (R:=Ord vs.length) (Q:=λp s''=>s''=s'/\Ord vs.length p/\p=ansT ans (kas_sort vs.length)) (λi j C hi hj=>hask h2' i j C hi hj) (ZD (by omega)) ⟨rfl,ye.ends (ZD (by omega)),rfl⟩
  refine kB (uT (PySem.W.kat_run (E:=E) (ks:=ks) (vs:=vs) (Q:=λst s''=>∃p:Array Nat,p.size=vs.length/\arrOf st=p.map (kas_item (ks.toArray.zip vs.toArray))/\failedOf st=none/\s''=s'/\Ord vs.length p/\p=ansT ans (kas_sort vs.length)) hl h2' h64 (λp st s'' b1 b2 b3 b4=>⟨p,b1,b2,b3,b4⟩) run) ?_ λ_ _ z=>z);rintro⟨⟨⟩,st⟩ s'' ⟨p,hp,har,hf,rfl,or,ep⟩;exact WC (PySem.W.kat_snds hl har) hf hp h64 (by omega) nak hk ha (q p or λ_=>ep)
structure jn(prog:kW)(w:kq)(A:pI)(a kS:Addr)(e1:Nat)(f:kC)(vs:List kC)(P:AE->kE->Prop)(J:Nat->List kC->Nat->kE->Prop):Prop where
 store:∀i ks e s,J i ks e s->s.heap.get? kS=some (ko "list" ks.toArray e)/\ks.length=i
 turn:∀i x ks e s,vs[i]?=some x->J i ks e s->wpAny (model prog w) A (call f [x]) (λk s'=>s'.heap.get? kS=some (ko "list" ks.toArray e)/\
  ∀c,(s'.heap.update kS (kj (·.push k))).get? kS=some (ko "list" (ks++[k]).toArray c)->J (i+1) (ks++[k]) c {s' with heap:=s'.heap.update kS (kj (·.push k))}) (λ_ _=>False) s
 fin:∀ks e s,J vs.length ks e s->VJ prog w A a kS e1 vs ks P s
theorem JB{P:AE->kE->Prop}{J:Nat->List kC->Nat->kE->Prop}{body:kC->PUnit->Sem (ForInStep PUnit)}(R:jn prog w A a kS e1 f vs P J)
  (hb:∀i x ks e(s:kE),vs[i]?=some x->J i ks e s->wpAny (model prog w) A (body x ⟨⟩) (λr s'=>r=.yield ⟨⟩/\∃k c,J (i+1) (ks++[k]) c s') E s):
  ∀(r:List kC)(i:Nat)(ks:List kC)(e:Nat)(s:kE),i<=vs.length->vs.drop i=r->J i ks e s->wpAny (model prog w) A (forIn r PUnit.unit body) (λ_ s'=>∃ks e,J vs.length ks e s') E s
 |[],i,ks,e,s,hi,hr,h=>by
  rw[Ap];have e0:i=vs.length:=Nat.le_antisymm hi (CW.mp hr);subst e0;exact kH ⟨ks,e,h⟩
 |x::r,i,ks,e,s,hi,hr,h=>by
  rw[gJ];have hx:vs[i]?=some x:=by
   have z:=congrArg (λl=>l[0]?) hr
   simpa[List.getElem?_drop] using z
  have hr2:vs.drop (i+1)=r:=by
   have z:=congrArg (List.drop 1) hr
   simpa[List.drop_drop,FK] using z
  refine kB (uT (hb i x ks e s hx h) (λq s' hq=>?_) λ_ _ z=>z);obtain⟨rfl,k,c,h2⟩:=hq;exact JB R hb r (i+1) (ks++[k]) c s' (kM.mp hx).1 hr2 h2
variable{P:AE->kE->Prop}
theorem zad{J:Nat->List kC->Nat->kE->Prop}(R:jn prog w A a kS e1 f vs P J)(h64:vs.length<64)(nak:a≠kS)(h0:J 0 [] 0 s):
  wpAny (model prog w) A (ksk_rest a f false vs.toArray e1 (.ref kS)) P E s:=by
 unfold ksk_rest;refine kB (UP ?_);rw[List.forIn_toArray];refine kB (uT (JB R (λi x ks e s' hx hJ=>?_) vs 0 [] 0 s (uF _) Eu h0) (λ_ s' hd=>?_) λ_ _ z=>z)
 ·have hi:=(kM.mp hx).1;have hl:=(R.store i ks e s' hJ).2;refine kB (Qu (uT (R.turn i x ks e s' hx hJ) (λk s'' hk=>?_) λ_ _ hF=>hF.elim));obtain⟨hk1,hk2⟩:=hk;have pk:(uk ks).push k=uk (ks++[k]):=by rw[List.push_toArray]
  obtain⟨c2,hc2⟩:∃c2,(s''.heap.update kS (kj (·.push k))).get? kS=some (ko "list" (uk (ks++[k])) c2):=⟨_,by rw[←pk];exact Qn hk1 (·.push k)⟩
  try dsimp only
  refine kB (BK hk1 rfl ?_ (by rw[kh,AI];omega) (pd (DP (Array.size_push ..)) (by rw[kh,AI];omega)))
  exact kH ⟨rfl,k,c2,hk2 c2 hc2⟩
 ·obtain⟨ks,e,hJ⟩:=hd;obtain⟨hk,hl⟩:=R.store _ _ _ _ hJ
  try dsimp only
  refine kB (QS hk rfl ?_);exact zd8 hl h64 nak hk (R.fin ks e s' hJ)
def Zu{n:Nat}(hg:Keeps g s.heap)(ga:g.objs.size<=a)(ho:s.heap.get? a=some (ko "list" vs.toArray n))(h64:vs.length<64)
  (h:∀kS e1 h',Keeps g h'->a<kS->h'.get? a=some (ko "list" #[] e1)->h'.get? kS=some (ko "list" #[] 0)->∃J,jn prog w A a kS e1 f vs P J/\J 0 [] 0 {s with heap:=h'}):
  wpAny (model prog w) A (ksk_tree a f false) P E s:=by
 have zl:vs.length<=sizeLine:=pd (ub h64) (by decide)
 have k1:Keeps g (s.heap.update a (kj λ_=>(#[]:Array kC))):=hg.upd ga;obtain⟨c1,o1⟩:∃c1,(s.heap.update a (kj λ_=>(#[]:Array kC))).get? a=some (ko "list" #[] c1):=⟨_,Qn ho _⟩;have k3:=(k1.push (ko "tuple" vs.toArray 0)).push (ko "list" #[] 0);have o3:=kG (ko "list" #[] 0) (kG (ko "tuple" vs.toArray 0) o1);have lt:a<((s.heap.update a (kj λ_=>(#[]:Array kC))).push (ko "tuple" vs.toArray 0)).objs.size:=kR (kG _ o1);obtain⟨J,R,h0⟩:=h _ c1 _ k3 lt o3 (kQ _ rfl);unfold ksk_tree;refine kB (QS ho rfl (kB (BK ho rfl (kB (seqEpoch_at o1 rfl (kB (wpAny_newTuple (kB (AH (uq ?_) (uF _))) zl)))) zl (uF _))));exact zad (s:={s with heap:=((s.heap.update a (kj λ_=>(#[]:Array kC))).push (ko "tuple" vs.toArray 0)).push (ko "list" #[] 0)}) R h64 (kc lt) h0
def zdi{Q:kC->kE->Prop}(hl:s.heap.IsList l vs.toArray)(h64:vs.length<64)
  (h:∀D kS e1 h',D=s.heap.objs.size+1->Keeps s.heap h'->D<kS->h'.get? D=some (ko "list" #[] e1)->h'.get? kS=some (ko "list" #[] 0)->∃J,jn prog w A.in1.in1 D kS e1 (.ref fa) vs (λr s'=>r=.done (.ret .none)->Q (.ref D) s') J/\J 0 [] 0 {s with heap:=h'}):
  wpAny (model prog w) A (call (.builtin "sorted") [.ref l] [(kx "key",.ref fa)]) Q E s:=by
 have zl:vs.length<=sizeLine:=pd (ub h64) (by decide)
 have k0:Keeps s.heap s.heap:=λ_ _ e=>e;have k2:=((k0.push (ko "list" #[] 0)).upd (a:=s.heap.objs.size) (f:=kj (·++vs.toArray)) (kN _)).push (ko "list" vs.toArray 0);have z2:((s.heap.push (ko "list" #[] 0)).update s.heap.objs.size (kj (·++vs.toArray))).objs.size=s.heap.objs.size+1:=by
  rw[BU,Ev]
 have o2:(((s.heap.push (ko "list" #[] 0)).update s.heap.objs.size (kj (·++vs.toArray))).push (ko "list" vs.toArray 0)).get? (s.heap.objs.size+1)=some (ko "list" vs.toArray 0):=
  z2▸kQ _ rfl
 refine Bj kind_sorted plain_sorted entry_sorted (ksk_s1 _ _) ?_;unfold Qe.«sorted»;refine kB (m:=checkCount _ _ _ _) (kH (kB (collect_list hl (kB (AH ?_ zl)) zl)));rw[show(({s with heap:=(s.heap.push (ko "list" #[] 0)).update s.heap.objs.size (kj (·++vs.toArray))}:kE).heap.objs.size)=s.heap.objs.size+1 from z2];refine kB (uq (Co slot_list_sort ⟨_,o2,rfl⟩ EX ?body (ksk_l1 _ _)))
 case body=>
  show wpAny (model prog w) A.in1.in1 (Qe.«list.sort» ⟨[.ref (s.heap.objs.size+1)],[(kx "key",.ref fa)]⟩) _ _ _
  rw[ksk_t1];refine uT (Zu (s:={s with heap:=((s.heap.push (ko "list" #[] 0)).update s.heap.objs.size (kj (·++vs.toArray))).push (ko "list" vs.toArray 0)}) (P:=λr s'=>r=.done (.ret .none)/\(r=.done (.ret .none)->Q (.ref (s.heap.objs.size+1)) s')) k2 (Qh _) o2 h64 λkS e1 h' kk lt ha hk=>?_) (λr s' hq=>?_) λ_ _ z=>z
  ·obtain⟨J,R,h0⟩:=h _ kS e1 h' rfl kk lt ha hk;refine⟨J,⟨R.store,R.turn,λks e s' hJ=>?_⟩,h0⟩;obtain⟨f1,κ,ans,f2,f3,f4⟩:=R.fin ks e s' hJ;exact⟨f1,κ,ans,f2,f3,λp or ep=>⟨rfl,f4 p or ep⟩⟩
  ·obtain⟨rfl,hq⟩:=hq;exact⟨_,rfl,kH ⟨_,rfl,hq rfl⟩⟩
end
open PySem.W (kla_fn kla_obj envX tabObj CodeHd KasT kas_sort kas_ask)
def ltK(a b:Int×Int):Bool:=if a.1=b.1 then(if a.2=b.2 then false else decide (a.2<b.2)) else decide (a.1<b.1)
section
variable{prog:kW}{w:kq}{A:pI}{E:kC->kE->Prop}{s:kE}{C:Bool->kE->Prop}
theorem eq_ii{a b:Int}{t u:Tok}(hu:A.units+64<cLine)(q:C (decide (a=b)) s):wpAny (model prog w) A (eqBool (.int a t) (.int b u)) C E s:=by
 refine As prog w A E s _ _ (.int a) (.int b) _ _ C (.int a t) (.int b u) rfl rfl ?_ ?_
 ·have:gj (.int a)<=1:=by simp[gj]
  have:=EW (gj (.int a)) (gj (.int b));omega
 ·simp only[QE]
  by_cases h:a=b
  ·rw[decide_eq_true h] at q
   simpa[h] using q
  ·rw[decide_eq_false h] at q;have:(a==b)=false:=beq_eq_false_iff_ne.mpr h;rw[this];exact q
theorem zd6{x y:kC}{a b:Int×Int}(hx:yc s.heap x [a.1,a.2])(hy:yc s.heap y [b.1,b.2])(hu:A.units+64<cLine)(q:C (ltK a b) s):wpAny (model prog w) A (keyLt' (tuples' true) x y) C E s:=by
 obtain⟨p,its,n,dd,sl,rfl,o,i⟩:=hx;obtain⟨p',its',n',dd',sl',rfl,o',i'⟩:=hy;obtain⟨u1,u2,e,t1,t2⟩:∃u1 u2,its.toList=[u1,u2]/\(∃t,u1=.int a.1 t)/\∃t,u2=.int a.2 t:=by
  revert i
  generalize its.toList=l;intro i
  cases i with
  |cons k t r=>
   cases r with
   |cons k2 t2 r2=>
    cases r2;exact⟨_,_,rfl,⟨_,rfl⟩,⟨_,rfl⟩⟩
 obtain⟨u1',u2',e',t1',t2'⟩:∃u1 u2,its'.toList=[u1,u2]/\(∃t,u1=.int b.1 t)/\∃t,u2=.int b.2 t:=by
  revert i'
  generalize its'.toList=l;intro i
  cases i with
  |cons k t r=>
   cases r with
   |cons k2 t2 r2=>
    cases r2;exact⟨_,_,rfl,⟨_,rfl⟩,⟨_,rfl⟩⟩
 obtain⟨t1,rfl⟩:=t1;obtain⟨t2,rfl⟩:=t2;obtain⟨t1',rfl⟩:=t1';obtain⟨t2',rfl⟩:=t2';have z:its.size=2:=by rw[←US,e];rfl
 have z':its'.size=2:=by rw[←US,e'];rfl
 refine PySem.W.kat_lt o rfl o' rfl ?_;rw[e,e',z,z',decide_eq_false (by omega)]
 unfold ltK at q;refine EB (eq_ii hu ?_)
 by_cases c:a.1=b.1
 ·rw[if_pos c] at q;rw[decide_eq_true c];refine EY (EB (eq_ii hu ?_))
  by_cases c2:a.2=b.2
  ·rw[if_pos c2] at q;rw[decide_eq_true c2];exact EY (PySem.W.kat_nil q)
  ·rw[if_neg c2] at q;rw[decide_eq_false c2];exact Ew (PySem.W.kat_one _ _ (Cn q))
 ·rw[if_neg c] at q;rw[decide_eq_false c];exact Ew (oneLt_int q)
end
open PySem.W (KatTups) in
theorem Zm{h:Heap}:∀vs:List kC,(∀v,v∈vs->∃a:Int×Int,yc h v [a.1,a.2])->∃fs,fs.length=vs.length/\KatTups h vs fs/\∀f,f∈fs->∃n t,f=.int n t
 |[],_=>⟨[],rfl,.nil,λf hf=>by cases hf⟩
 |v::vs,hv=>by
  obtain⟨fs,l,t,r⟩:=Zm vs λu hu=>hv u (pG _ hu);obtain⟨a,p,its,n,dd,sl,rfl,o,i⟩:=hv v (pU ..);obtain⟨u1,t1,e⟩:∃u1 t,its[0]?=some u1/\u1=.int a.1 t:=by
   rw[←uR]
   revert i
   generalize its.toList=l;intro i
   cases i with
   |cons k t r=>exact⟨_,t,rfl,rfl⟩
  refine⟨u1::fs,by simp[l],.cons o rfl rfl e.1 t,λf hf=>?_⟩
  rcases kX.mp hf with rfl|hf
  ·exact⟨_,t1,e.2⟩
  ·exact r f hf
theorem zbn{M:Model}{A:pI}{E:kC->kE->Prop}{s:kE}{vs:List kC}{Q:BT->kE->Prop}(hn:0<vs.length)(hv:∀v,v∈vs->∃a:Int×Int,yc s.heap v [a.1,a.2])(q:Q (tuples' true) s):wpAny M A (Es vs.toArray) Q E s:=by
 obtain⟨fs,l,t,r⟩:=Zm vs hv;refine PySem.W.kat_kind (T:=.type "int") t (by omega) (λf hf=>?_) (by decide) ?_
 ·obtain⟨n,t,rfl⟩:=r f hf;exact .now
 ·rw[show(uj "int"!=uj "tuple")=true from by decide]
  exact q
variable{xs:List V}
section
variable{X:Cx}{pins:List (Addr×Obj)}{σ:St}{H:Hp}{s:kE}
def Inv.track{D:Addr}{its:List kC}{n:Nat}(I:Inv X pins σ H s)(hf:yS X pins H D)(k:∀b o,b≠D->s.heap.get? b=some o->h'.get? b=some o)
  (hz:xs.length<=sizeLine)(r:zr xs its)(ho:h'.get? D=some {cls:=.type "list",data:=.seq its.toArray n}):Inv X pins σ (upd H D (.lst xs)) {s with heap:=h',toks:=t'}:=by
 obtain⟨f0,f1,f2,f3,f4,f5⟩:=hf;have nD:∀b u,H b=some u->b≠D:=λb u e z=>by rw[z,f0] at e;cases e
 refine I.step (g':=s.gens) (d':=s.drawn) (ch:=[D]) (λb hb=>?_) (λb o _ _ hc e _=>k b o (λz=>hc (by simp[z])) e) (λb o _ _ hc e _=>⟨o.slots,k b o (λz=>hc (by simp[z])) e⟩) (λb o hc _ n=>by rw[zp λz=>hc (by simp[z])];exact n)
  (λb o hc e=>⟨o,k b o (λz=>hc (by simp[z])) e⟩) (λb xs e=>by rw[zp (nD b _ e)];exact e) (λb o u e=>by rw[zp (nD b _ e)];exact e) (λb ps e=>⟨#[],by rw[zp (nD b _ e),e];simp⟩) (λm hm=>?_) (λb u e=>?_) I.bare
 ·have e:b=D:=by simpa using hb
  subst e;exact⟨f3,f1,f4,f5⟩
 ·obtain⟨o,es,ep,ho,r⟩:=hm;exact⟨o,es,ep,k _ o f1.symm ho,r⟩
 ·by_cases z:b=D
  ·subst z;rw[zM] at e
   cases e;exact⟨hz,its,n,r,ho⟩
  ·rw[zp z] at e;refine(I.hok b u e).stay (λc v hc q=>k c v ?_ q) (λc q=>by rw[zp (nD c _ q)];exact q) λc xs q=>by rw[zp (nD c _ q)];exact q
   rcases hc with rfl|hc
   ·exact z
   ·exact nD c _ hc
def WO{y:Str}{c:Addr}{i:Nat}{vy:V}(I:Inv X pins σ H s)(hN:X.N[i]?=some y)(hσ:σ[i]?=some (some vy))(hk:X.env.scope.names.lookup y=some .cell)(hc:X.env.cells.lookup y=some c):∃u,zt vy u/\s.heap.IsCell c (some u):=by
 obtain⟨m,hn,hl⟩:=I.loc;obtain⟨u,r,l⟩:=hl i y vy hN hσ (.inr (.inl hk));refine⟨u,r,?_⟩;rcases l with⟨l,_⟩|⟨_,c',e,z⟩
 ·have l:X.env.scope.names.lookup y=some .local:=l;rw[hk] at l
  cases l
 ·rw[hc] at e
  cases e;exact z
end
open PySem.W (kla_fn kla_obj envX tabObj CodeHd KasT kas_sort kas_ask)
def KOk(H:Hp)(zs:List V)(kp:Nat->Int×Int):Prop:=∀i,i<zs.length->∃q,zs[i]?=some (.ref q)/\H q=some (.tup [.int (kp i).1,.int (kp i).2])
abbrev KPT:=Hp->List V->(Nat->Nat->Bool)->Prop
def wn(X:Cx)(KP:KPT):Prop:=∀(pins:List (Addr×Obj))(σ:St)(H:Hp)(s:kE)(zs:List V)(ks:List kC)(ans:Nat->Nat->Bool),Inv X pins σ H s->zr zs ks->KP H zs ans->∃κ:BT,
 (2<=ks.length->∀Q':BT->kE->Prop,Q' κ s->wpAny (model X.prog X.w) X.A.in1.in1 (Es ks.toArray) Q' (λ_ _=>False) s)/\(2<=ks.length->∀i j C,i<ks.length->j<ks.length->C (ans i j) s->kas_ask X.prog X.w X.A.in1.in1 κ ks i j C s)
def KPp:KPT:=λH zs ans=>∃kp,KOk H zs kp/\ans=λi j=>ltK (kp i) (kp j)
structure KeyR(KP:KPT)(te:TE)(vy:V)(c':Addr)(q:Str)(vs:List V)(H:Hp)(Q:VK)(Pv:Nat->List V->Hp->Prop):Prop where
 start:Pv 0 [] H
 code:∀i zs H',Pv i zs H'->H' c'=some (yE c' q)
 len:∀i zs H',Pv i zs H'->zs.length=i
 turn:∀i zs H' v,vs[i]?=some v->Pv i zs H'->te [some v,some vy] H' λk H''=>Pv (i+1) (zs++[k]) H''
 fin:∀zs H',Pv vs.length zs H'->∃ans,KP H' zs ans/\∀D p,H' D=none->Ord vs.length p->(2<=vs.length->p=ansT ans (kas_sort vs.length))->Q (.ref D) (upd H' D (.lst (p.toList.map λi=>vs.getD i .non)))
section
variable{X:Cx}{pins:List (Addr×Obj)}{σ:St}{H:Hp}{s:kE}
def vals_get?{us:List kC}(r:zr xs us){i:Nat}{u:kC}(h:us[i]?=some u):∃v,xs[i]?=some v/\zt v u:=by
 have hi:i<us.length:=(kM.mp h).1;have hx:i<xs.length:=by rw[r.length];exact hi
 refine⟨xs[i],kK hx,?_⟩;have z:=vH r i hx;have e1:xs.getD i .non=xs[i]:=by simp[hx]
 have e2:us.getD i pN=u:=by rw[pB,h];rfl
 rw[e1,e2] at z;exact z
theorem qH:∀{xs:List V}{us:List kC}{v:V}{u:kC},zr xs us->zt v u->zr (xs++[v]) (us++[u])
 |_,_,_,_,.nil,r=>.cons r .nil
 |_,_,_,_,.cons a t,r=>.cons a (qH t r)
theorem zb1(hu:X.A.units+66<cLine):wn X KPp:=by
 intro pins σ H s zs ks ans I r h;obtain⟨kp,ok,rfl⟩:=h;have len:=r.length;have tup:∀i,i<ks.length->yc s.heap (ks.getD i pN) [(kp i).1,(kp i).2]:=λi hi=>by
  obtain⟨a,ea,ha⟩:=ok i (by omega)
  have z:=vH r i (by omega)
  rw[pB,ea] at z;have z:zt (.ref a) (ks.getD i pN):=z
  have e:ks.getD i pN=.ref a:=by cases h:ks.getD i pN<;>rw[h] at z<;>first|(cases z;rfl)|cases z
  rw[e];exact WW I (ns:=[(kp i).1,(kp i).2]) ha
 refine⟨tuples' true,λh2 Q' q'=>zbn (by omega) (λv hv=>?_) q',λh2 i j C hi hj cc=>zd6 (tup i hi) (tup j hj) (by show X.A.units+1+1+64<_;omega) cc⟩
 obtain⟨i,hi,e⟩:=QH.mp hv;refine⟨kp i,?_⟩;have t:=tup i hi;have e':ks.getD i pN=v:=by simp[hi,e]
 rw[e'] at t;exact t
theorem zc9{KP:KPT}{k i0:Nat}{x y ql:Str}{params:Qy}{body:Expr}{sc:Scope}{c c':Addr}{pm:kC}{vy:V}{vs:List V}{te:TE}{Q:VK}{Pv:Nat->List V->Hp->Prop}(I:Inv X pins σ H s)(hKP:wn X KP)(hr:zD (k+2) X.A)(S:jq x y sc)
  (hN:X.N[i0]?=some y)(hσ:σ[i0]?=some (some vy))(hk:X.env.scope.names.lookup y=some .cell)(hcl:X.env.cells.lookup y=some c)(hfa:yS X pins H fa)(hfo:s.heap.get? fa=some (kla_obj "<lambda>" ql params body sc [(y,c)] pm c' ctv))
  (hbind:∀u,QW (kla_fn "<lambda>" ql params body sc [(y,c)] pm (.ref c') ctv) ⟨[u],[]⟩=pure [(x,u)])(hbody:∀(A:pI)(s:kE)(H:Hp),A.units+64<cLine->PE (vZ X.prog X.w X.K X.mg X.base x y ql sc fa (.ref c') c A X.stack s H) body te)
  (hl:H l=some (.lst vs))(h64:vs.length<64)(R:KeyR KP te vy c' ql vs H Q Pv):wpAny (model X.prog X.w) X.A (call (.builtin "sorted") [.ref l] [(kx "key",.ref fa)]) (EP X pins σ Q) X.xe s:=by
 obtain⟨its,rv,pl,hz⟩:=I.list (.of hl);have len:vs.length=its.length:=rv.length;have un:=hr.un;refine zdi (vs:=its) pl.isList (by omega) λD kS e1 h' eD kk lt hD hkS=>?_
 have sD:s.heap.objs.size<=D:=by omega
 have sK:s.heap.objs.size<=kS:=by omega
 have fD:=I.fpOk sD (I.hok.fresh sD);have fK:=I.fpOk sK (I.hok.fresh sK);have faD:fa≠D:=kc (ka (kR hfo) sD);have faK:fa≠kS:=kc (ka (kR hfo) sK);have DK:D≠kS:=kc lt;have nseq:∀(b:Array kC)(m:Nat)(v:Option kC),(ko "list" b m).data≠.cell v:=λb m v z=>nomatch (show FS b m=BO v from z);have nfun:∀v,(kla_obj "<lambda>" ql params body sc [(y,c)] pm c' ctv).data≠.cell v:=λv z=>nomatch (show Data.func _=BO v from z);have pin3:∀{ks:List kC}{e:Nat}{H':Hp}{s':kE},Inv X pins σ H' s'->H' fa=none->H' D=none->H' kS=none->s'.heap.get? fa=some (kla_obj "<lambda>" ql params body sc [(y,c)] pm c' ctv)->s'.heap.get? D=some (ko "list" #[] e1)->s'.heap.get? kS=some (ko "list" ks.toArray e)->
   Inv X (pins++[(fa,kla_obj "<lambda>" ql params body sc [(y,c)] pm c' ctv),(D,ko "list" #[] e1),(kS,ko "list" ks.toArray e)]) σ H' s':=λ{ks e H' s'} J n1 n2 n3 o1 o2 o3=>by
  refine J.pins_of λp hp=>?_;rcases pS.mp hp with hp|hp
  ·exact J.pin p (kT _ hp)
  ·simp only[kX,pi,or_false] at hp;rcases hp with rfl|rfl|rfl
   ·exact⟨o1,n1,hfa.2.1,hfa.2.2.1,nfun⟩
   ·exact⟨o2,n2,fD.2.1,fD.2.2.1,nseq _ _⟩
   ·exact⟨o3,n3,fK.2.1,fK.2.2.1,nseq _ _⟩
 have of3:∀{ks:List kC}{e:Nat}{H':Hp}{s':kE},Inv X (pins++[(fa,kla_obj "<lambda>" ql params body sc [(y,c)] pm c' ctv),(D,ko "list" #[] e1),(kS,ko "list" ks.toArray e)]) σ H' s'->
   Inv X pins σ H' s'/\(H' fa=none/\H' D=none/\H' kS=none)/\s'.heap.get? fa=some (kla_obj "<lambda>" ql params body sc [(y,c)] pm c' ctv)/\s'.heap.get? D=some (ko "list" #[] e1)/\s'.heap.get? kS=some (ko "list" ks.toArray e):=λ{ks e H' s'} J=>by
  have p1:=J.pin (fa,kla_obj "<lambda>" ql params body sc [(y,c)] pm c' ctv) (kT _ (kT _ (by simp)))
  have p2:=J.pin (D,ko "list" #[] e1) (kT _ (kT _ (by simp)))
  have p3:=J.pin (kS,ko "list" ks.toArray e) (kT _ (kT _ (by simp)))
  exact⟨J.unpinned,⟨p1.2.1,p2.2.1,p3.2.1⟩,p1.1,p2.1,p3.1⟩
 refine⟨λi ks e s'=>∃H' zs,Inv X (pins++[(fa,kla_obj "<lambda>" ql params body sc [(y,c)] pm c' ctv),(D,ko "list" #[] e1),(kS,ko "list" ks.toArray e)]) σ H' s'/\zr zs ks/\Pv i zs H',⟨λi ks e s' hJ=>?_,λi u ks e s' hu hJ=>?_,λks e s' hJ=>?_⟩,H,[],?_,.nil,R.start⟩
 ·obtain⟨H',zs,J,r,p⟩:=hJ;exact⟨(of3 J).2.2.2.2,by rw[←r.length];exact R.len _ _ _ p⟩
 ·obtain⟨H',zs,J,r,p⟩:=hJ;obtain⟨J0,⟨n1,n2,n3⟩,o1,o2,o3⟩:=of3 J;obtain⟨v,hv,ru⟩:=vals_get? rv hu;obtain⟨uy,ry,hcell⟩:=WO J hN hσ hk hcl;have hcd:s'.heap.CodeRec (.ref c') ql:=(J.hok c' _ (R.code _ _ _ p)).1;refine uT (lam_run J J.env0.in1.in1 (hr.in1.in1) S o1 hcd (hbind u) ru ry hcell (J.freeC _ _ hcl) (hbody _ s' H' (by show X.A.units+1+1+64<cLine;omega)) (R.turn i zs H' v hv p)) (λu' s'' hs=>?_) λ_ _ z=>z
  obtain⟨kv,H'',J',rk,p'⟩:=hs;obtain⟨J1,⟨m1,m2,m3⟩,q1,q2,q3⟩:=of3 J';refine⟨q3,λc2 hc2=>⟨H'',zs++[kv],?_,qH r rk,p'⟩⟩;have J2:Inv X pins σ H'' {s'' with heap:=s''.heap.update kS (kj (·.push u')),toks:=s''.toks}:=J1.turned (it:=kS) (λb o hb e=>by rw[pj _ _ _ _ hb];exact e) m3 fK.2.1 fK.2.2.2.1 fK.2.2.2.2.1 fK.2.2.2.2.2
  exact pin3 J2 m1 m2 m3 (by show(s''.heap.update kS _).get? fa=_;rw[pj _ _ _ _ faK];exact q1) (by show(s''.heap.update kS _).get? D=_;rw[pj _ _ _ _ DK];exact q2) hc2
 ·obtain⟨H',zs,J,r,p⟩:=hJ;obtain⟨J0,⟨n1,n2,n3⟩,o1,o2,o3⟩:=of3 J;rw[←len] at p;obtain⟨ans,ok,q⟩:=R.fin zs H' p;have zl:=R.len _ _ _ p;have kl:ks.length=its.length:=by rw[←r.length,zl,len]
  obtain⟨κ,k1,k2⟩:=hKP _ _ _ _ _ _ _ J0 r ok;rw[kl] at k1 k2;refine⟨o2,κ,ans,k1,k2,λpm' or ep _=>?_⟩
  ·have J2:Inv X pins σ H' {s' with heap:=s'.heap.update kS (kj λ_=>(#[]:Array kC)),toks:=s'.toks}:=J0.turned (it:=kS) (λb o hb e=>by rw[pj _ _ _ _ hb];exact e) n3 fK.2.1 fK.2.2.2.1 fK.2.2.2.2.1 fK.2.2.2.2.2
   have o4:(s'.heap.update kS (kj λ_=>(#[]:Array kC))).get? D=some (ko "list" #[] e1):=by rw[pj _ _ _ _ DK];exact o2
   rw[←len] at or ep;have lo:pm'.toList.length=vs.length:=by rw[or.length_eq,uO]
   obtain⟨c5,o5⟩:∃c5,((s'.heap.update kS (kj λ_=>(#[]:Array kC))).update D (kj λ_=>uk (pm'.toList.map λi=>its.getD i pN))).get? D=some (ko "list" (uk (pm'.toList.map λi=>its.getD i pN)) c5):=⟨_,Qn o4 _⟩;refine⟨.ref D,upd H' D (.lst (pm'.toList.map λi=>vs.getD i .non)),J2.track (t':=s'.toks) ⟨n2,fD.2⟩ (λb o hb e=>by rw[pj _ _ _ _ hb];exact e) ?_ (Xu _ λi hi=>vH rv i ?_) o5,rfl,q D pm' n2 or ep⟩
   ·rw[kL,lo];exact pd (ub h64) (by decide)
   ·exact UV.mp (or.mem_iff.mp hi)
 ·have J0:Inv X pins σ H {s with heap:=h',toks:=s.toks}:=I.kept kk;exact pin3 J0 hfa.1 (I.hok.fresh sD) (I.hok.fresh sK) (kk _ _ hfo) hD hkS
end
open PySem.W (kla_fn kla_obj envX tabObj CodeHd KasT kas_sort kas_ask)
section
variable{X:Cx}{p pos lpos kpos:Pos}{e body:Expr}{params:Qy}{sc:Scope}{x y:Str}{c c0 P:Addr}{i0 k:Nat}{te tl:TE}
def tSortK(KP:KPT)(P:Addr)(lpos:Pos)(ql:Str)(i0:Nat)(te tl:TE):TE:=λσ H Q=>wA tl vm σ H λxs H1=>∃l vs vy,xs=[.ref l]/\H1 l=some (.lst vs)/\vs.length<64/\σ[i0]?=some (some vy)/\xm H1 P lpos ql/\
 ∀c' H2,vJ P H1 H2->xm H2 P lpos ql->H2 c'=some (yE c' ql)->∃Pv,KeyR KP te vy c' ql vs H2 Q Pv
def zab{KP:KPT}(hKP:wn X KP)(hr:zD (k+2) X.A)(hg:Gl X "sorted")(hm:X.mg "sorted"=none)(ha:PA X [e] (wA tl vm))(S:jq x y sc)(hN:X.N[i0]?=some y)(hk:X.env.scope.names.lookup y=some .cell)(hcl:X.env.cells.lookup y=some c)
  (hclos:gQ sc X.env=pure [(y,c)])(hdef:Au params X.env=([],[]))(hcode:X.env.code=.ref c0)(C:CodeHd X.base c0 P)(hB:X.base.BuiltinsAt X.mg P)
  (hbind:∀(pm cd ctv u:kC),QW (kla_fn "<lambda>" (X.env.qual++"<lambda>") params body sc [(y,c)] pm cd ctv) ⟨[u],[]⟩=pure [(x,u)])
  (hbody:∀(fa c':Addr)(A:pI)(s:kE)(H:Hp),A.units+64<cLine->PE (vZ X.prog X.w X.K X.mg X.base x y (X.env.qual++"<lambda>") sc fa (.ref c') c A X.stack s H) body te)
  (he:pX pos (kJ [e] X.env)=(false,eval e X.env)::pX pos (kJ [] X.env):=by rfl)(hpl:(pX pos (kJ [e] X.env)).any (·.1)=false:=by rfl):
  PE X (.Call (.Name "sorted" p) [e] [⟨some "key",.Lambda params body sc lpos,kpos⟩] pos) (tSortK KP P lpos (X.env.qual++"<lambda>") i0 te tl):=by
 intro pins s σ H Q I h;refine uQ (xk I hg hm qe ?_);refine EM (thn (ha pos pins s σ H _ I h) λus s1⟨vs',H1,I1,r1,q1⟩=>?_) he hpl rfl rfl;obtain⟨l,vs,vy,ev,hl,h64,hσ,ht,q⟩:=q1;subst ev;obtain⟨u,rfl,ru⟩:=vals1 r1
 cases ru;refine kws_cons (Wc (C:=C) I1 hcode hB hclos hdef ht λfa c' ctv H2 s2 I2 st lt hfo hc' ffa=>kws_nil ?_);obtain⟨Pv,R⟩:=q c' H2 st lt hc';have nl:l≠P:=λz=>by
  obtain⟨ps,hP,_⟩:=ht;rw[z,hP] at hl
  cases hl
 exact zc9 I2 hKP hr S hN hσ hk hcl ffa hfo (λu=>hbind _ _ _ u) (hbody fa c') (st l _ nl hl) h64 R
end
section
variable{κ:Type}[DecidableEq κ]
def xl(kvs:List (κ×V))(k:κ):Option V:=(kvs.find? λkv=>decide (kv.1=k)).map (·.2)
def xq(kvs:List (κ×V))(k:κ)(v:V):List (κ×V):=
 if(kvs.any λkv=>decide (kv.1=k))=true then kvs.map (λkv=>if kv.1=k then(kv.1,v) else kv) else kvs++[(k,v)]
def Xh{p:κ×V}{r:List (κ×V)}{k:κ}(e:p.1=k):xl (p::r) k=some p.2:=by simp[xl,ur,e]
def Xr{p:κ×V}{r:List (κ×V)}{k:κ}(e:¬p.1=k):xl (p::r) k=xl r k:=by simp[xl,ur,e]
theorem WE(k:κ):∀kvs:List (κ×V),(kvs.any λkv=>decide (kv.1=k))=(xl kvs k).isSome
 |[]=>rfl
 |p::r=>by
  rw[DB]
  by_cases e:p.1=k
  ·simp only[Xh e,decide_eq_true e,Bool.true_or,Option.isSome_some]
  ·rw[Xr e,decide_eq_false e,Bool.false_or];exact WE k r
theorem Vc(kvs:List (κ×V))(k:κ)(v:V):(xq kvs k v).length<=kvs.length+1:=by
 unfold xq
 split
 ·rw[kL];omega
 ·rw[kO,pH,gK];omega
theorem yT.isSome_eq{o:Option V}{u:Option kC}(r:yT o u):o.isSome=u.isSome:=by
 cases o with
 |none=>cases u with
  |none=>rfl
  |some _=>exact(show False from r).elim
 |some _=>cases u with
  |none=>exact(show False from r).elim
  |some _=>rfl
theorem KV.val{kvs:List (κ×V)}{vs:List (κ×kC)}(r:KV kvs vs)(k:κ):yT (xl kvs k) (Ch vs k):=by
 unfold KV at r
 induction r with
 |nil=>exact Ud
 |@cons p q ps qs h t ih=>
  obtain⟨h1,h2⟩:=h
  by_cases e:p.1=k
  ·have e':q.1=k:=h1.symm.trans e;have b:Ch (q::qs) k=some q.2:=by simp[Ch,ur,e']
   rw[Xh e,b];exact h2
  ·have e':¬q.1=k:=λz=>e (h1.trans z);have b:Ch (q::qs) k=Ch qs k:=by simp[Ch,ur,e']
   rw[Xr e,b];exact ih
theorem KV.any{kvs:List (κ×V)}{vs:List (κ×kC)}(r:KV kvs vs)(k:κ):(kvs.any λkv=>decide (kv.1=k))=vs.any λkv=>decide (kv.1=k):=by
 unfold KV at r
 induction r with
 |nil=>rfl
 |cons h t ih=>rw[DB,DB,ih,h.1]
theorem KV.repl{kvs:List (κ×V)}{vs:List (κ×kC)}(r:KV kvs vs)(k:κ){y:V}{u:kC}(ry:zt y u):
  KV (kvs.map λkv=>if kv.1=k then(kv.1,y) else kv) (vs.map λkv=>if kv.1=k then(kv.1,u) else kv):=by
 unfold KV at r⊢
 induction r with
 |nil=>exact .nil
 |@cons p q ps qs h t ih=>
  rw[kY,kY];refine .cons ?_ ih;obtain⟨h1,h2⟩:=h
  by_cases e:p.1=k
  ·rw[if_pos e,if_pos (h1.symm.trans e)];exact⟨h1,ry⟩
  ·rw[if_neg e,if_neg (λz=>e (h1.trans z))];exact⟨h1,h2⟩
def KV.put{kvs:List (κ×V)}{vs:List (κ×kC)}(r:KV kvs vs)(k:κ){y:V}{u:kC}(ry:zt y u):KV (xq kvs k y) (stored vs k u):=by
 unfold xq stored;rw[r.any k]
 by_cases e:(vs.any λkv=>decide (kv.1=k))=true
 ·rw[if_pos e,if_pos e];exact r.repl k ry
 ·rw[if_neg e,if_neg e];exact EN r ⟨rfl,ry⟩
def KV.length{kvs:List (κ×V)}{vs:List (κ×kC)}(r:KV kvs vs):kvs.length=vs.length:=Uj r
end
theorem j3{P:kW}{w:kq}{k:Key}{u:kC}(r:zt (kV k) u):(yA P w).is k u=true:=by
 cases k with
 |inl i=>obtain⟨t,e⟩:=(show ∃t,u=Ce i t from r);subst e;exact zal P w i t
 |inr x=>obtain⟨t,e⟩:=(show ∃t,u=Dl x t from r);subst e;exact zdw P w x t
theorem Jn{P:kW}{w:kq}:∀{ks:List Key}{us:List kC},zr (ks.map kV) us->ItemsAre (yA P w) ks us
 |[],_,r=>by rw[Be] at r;cases r;exact .nil
 |k::ks,_,r=>by
  rw[kY] at r
  cases r with
  |cons h t=>exact .cons (j3 h) (Jn t)
abbrev KT(H:Hp):List (List Key×V)->List (List Key×Addr×kC)->Prop:=Ae λp q=>p.1=q.1/\H q.2.1=some (.tup (p.1.map kV))/\zt p.2 q.2.2
variable{xs:List (List Key×Addr×kC)}{kvs:List (List Key×V)}
theorem KT.val{H:Hp}(r:KT H kvs xs)(k:List Key):yT (xl kvs k) ((atKey xs k).map (·.2)):=by
 induction r with
 |nil=>exact Ud
 |@cons p q ps qs h t ih=>
  obtain⟨h1,_,h2⟩:=h
  by_cases e:p.1=k
  ·have e':q.1=k:=h1.symm.trans e;have b:atKey (q::qs) k=some q.2:=by simp[atKey,ur,e']
   rw[Xh e,b];exact h2
  ·have e':¬q.1=k:=λz=>e (h1.trans z);have b:atKey (q::qs) k=atKey qs k:=by simp[atKey,ur,e']
   rw[Xr e,b];exact ih
theorem KT.repl{H:Hp}(r:KT H kvs xs)(k:List Key){y:V}{u:kC}(ry:zt y u):
  KT H (kvs.map λkv=>if kv.1=k then(kv.1,y) else kv) (xs.map (putAt k u)):=by
 induction r with
 |nil=>exact .nil
 |@cons p q ps qs h t ih=>
  rw[kY,kY];refine .cons ?_ ih;obtain⟨h1,h2,h3⟩:=h;unfold putAt
  by_cases e:p.1=k
  ·rw[if_pos e,if_pos (h1.symm.trans e)];exact⟨h1,h2,ry⟩
  ·rw[if_neg e,if_neg (λz=>e (h1.trans z))];exact⟨h1,h2,h3⟩
def KT.put{H:Hp}(r:KT H kvs xs)(k:List Key){b:Addr}{y:V}{u:kC}(hb:H b=some (.tup (k.map kV)))(ry:zt y u):
  KT H (xq kvs k y) (DZ xs k b u):=by
 have e:(kvs.any λkv=>decide (kv.1=k))=(atKey xs k).isSome:=by
  rw[WE,(r.val k).isSome_eq,Us]
 unfold xq DZ;rw[e]
 by_cases q:(atKey xs k).isSome=true
 ·rw[if_pos q,if_pos q];exact r.repl k ry
 ·rw[if_neg q,if_neg q];exact EN r ⟨rfl,hb,ry⟩
variable{H':Hp}
def KT.keeps{H:Hp}(r:KT H kvs xs)(ht:∀b ys,H b=some (.tup ys)->H' b=some (.tup ys)):KT H' kvs xs:=
 Paired.mapP r λ_ _ z=>⟨z.1,ht _ _ z.2.1,z.2.2⟩
section
variable{P:kW}{w:kq}{H:Hp}{h:Heap}{a:Addr}
def rd_of{u:HO}(ok:HOk P w H h)(e:Rd H a u):zV P w H h a u:=e.ok ok
def jl{kvs:List (Key×V)}(ok:HOk P w H h)(e:Rd H a (.dK kvs)):kvs.length<=sizeLine/\(a==ua)=false/\∃vs,KV kvs vs/\h.DictOf (yA P w) a vs:=
 show zV P w H h a (.dK kvs) from rd_of ok e
def dk_of{kvs:List (Key×V)}(ok:HOk P w H h)(e:H a=some (.dK kvs)):kvs.length<=sizeLine/\(a==ua)=false/\∃vs,KV kvs vs/\h.DictOf (yA P w) a vs:=jl ok (.inl e)
def vA{ks:List Key}(ok:HOk P w H h)(e:H a=some (.tup (ks.map kV))):(gS (yA P w)).is h ks a:=by
 obtain⟨_,its,r,o,h1,h2,n,h3⟩:=(show zV P w H h a (.tup (ks.map kV)) from ok a _ e);exact⟨o,its.toArray,n,h1,h2,h3,by simpa using Jn r⟩
theorem j0(ok:HOk P w H h)(e:Rd H a (.dT kvs)):kvs.length<=sizeLine/\(a==ua)=false/\
  ∃xs,KT H kvs xs/\h.DictOfH (gS (yA P w)) a xs:=by
 obtain⟨z,y,xs,r,o,es,ep,h1,h2,h3,h4,h5⟩:=(show zV P w H h a (.dT kvs) from rd_of ok e);refine⟨z,y,xs,r,o,es,ep,h1,h2,h3,h4,λx hx=>?_,h5⟩;have all:∀{l:List (List Key×V)}{m:List (List Key×Addr×kC)},KT H l m->∀x∈m,(gS (yA P w)).is h x.1 x.2.1:=by
  intro l m q
  induction q with
  |nil=>intro x hx;exact nomatch hx
  |@cons p q ps qs hq t ih=>
   intro x hx;rcases kX.mp hx with e|hx
   ·subst e;exact vA ok (by rw[←hq.1];exact hq.2.1)
   ·exact ih x hx
 exact all r x hx
def dt_of(ok:HOk P w H h)(e:H a=some (.dT kvs)):kvs.length<=sizeLine/\(a==ua)=false/\
  ∃xs,KT H kvs xs/\h.DictOfH (gS (yA P w)) a xs:=j0 ok (.inl e)
end
def xH(H:Hp)(a:Addr)(y:V)(r:Option V):Prop:=
 (∃kvs k,Rd H a (.dK kvs)/\y=kV k/\r=xl kvs k)∨∃kvs k b,Rd H a (.dT kvs)/\y=.ref b/\H b=some (.tup (k.map kV))/\r=xl kvs k
def DPut(H:Hp)(a:Addr)(y v:V)(H':Hp):Prop:=
 (∃kvs k,H a=some (.dK kvs)/\y=kV k/\kvs.length<sizeLine/\H'=upd H a (.dK (xq kvs k v)))∨
 ∃kvs k b,H a=some (.dT kvs)/\y=.ref b/\H b=some (.tup (k.map kV))/\kvs.length<sizeLine/\H'=upd H a (.dT (xq kvs k v))
variable{Q:kC->kE->Prop}
section
variable{X:Cx}{pins:List (Addr×Obj)}{σ:St}{H:Hp}{s:kE}{a:Addr}{y v:V}{u r:kC}{o:Option V}{A:pI}{E:kC->kE->Prop}
def Inv.big(I:Inv X pins σ H s):ua<s.heap.objs.size:=by
 have h:km<s.heap.objs.size:=(I.mod.glob.keeps I.bk).lt;exact Nat.lt_trans (by decide) h
def ze3(hu:A.units+1<cLine)(I:Inv X pins σ H s)(g:xH H a y (some v))(ry:zt y u)(h:∀w' s',Inv X pins σ H s'->zt v w'->Q w' s'):
  wpAny (model X.prog X.w) A (DS (.ref a) u) Q E s:=by
 rcases g with⟨kvs,k,e,ey,l⟩|⟨kvs,k,b,e,ey,eb,l⟩
 ·subst ey;obtain⟨z,hd,vs,rel,dd⟩:=jl I.hok e;obtain⟨w',hw,rw'⟩:=yT.some_of (v:=v) (o:=Ch vs k) (by rw[l];exact rel.val k)
  exact wpAny_getItem_of (j3 ry) dd.mapOf hw (h w' _ (I.tok _) rw')
 ·subst ey
  cases(show u=ki b from ry);obtain⟨z,hd,xs,rel,dd⟩:=j0 I.hok e;obtain⟨w',hw,rw'⟩:=yT.some_of (v:=v) (o:=(atKey xs k).map (·.2)) (by rw[l];exact rel.val k)
  obtain⟨p,hp,hp2⟩:=gk.mp hw;refine DJ (UC hu) (vA I.hok eb) dd hp ?_;rw[hp2];exact h w' _ (I.tok _) rw'
def d_in(hu:A.units+1<cLine)(I:Inv X pins σ H s)(g:xH H a y o)(ry:zt y u)(h:∀s',Inv X pins σ H s'->Q (.bool o.isSome) s'):
  wpAny (model X.prog X.w) A (ug .In u (.ref a)) Q E s:=by
 rcases g with⟨kvs,k,e,ey,l⟩|⟨kvs,k,b,e,ey,eb,l⟩
 ·subst ey;obtain⟨z,hd,vs,rel,dd⟩:=jl I.hok e;refine wpAny_in_of (j3 ry) hd dd.mapOf ?_;rw[←(rel.val k).isSome_eq,←l];exact h _ (I.tok _)
 ·subst ey
  cases(show u=ki b from ry);obtain⟨z,hd,xs,rel,dd⟩:=j0 I.hok e;refine wpAny_in_heap (UC hu) (vA I.hok eb) hd dd ?_;have q:=(rel.val k).isSome_eq;rw[Us] at q;rw[←q,←l];exact h _ (I.tok _)
def d_notIn(hu:A.units+1<cLine)(I:Inv X pins σ H s)(g:xH H a y o)(ry:zt y u)(h:∀s',Inv X pins σ H s'->Q (.bool (!o.isSome)) s'):
  wpAny (model X.prog X.w) A (ug .NotIn u (.ref a)) Q E s:=by
 rcases g with⟨kvs,k,e,ey,l⟩|⟨kvs,k,b,e,ey,eb,l⟩
 ·subst ey;obtain⟨z,hd,vs,rel,dd⟩:=jl I.hok e;refine wpAny_notIn_of (j3 ry) hd dd.mapOf ?_;rw[←(rel.val k).isSome_eq,←l];exact h _ (I.tok _)
 ·subst ey
  cases(show u=ki b from ry);obtain⟨z,hd,xs,rel,dd⟩:=j0 I.hok e;refine wpAny_notIn_heap (UC hu) (vA I.hok eb) hd dd ?_;have q:=(rel.val k).isSome_eq;rw[Us] at q;rw[←q,←l];exact h _ (I.tok _)
def qU{ob:HO}(I:Inv X pins σ H s)(mu:Mut (H a))(hs:Qc a s.heap h')(he:∃q,h'.get? a=some q)(new:zV X.prog X.w (upd H a ob) h' a ob):
  Inv X pins σ (upd H a ob) {s with heap:=h',toks:=t'}:=
 I.write (x:=a) (e:=a) mu (.inl rfl) (λb q hb z=>(hs.2 b hb).trans z) he new
def dk_new{P:kW}{w:kq}{kvs:List (Key×V)}{vs:List (Key×kC)}(z:kvs.length<=sizeLine)(hd:(a==ua)=false)(rel:KV kvs vs)(dd:h'.DictOf (yA P w) a vs):
  zV P w H' h' a (.dK kvs):=⟨z,hd,vs,rel,dd⟩
theorem zee{Q:Unit->kE->Prop}(hu:A.units+1<cLine)(I:Inv X pins σ H s)(g:DPut H a y v H')(ry:zt y u)(rv:zt v r)(h:∀s',Inv X pins σ H' s'->Q () s'):
  wpAny (model X.prog X.w) A (setItem (.ref a) u r) Q E s:=by
 rcases g with⟨kvs,k,e,ey,l,eH⟩|⟨kvs,k,b,e,ey,eb,l,eH⟩
 ·subst ey eH;obtain⟨z,hd,vs,rel,dd⟩:=dk_of I.hok e;have hz:vs.length<=sizeLine:=by rw[←rel.length];exact z
  have hl:(xq kvs k v).length<=sizeLine:=by have:=Vc kvs k v;omega
  refine wpAny_setItem_pairs (hsz:=hz) (j3 ry) dd λh' dd' hs=>h _ ?_;have he:∃q,h'.get? a=some q:=let⟨q,_,_,hq,_⟩:=dd';⟨q,hq⟩;exact qU I (by rw[e];exact Ud) hs he (dk_new hl hd (rel.put k rv) dd')
 ·subst ey eH
  cases(show u=ki b from ry);obtain⟨z,hd,xs,rel,dd⟩:=dt_of I.hok e;have hz:xs.length<=sizeLine:=by rw[←Uj rel];exact z
  have hl:(xq kvs k v).length<=sizeLine:=by have:=Vc kvs k v;omega
  refine DL (hsz:=hz) (UC hu) (vA I.hok eb) dd λh' dd' hs=>h _ ?_;obtain⟨q,es,ep,hq,h2,h3,h4,_,h5⟩:=dd';refine qU I (by rw[e];exact Ud) hs ⟨q,hq⟩ ⟨hl,hd,_,(rel.put k eb rv).keeps λc ys ec=>?_,q,es,ep,hq,h2,h3,h4,h5⟩
  rw[zp (ne_of ec e λz=>nomatch z)];exact ec
end
def vQ(i:Expr):Prop:=∀ov iv,subscripted i false ov iv=operate [ov,iv] (DS ov iv)
theorem Vw{prog:kW}{w:kq}{A:pI}{E:kC->kE->Prop}{s:kE}{value slice:Expr}{pos:Pos}{id:String}
  (hl:Bf (.type T) "__getitem__"=pure (some (.builtin id)))(hs:vQ slice)
  (h:wpAny (model prog w) A (eval value env) (λo s₁=>wpAny (model prog w) A (eval slice env) (λi s₂=>s₂.TypeIs o T/\wpAny (model prog w) A (DS o i) Q E s₂) E s₁) E s):
  wpAny (model prog w) A (eval (.Subscript value slice pos) env) Q E s:=by
 refine Ej (uT h (λo s₁ h₁=>uT h₁ (λi s₂ h₂=>?_) λ_ _ x=>x) λ_ _ x=>x);obtain⟨hT,h₂⟩:=h₂;unfold Cw;refine kB ?_;rw[getitemInPython_of_ne hT.not_modules];refine kB (Qo hT hl ?_);have fin:wpAny (model prog w) A (subscripted slice false o i) (λr s₃=>wpAny (model prog w) A (letTemporaryGo value o r>>=λ_=>pure r) Q E s₃) E s₂:=by
  rw[hs o i];exact wpAny_operating (uT h₂ (λr s₃ h₃=>kB (wpAny_letTemporaryGo (kH h₃))) λ_ _ x=>x)
 first
  |exact kH (kB fin)
  |exact kB (kH (kB fin))
  |exact kB fin
def zdx{X:Cx}{pins:List (Addr×Obj)}{σ:St}{H:Hp}{s:kE}{a:Addr}{y:V}{o:Option V}(I:Inv X pins σ H s)(g:xH H a y o):s.TypeIs (.ref a) "dict":=by
 rcases g with⟨kvs,k,e,_,_⟩|⟨kvs,k,b,e,_,_,_⟩
 ·obtain⟨_,_,vs,_,dd⟩:=jl I.hok e;exact dd.typeIs
 ·obtain⟨_,_,xs,_,dd⟩:=j0 I.hok e;exact dd.typeIs
def tDGet(td ty:TE):TE:=λσ H Q=>td σ H λx H1=>ty σ H1 λy H2=>∃a v,x=.ref a/\xH H2 a y (some v)/\Q v H2
def tDIn(ty td:TE):TE:=λσ H Q=>ty σ H λy H1=>td σ H1 λx H2=>∃a o,x=.ref a/\xH H2 a y o/\Q (.bl o.isSome) H2
def tDNotIn(ty td:TE):TE:=λσ H Q=>ty σ H λy H1=>td σ H1 λx H2=>∃a o,x=.ref a/\xH H2 a y o/\Q (.bl (!o.isSome)) H2
def sDPut(td ty tv:TE):TS:=λD σ H=>tv σ H λv H1=>td σ H1 λx H2=>ty σ H2 λy H3=>∃a H4,x=.ref a/\DPut H3 a y v H4/\D.nx σ H4
section
variable{X:Cx}{o i e value:Expr}{pos pos' tpos:Pos}{td ty tv:TE}
def J4(hu:X.A.units+1<cLine)(ho:PE X o td)(hi:PE X i ty)(hs:vQ i):PE X (.Subscript o i pos) (tDGet td ty):=by
 intro pins s σ H Q I h;refine Vw Az.lookup hs (thn (ho pins s σ H _ I h) λu s1⟨x,H1,I1,rx,q1⟩=>thn (hi pins s1 σ H1 _ I1 q1) λiv s2⟨y,H2,I2,ry,a,v,ex,g,q2⟩=>?_);subst ex;obtain rfl:u=ki a:=rx;exact⟨zdx I2 g,ze3 hu I2 g ry λw' s3 I3 rw'=>⟨v,H2,I3,rw',q2⟩⟩
def pc_din(hu:X.A.units+1<cLine)(hi:PE X i ty)(ho:PE X o td):PC X .In i o (tDIn ty td):=by
 intro pins s σ H Q I h;refine thn (hi pins s σ H _ I h) λiv s1⟨y,H1,I1,ry,q1⟩=>thn (ho pins s1 σ H1 _ I1 q1) λu s2⟨x,H2,I2,rx,a,ov,ex,g,q2⟩=>?_;subst ex;obtain rfl:u=ki a:=rx;exact d_in hu I2 g ry λs3 I3=>⟨.bl ov.isSome,H2,I3,rfl,q2⟩
def WX(hu:X.A.units+1<cLine)(hi:PE X i ty)(ho:PE X o td):PC X .NotIn i o (tDNotIn ty td):=by
 intro pins s σ H Q I h;refine thn (hi pins s σ H _ I h) λiv s1⟨y,H1,I1,ry,q1⟩=>thn (ho pins s1 σ H1 _ I1 q1) λu s2⟨x,H2,I2,rx,a,ov,ex,g,q2⟩=>?_;subst ex;obtain rfl:u=ki a:=rx;exact d_notIn hu I2 g ry λs3 I3=>⟨.bl (!ov.isSome),H2,I3,rfl,q2⟩
def YQ(hu:X.A.units+1<cLine)(ho:PE X o td)(hi:PE X i ty)(hv:PE X value tv)(hs:uh value (some (.Subscript o i pos')) pos.line X.env=pure false):
  PS X (.Assign [.Subscript o i pos'] value pos) (sDPut td ty tv):=by
 intro pins s σ H D I h;refine Bk (thn (hv pins s σ H _ I h) λr s1⟨v,H1,I1,rv,q1⟩=>thn (ho pins s1 σ H1 _ I1 q1) λu s2⟨x,H2,I2,rx,q2⟩=>thn (hi pins s2 σ H2 _ I2 q2) λiv s3⟨y,H3,I3,ry,a,H4,ex,g,q3⟩=>?_) hs;subst ex;obtain rfl:u=ki a:=rx;exact zee hu I3 g ry rv λs4 I4=>⟨σ,H4,I4,q3⟩
end
def zc3{P:kW}{w:kq}{H:Hp}(h:Heap)(hb:ua<h.objs.size):zV P w H (h.push {cls:=.type "dict",data:=.dict #[]}) h.objs.size (.dK []):=
 ⟨uF _,beq_eq_false_iff_ne.mpr (QM (kc hb)),[],.nil,Heap.DictOf.new h⟩
def za0{P:kW}{w:kq}{H:Hp}(h:Heap)(hb:ua<h.objs.size):zV P w H (h.push {cls:=.type "dict",data:=.dict #[]}) h.objs.size (.dT []):=
 ⟨uF _,beq_eq_false_iff_ne.mpr (QM (kc hb)),[],.nil,_,#[],0,kQ _ rfl,⟨rfl,rfl,rfl⟩,rfl,rfl,Ex⟩
def tDNewK:TE:=λ_ H Q=>∀p,H p=none->Q (.ref p) (upd H p (.dK []))
def tDNewT:TE:=λ_ H Q=>∀p,H p=none->Q (.ref p) (upd H p (.dT []))
section
variable{X:Cx}{pos:Pos}
def zci:PE X (.Dict [] [] pos) tDNewK:=λpins s σ H Q I h=>
 BV ⟨.ref s.heap.objs.size,_,I.laid (a:=s.heap.objs.size) (o:=.dK []) (t':=s.toks) (λ_ _ q=>kG _ q) (kN _) (zc3 s.heap I.big),rfl,h _ (I.hok.fresh (kN _))⟩
def zd9:PE X (.Dict [] [] pos) tDNewT:=λpins s σ H Q I h=>
 BV ⟨.ref s.heap.objs.size,_,I.laid (a:=s.heap.objs.size) (o:=.dT []) (t':=s.toks) (λ_ _ q=>kG _ q) (kN _) (za0 s.heap I.big),rfl,h _ (I.hok.fresh (kN _))⟩
end
structure M1(X:Cx)(o:Expr)(m:Str)(apos:Pos)(e:Expr)(cpos:Pos):Prop where
 base:UO o m X.env (eval o X.env)=eval o X.env
 few:((pX cpos (kJ [e] X.env)).all (λx=> !x.1)&&(UL cpos (ux [] X.env)).all (λx=>x.1.isSome)
  &&decide (([e]:List Expr).length+([]:List gI).length+(if([]:List gI).isEmpty then 0 else 1)<30))=true
 line:(apos.endLine==cpos.line)=true
 trees:pX cpos (kJ [e] X.env)=[(false,eval e X.env)]
structure M2(X:Cx)(o:Expr)(m:Str)(apos:Pos)(e f:Expr)(cpos:Pos):Prop where
 base:UO o m X.env (eval o X.env)=eval o X.env
 few:((pX cpos (kJ [e,f] X.env)).all (λx=> !x.1)&&(UL cpos (ux [] X.env)).all (λx=>x.1.isSome)
  &&decide (([e,f]:List Expr).length+([]:List gI).length+(if([]:List gI).isEmpty then 0 else 1)<30))=true
 line:(apos.endLine==cpos.line)=true
 trees:pX cpos (kJ [e,f] X.env)=[(false,eval e X.env),(false,eval f X.env)]
section
variable{X:Cx}{x:Str}{p pos:Pos}{e:Expr}{es:List Expr}{kws:List gI}{ks:List Str}{t tk:TA}{id:String}{r:List V->List V->Hp->VK->Prop}
def JR(X:Cx)(f:kC)(ks:List Str)(r:List V->List V->Hp->VK->Prop):Prop:=
 ∀(pins:List (Addr×Obj))(s:kE)(σ:St)(H:Hp)(xs zs:List V)(us ws:List kC)(Q:VK),Inv X pins σ H s->zr xs us->zr zs ws->r xs zs H Q->wpAny (model X.prog X.w) X.A (call f us (ks.zip ws)) (EP X pins σ Q) X.xe s
def tCBK(r:List V->List V->Hp->VK->Prop)(t tk:TA):TE:=λσ H Q=>t σ H λxs H1=>tk σ H1 λzs H2=>r xs zs H2 Q
def zd3(hc:JR X (.builtin id) ks r)(hg:Gl X x)(hm:X.mg x=none)(hv:pp x=some (.builtin id))(ha:PA X (e::es) t)(hkw:PK X kws tk)(hks:(UL pos (ux kws X.env)).filterMap (·.1)=ks:=by rfl)
  (hn:x≠"__name__":=by decide) (hdb:(x==("__debug__":Str))=false:=by decide) (he:pX pos (kJ (e::es) X.env)=(false,eval e X.env)::pX pos (kJ es X.env):=by rfl) (hpl:(pX pos (kJ (e::es) X.env)).any (·.1)=false:=by rfl)
  (hall:(UL pos (ux kws X.env)).all (·.1.isSome)=true:=by rfl) (hno:(UL pos (ux kws X.env)).any (·.1.isNone)=false:=by rfl):PE X (.Call (.Name x p) (e::es) kws pos) (tCBK r t tk):=by
 intro pins s σ H Q I h;refine uQ (xk I hg hm hv ?_ hn hdb);refine EM (thn (ha pos pins s σ H _ I h) λus s1⟨vs,H1,I1,r1,q1⟩=>thn (hkw pos pins s1 σ H1 _ I1 q1) λws s2⟨zs,H2,I2,r2,q2⟩=>?_) he hpl hall hno;rw[hks];exact hc pins s2 σ H2 vs zs us ws Q I2 r1 r2 q2
end
section
variable{prog:kW}{w:kq}{A:pI}{R:CL->kE->Prop}{I:Addr}{fp wr:List Addr}{n:Nat}{P:Nat->kC->Prop}{St:Nat->Heap->Prop}
theorem maxD_on(W:Walks prog w A.in1 I fp wr n P St)(bt:Nat->Nat->Bool)(hc:CmpOf prog w A.in1 .Gt P bt)(S:Addr)(nS:S∉fp)(kw:List (Str×kC)):∀(k j:Nat)(s:kE)(vb:kC)(c:Nat),n-(j+1)=k->j+1<=n->St (j+1) s.heap->P (gl bt j) vb->
  s.heap.get? S=some {cls:=.type "list",dict:=none,data:=.seq #[vb,vb] c,slots:=#[]}->(∀v h' tk,P (gl bt (n-1)) v->(∀b o,b∉wr->b≠S->s.heap.get? b=some o->h'.get? b=some o)->R (.ok (.ret v)) {s with heap:=h',toks:=tk})->
  UK (model prog w) A (.builtin "max.loop" ⟨[.ref I,.none,.ref S],kw⟩) R s:=by
 have nw:S∉wr:=λz=>nS (W.sub _ z);have nm:(Ah "max"++Ah ".loop":String)="max.loop":=by decide
 intro k
 induction k with
 |zero=>
  intro j s vb c hk hj st hb oS q;have ej:j+1=n:=by omega
  refine QD BW ?_;rw[QI UX _];refine kB (m:=Ad (.ref S)) (uE oS rfl (kB (gp (W.done s _ _ (ej▸st) λh' tk kp=>?_))));refine kB (Qp (kp S _ nw oS) rfl (kB (Ua (kH ?_))));exact q vb _ tk (by rw[←ej];exact hb) λb o b1 b2 e=>(uH _ _ (QM b2)).trans (kp b o b1 e)
 |succ k ih=>
  intro j s vb c hk hj st hb oS q;refine QD BW ?_;rw[QI UX _];refine kB (m:=Ad (.ref S)) (uE oS rfl (kB (gp (W.item (j+1) s _ _ (by omega) st λv h' tk hP st' kp=>?_))))
  have oS':=kp S _ nw oS;refine kB (kH ?_);refine kB (m:=tryCatch (holding [v,v] (CQ CmpOp.Gt v vb>>=_)) _) (gp (uq (kB (hc (j+1) (gl bt j) v vb _ _ _ hP hb (kB (uq (QO (kB (Ua (kH ?_))))))))))
  cases bb:bt (j+1) (gl bt j) with
  |true=>
   simp only[if_true];refine kB (Qp oS' rfl (kB (Ua ?_)));rw[nm];refine kH ⟨Qw UX _,ih (j+1) _ v _ (by omega) (by omega) (W.frame _ _ _ st' λb hf o e=>(uH _ _ (λz:S=b=>nS (by rw[z];exact hf))).trans e) (by simp only[gl,bb,if_true];exact hP) (uM _ oS' rfl) λv' h'' tk'' hP' kp'=>?_⟩
   exact q v' h'' tk'' hP' λb o b1 b2 e=>kp' b o b1 b2 ((uH _ _ (QM b2)).trans (kp b o b1 e))
  |false=>
   simp only[kr,if_false];refine kB (Ua ?_);rw[nm];exact kH ⟨Qw UX _,ih (j+1) _ vb c (by omega) (by omega) st' (by simp only[gl,bb,kr,if_false];exact hb) oS' λv' h'' tk'' hP' kp'=>q v' h'' tk'' hP' λb o b1 b2 e=>kp' b o b1 b2 (kp b o b1 e)⟩
theorem zed(W:Walks prog w A.in1 I fp wr n P St)(bt:Nat->Nat->Bool)(hc:CmpOf prog w A.in1 .Gt P bt)(S:Addr)(nS:S∉fp){k:Str}{d:kC}{s:kE}{c:Nat}(st:St 0 s.heap)
  (oS:s.heap.get? S=some {cls:=.type "list",dict:=none,data:=.seq #[] c,slots:=#[]})
  (q:∀v h' tk,((0<n/\P (gl bt (n-1)) v)∨(n=0/\v=d))->(∀b o,b∉wr->b≠S->s.heap.get? b=some o->h'.get? b=some o)->R (.ok (.ret v)) {s with heap:=h',toks:=tk}):
  UK (model prog w) A (.builtin "max.loop" ⟨[.ref I,.none,.ref S],[(k,d)]⟩) R s:=by
 have nw:S∉wr:=λz=>nS (W.sub _ z);have nm:(Ah "max"++Ah ".loop":String)="max.loop":=by decide
 refine QD BW ?_;rw[QI UX _]
 by_cases h0:n=0
 ·subst h0;refine kB (m:=Ad (.ref S)) (uE oS rfl (kB (gp (W.done s _ _ st λh' tk kp=>?_))));exact kB (UP (kH (q d h' tk (.inr ⟨rfl,rfl⟩) λb o b1 _ e=>kp b o b1 e)))
 ·refine kB (m:=Ad (.ref S)) (uE oS rfl (kB (gp (W.item 0 s _ _ (by omega) st λv h' tk hP st' kp=>?_))))
  refine kB (kH ?_);refine kB (Qp (kp S _ nw oS) rfl ?_);rw[nm];refine kH ⟨Qw UX _,maxD_on W bt hc S nS _ _ 0 _ v _ rfl (by omega) (W.frame _ _ _ st' λb hf o e=>(uH _ _ (λz:S=b=>nS (by rw[z];exact hf))).trans e) hP (uM _ (kp S _ nw oS) rfl) λv' h'' tk'' hP' kp'=>?_⟩
  exact q v' h'' tk'' (.inl ⟨by omega,hP'⟩) λb o b1 b2 e=>kp' b o b1 b2 ((uH _ _ (QM b2)).trans (kp b o b1 e))
end
def zb2(a v:kC):DI "max" ⟨[a],[(kx "default",v)]⟩:=by unfold DI;kernel_rfl
theorem ZN(val:Nat->Int):∀k,gl (λi j=>decide (val i>val j)) k<=k/\∀i,i<=k->val i<=val (gl (λi j=>decide (val i>val j)) k)
 |0=>⟨kN _,λi hi=>by rw[Nat.le_zero.mp hi];exact EO _⟩
 |k+1=>by
  obtain⟨h1,h2⟩:=ZN val k;unfold gl
  by_cases c:val (k+1)>val (gl (λi j=>decide (val i>val j)) k)
  ·rw[if_pos (decide_eq_true c)];refine⟨kN _,λi hi=>?_⟩
   by_cases e:i=k+1
   ·rw[e];exact EO _
   ·have:=h2 i (by omega)
    omega
  ·rw[if_neg (by rw[decide_eq_false c];decide)]
   refine⟨by omega,λi hi=>?_⟩
   by_cases e:i=k+1
   ·rw[e];omega
   ·exact h2 i (by omega)
def rMaxD:List V->List V->Hp->VK->Prop:=λxs zs H Q=>∃p ns d,xs=[.ref p]/\zs=[.int d]/\H p=some (.lst (ns.map V.int))/\∀g,(∀n,n∈ns->n<=g)->(g∈ns∨(ns=[]/\g=d))->Q (.int g) H
section
variable{X:Cx}
theorem zbp(hc:X.calm=true):JR X (.builtin "max") [kx "default"] rMaxD:=by
 intro pins s σ H xs zs us ws Q I r rz h;obtain⟨p,ns,d,rfl,rfl,hp,q⟩:=h;obtain⟨u,rfl,ru⟩:=vals1 r;obtain⟨u',rfl,t,rfl⟩:=vals1 rz
 cases ru;obtain⟨its,rv,pl,hz⟩:=I.list (.of hp);have ia:UD its ns:=by
  have:=jX rv
  simpa using this
 have len:=ia.length;have ne:p≠s.heap.objs.size:=kc pl.lt;have nm:(Ah "max"++Ah ".loop":String)="max.loop":=by decide
 refine kmk_tree PySem.F.kind_max PySem.F.plain_max PySem.F.entry_max (zb2 _ _) ?_;refine kB (m:=Ab "max" ["key","default"] 0 ⟨[],[(kx "default",.int d t)]⟩) (Uy (show Ab "max" ["key","default"] 0 ⟨[],[(kx "default",.int d t)]⟩=pure [none,some (.int d t)] from rfl) (kB (kH (kB (DO pl.isList (kB (AH ?_ (uF _))))))));rw[nm];have W:=Walks.list (prog:=X.prog) (w:=X.w) (A:=X.A.in1) (show X.A.in1.handled=none from I.ok.hd hc) s.heap.objs.size p ne its.toArray;have it:∀i v,its.toArray[i]?=some v->∃t,v=Ce (ns.getD i 0) t:=λi v hv=>IntsAre.int_at ia i v (by simpa using hv)
 have sz:(s.heap.push {cls:=.type "list_iterator",data:=.fields #[.ref p,.int 0 0]}).objs.size=s.heap.objs.size+1:=by rw[QB]
 refine kH ⟨Qw PySem.F.plain_max_loop _,zed W (λi j=>decide (ns.getD i 0>ns.getD j 0)) (CmpOf.ints_gt (λi=>ns.getD i 0) it) _ (λz=>?_) (st:=W.frame 0 _ _ ⟨⟨_,kQ _ rfl,rfl,rfl⟩,pl.isList.push _⟩ λb _ o e=>kG _ e) (kQ _ rfl) λv h' tk hv kp=>?_⟩
 ·rw[sz] at z;have l2:p<s.heap.objs.size:=pl.lt;rcases kX.mp z with z|z
  ·exact absurd z (gZ (hV _))
  ·exact absurd (kf.mp z) (gZ (Da l2))
 ·have keep:∀b o,s.heap.get? b=some o->h'.get? b=some o:=λb o e=>by
   have lt:=kR e;refine kp b o (λz=>?_) (λz=>?_) (kG _ (kG _ e))
   ·exact absurd (show b=s.heap.objs.size by simpa using z) (kc lt)
   ·rw[sz] at z;exact absurd z (kc (Da lt))
  obtain⟨b1,b2⟩:=ZN (λi=>ns.getD i 0) (its.toArray.size-1);have J:Inv X pins σ H {s with heap:=h',toks:=tk}:=I.kept keep;rcases hv with⟨h0,hv⟩|⟨h0,rfl⟩
  ·obtain⟨t',rfl⟩:=it _ _ hv;have h0:0<its.length:=by simpa using h0
   have zi:its.toArray.size=its.length:=rfl;rw[zi] at b1 b2⊢;refine⟨.int _,H,J,⟨t',rfl⟩,q _ (λn hn=>?_) (.inl ?_)⟩
   ·obtain⟨i,hi,e⟩:=QH.mp hn;have:=b2 i (by omega)
    have e':ns.getD i 0=n:=by simp[hi,e]
    rw[e'] at this;exact this
   ·have hb:gl (λi j=>decide (ns.getD i 0>ns.getD j 0)) (its.length-1)<ns.length:=by omega
    rw[pB,kK hb];exact EC _
  ·have h0:its.length=0:=by simpa using h0
   have n0:ns=[]:=Ub (by omega)
   exact⟨.int d,H,J,⟨t,rfl⟩,q d (λn hn=>by rw[n0] at hn;cases hn) (.inr ⟨n0,rfl⟩)⟩
end
variable{es:Array gX}{ep:Nat}
section
variable{prog:kW}{w:kq}{A:pI}{E:kC->kE->Prop}{s:kE}
variable{od:Obj}
def zc1(hd:(d==ua)=false)(ho:s.heap.get? d=some od)(hc:od.cls=.type "dict")(hdat:od.data=.dict es ep)
  (q:Q (.ref s.heap.objs.size) {s with heap:=s.heap.push {cls:=.type "dict_keyiterator",data:=.fields #[.ref d,.int 0 0,.int es.size 0,.int ep 0]}}):wpAny (model prog w) A (FI (.ref d)) Q E s:=by
 have ty:s.TypeIs (.ref d) "dict":=⟨od,ho,hc⟩;refine Db ty Bl (uX Bl ty PySem.F.entry_dict_iter ?_ (PySem.F.args_dict_iter_1 _));unfold Qe.«dict.__iter__»;refine kB ?_;unfold Builtin.Dict.dictSlotNone;refine kB (CG ty (kH ?_));refine kB (m:=CH d) ?_;unfold CH;rw[if_neg (by rw[hd];decide)]
 refine kH (kB (gr ho hdat (kB (Bv ho hdat (kB (QQ (kH ⟨_,rfl,"dict_keyiterator",_,⟨_,kQ _ rfl,rfl⟩,PySem.F.slot_dict_keyiterator_next.lookup,?_⟩)))))))
 simpa[QY] using q
variable{Q:Option kC->kE->Prop}
theorem zdj{it:Addr}{i:Nat}(hit:s.heap.IsKeyIter it d i es.size ep)(ho:s.heap.get? d=some od)(hdat:od.data=.dict es ep)(hi:i<es.size)
  (q:∀h',h'.IsKeyIter it d (i+1) es.size ep->Qc it s.heap h'->Q (some es[i].key) {s with heap:=h'}):wpAny (model prog w) A (gb (.ref it)) Q E s:=by
 obtain⟨o,hoi,hci,hdi⟩:=id hit;have own:AT "dict_keyiterator"=false:=by decide
 unfold gb;refine kB (Qu (uW (name:=kx "__next__") hit.typeIs QF (uX QF hit.typeIs gC (kB (kH (kB (kB ?_)))) (hZ _))))
 first|refine kB (Qi hit.typeIs (kH (kB (Av hoi hdi ?_))))|refine kB (UQ hit.typeIs (kH (kB (Av hoi hdi ?_))))
 simp only[own,kr,if_false];show wpAny _ _ (if(ki d==pN)=true then _ else _) _ _ s;have nv:¬((ki d==pN)=true):=kZ;rw[if_neg nv];refine kB (kH (kB (gr ho hdat ?_)));rw[if_neg (by simp)]
 refine kB (kH (kB (Bv ho hdat ?_)));rw[if_neg (by simp)]
 refine kH ?_;simp only[show ¬((i:Int)<0) from by omega,if_false,QR,pR hi]
 refine kB ?_
 first|refine kB (Qi hit.typeIs (kH (kB (AB hit.typeIs ?_))))|refine kB (UQ hit.typeIs (kH (kB (AB hit.typeIs ?_))))
 refine kB (m:=setField (.ref it) 1 (QY ((i:Int)+1))) (gh hoi hdi (by simp) ?_)
 have st:(s.heap.update it (DC (·.setIfInBounds 1 (QY ((i:Int)+1))))).IsKeyIter it d (i+1) es.size ep:=⟨_,uM _ hoi (CF (gR hdi _)),(DW ..).trans hci,by rw[gR hdi];simp[QY]⟩
 refine kB (uq (kB (AB (s:={s with heap:=s.heap.update it (DC (·.setIfInBounds 1 (QY ((i:Int)+1))))}) st.typeIs ?_)));exact kH (kH ⟨_,rfl,kH (q _ st (uv ..))⟩)
theorem zf5{it:Addr}{i:Nat}(hh:A.handled=none)(hit:s.heap.IsKeyIter it d i es.size ep)(ho:s.heap.get? d=some od)(hdat:od.data=.dict es ep)(hi:es.size<=i)
  (q:∀h',EK it s.heap h'->Q none {s with heap:=h'}):wpAny (model prog w) A (gb (.ref it)) Q E s:=by
 obtain⟨o,hoi,hci,hdi⟩:=id hit;have own:AT "dict_keyiterator"=false:=by decide
 unfold gb;refine kB (Qu (uW (name:=kx "__next__") hit.typeIs QF (uX QF hit.typeIs gC (kB (kH (kB (kB ?_)))) (hZ _))))
 first|refine kB (Qi hit.typeIs (kH (kB (Av hoi hdi ?_))))|refine kB (UQ hit.typeIs (kH (kB (Av hoi hdi ?_))))
 simp only[own,kr,if_false];show wpAny _ _ (if(ki d==pN)=true then _ else _) _ _ s;have nv:¬((ki d==pN)=true):=kZ;rw[if_neg nv];refine kB (kH (kB (gr ho hdat ?_)));rw[if_neg (by simp)]
 refine kB (kH (kB (Bv ho hdat ?_)));rw[if_neg (by simp)]
 refine kH ?_;simp only[show ¬((i:Int)<0) from by omega,if_false,QR,ud hi]
 refine kB ?_
 first|refine kB (Qi hit.typeIs (kH ?_))|refine kB (UQ hit.typeIs (kH ?_))
 refine kB (m:=setField (.ref it) 0 .none) (gh hoi hdi (by simp) ?_)
 refine kB (m:=Ep (.type "StopIteration") []) ?_;simp only[Ep,newTuple]
 refine kB (QQ (kB (m:=Uz _ _) (Uy (a:=pN) (by first|rfl|(simp only[Uz];rfl)) (QQ ?_ (by size_fits)))) (by size_fits))
 simp only[raiseNew];refine kB (Cz ?_);rw[show A.in1.handled=none from hh];refine kB (kH (EL ?_));refine kB (QG (T:="StopIteration") (b:=true) ⟨_,kQ _ rfl,rfl⟩ CP (kH ?_));exact q _ (((uv ..).extBut.push _).push _)
end
section
variable{X:Cx}{tg:Expr}{pins:List (Addr×Obj)}{σ:St}{H:Hp}{s:kE}
theorem Jo{kvs:List (List Key×V)}{xs:List (List Key×Addr×kC)}{H:Hp}:Ae (λ(p:List Key×V)(q:List Key×Addr×kC)=>p.1=q.1/\H q.2.1=some (.tup (p.1.map kV))/\zt p.2 q.2.2) kvs xs->∀(j:Nat)(b:Addr)(kv:List Key×V),(xs.map λq=>q.2.1)[j]?=some b->kvs[j]?=some kv->H b=some (.tup (kv.1.map kV))
 |.nil,j,b,kv,h,_=>by cases h
 |.cons r t,0,b,kv,h,h'=>by cases h;cases h';exact r.2.1
 |.cons r t,j+1,b,kv,h,h'=>Jo t j b kv h h'
end
section
open PySem.SeqAt
open PySem.AutoSeq1 (wpAny_loadPart')
open PySem.MeetsSeq PySem.MeetsSeq2 PySem.MeetsSeq3
def extendT(l b:Addr)(items items2:Array kC)(n n2:Nat)(dd:Option Addr)(sl:Array (Option kC))(hs0:¬(!items.isEmpty&&Qd (items.size+items2.size))=true)(hs1:items.size<=sizeLine)(hs2:items.size+items2.size<=sizeLine+1):
  Meets (Qe.«list.extend» ⟨[.ref l,.ref b],[]⟩)
   (λ_ R s=>s.heap.get? l=some {cls:=.type "list",dict:=none,data:=.seq items n,slots:=#[]}/\s.heap.get? b=some {cls:=.type "tuple",dict:=dd,data:=.seq items2 n2,slots:=sl}/\R (.ok (.ret pN)) {s with heap:=s.heap.update l (kj λx=>x++items2),toks:=s.toks}):=
 .of_wp λprog w A R s h=>by
  obtain⟨hp,g,d,tk,os⟩:=s;obtain⟨hl,hb,h⟩:=h;have f5:=AutoSeq1.sub_list_tuple;have f3:=Bm;have zz:(items++items2).size<=sizeLine+1:=by rw[Dd];exact hs2
  wp_walk using(Qp hl rfl (hz:=hs1) (_hz':=zz)),QU hl,QU hb
  exact⟨_,rfl,h⟩
end
section
variable{X:Cx}
def rExtT:V->List V->Hp->VK->Prop:=λx vs H Q=>∃l b xs zs,x=.ref l/\vs=[.ref b]/\H l=some (.lst xs)/\H b=some (.tup zs)/\xs.length+zs.length<=sizeLine/\Q .non (upd H l (.lst (xs++zs)))
theorem mt_extT:MtM X "list.extend" rExtT:=by
 intro pins s σ H x vs v us Q I rx rv h;obtain⟨l,b,xs,zs,rfl,rfl,hH,hB,hz,q⟩:=h
 cases rx;obtain⟨u,rfl,ru⟩:=rv.one
 cases ru;obtain⟨z,its,n,r,hl,e⟩:=I.lstM hH;obtain⟨its2,r2,⟨⟨cls,dd,data,sl⟩,e2,hc,n2,hd⟩,_⟩:=I.tuple (.of hB)
 simp only at hc hd
 subst hc hd;have l2:=r2.length;have hsz:its.toArray.size+its2.toArray.size<=sizeLine:=by rw[kh,kh];omega
 have hlong:¬(!its.toArray.isEmpty&&Qd (its.toArray.size+its2.toArray.size))=true:=by rw[VV hsz,CN];decide
 refine DF gE ⟨_,e,rfl⟩ PySem.F.entry_list_extend (PySem.F.args_list_extend_2 _ _) (extendT l b its.toArray its2.toArray n n2 dd sl hlong (by rw[kh];omega) (by omega)) ⟨e,e2,.non,_,I.lset (its':=its++its2) hH e (by simp) (r.append r2) (by rw[kO];omega),rfl,q⟩
end
open PySem.W (kas_sort kas_ask)
def ltL:List (Int×Int)->List (Int×Int)->Bool
 |[],ys=>decide (0<ys.length)
 |_::_,[]=>false
 |x::xs,y::ys=>if x=y then ltL xs ys else HT.lexLt [x.1,x.2] [y.1,y.2]
def jM(h:Heap)(v:kC)(ns:List (Int×Int)):Prop:=∃(a:Addr)(its:List kC)(n:Nat),v=.ref a/\h.get? a=some (ko "list" its.toArray n)/\its.length=ns.length/\∀(i:Nat)(u:kC)(k:Int×Int),its[i]?=some u->ns[i]?=some k->yc h u [k.1,k.2]
variable{ns ms:List (Int×Int)}
section
variable{prog:kW}{w:kq}{A:pI}{E:kC->kE->Prop}{s:kE}{R:CL->kE->Prop}
theorem rc_pair{x y:kC}{k l:Int×Int}(hx:yc s.heap x [k.1,k.2])(hy:yc s.heap y [l.1,l.2])(hu:A.units+64<cLine)(q:Q (.bool (HT.lexLt [k.1,k.2] [l.1,l.2])) s):wpAny (model prog w) A (CQ .Lt x y) Q E s:=by
 obtain⟨a,its,n,dd,sl,rfl,o,i⟩:=hx;obtain⟨b,its2,n2,dd2,sl2,rfl,o2,i2⟩:=hy;exact Bn (op:=.Lt) ⟨_,o,rfl⟩ ⟨_,o2,rfl⟩ PySem.F.slot_tuple_lt PySem.F.entry_tuple_lt (PySem.F.args_tuple_lt_2 _ _) (tupleLt a b its its2 n n2 dd dd2 sl sl2 [k.1,k.2] [l.1,l.2] rfl i i2) ⟨o,o2,(λz=>nomatch z),q⟩ (by omega)
theorem ll_loop{a b:Addr}{xs ys:List kC}{n m:Nat}(hu:A.units+70<cLine)(ha:s.heap.get? a=some (ko "list" xs.toArray n))(hb:s.heap.get? b=some (ko "list" ys.toArray m))(lx:xs.length=ns.length)(ly:ys.length=ms.length)
  (tx:∀(i:Nat)(u:kC)(k:Int×Int),xs[i]?=some u->ns[i]?=some k->yc s.heap u [k.1,k.2])(ty:∀(i:Nat)(u:kC)(k:Int×Int),ys[i]?=some u->ms[i]?=some k->yc s.heap u [k.1,k.2]):
  ∀(f i:Nat),ns.length-i=f->i<=ns.length->i<=ms.length->R (.ok (.ret (.bool (ltL (ns.drop i) (ms.drop i))))) s->UK (model prog w) A (.builtin "list.__eq__.loop" ⟨[.ref a,.ref b,QY (i:Int),QY 0],[]⟩) R s:=by
 have fin:∀i:Nat,i<=ns.length->i<=ms.length->(ns.length=i∨ms.length=i)->ltL (ns.drop i) (ms.drop i)=decide (xs.length<ys.length):=λi h1 h2 h3=>by
  rcases h3 with h3|h3
  ·rw[gt (by omega),ltL,Qz]
   exact decide_eq_decide.mpr (by omega)
  ·rw[gt (l:=ms) (by omega)]
   cases e:ns.drop i with
   |nil=>
    have:=CW.mp e;rw[ltL];exact decide_eq_decide.mpr (by simp;omega)
   |cons k r=>
    rw[ltL];have:i<ns.length:=by
     rcases Nat.lt_or_ge i ns.length with z|z
     ·exact z
     ·rw[gt z] at e;cases e
    exact(decide_eq_false (by omega)).symm
 intro f
 induction f with
 |zero=>
  intro i hf h1 h2 q;have e:ns.length=i:=by omega
  refine QD BX ?_;rw[QI UY _];rw[fin i h1 h2 (.inl e)] at q;have gx:xs[i]?=none:=UE (by omega)
  refine kB (QS ha rfl (kB (QS hb rfl ?_)));simp only[QY,QR,Up,gx];exact kB (QS ha rfl (kB (QS hb rfl (kH q))))
 |succ f ih=>
  intro i hf h1 h2 q;refine QD BX ?_;rw[QI UY _];have li:i<xs.length:=by omega
  have gx:xs[i]?=some xs[i]:=kK li;refine kB (QS ha rfl (kB (QS hb rfl ?_)))
  by_cases hy:ms.length=i
  ·rw[fin i h1 h2 (.inr hy)] at q;have gy:ys[i]?=none:=UE (by omega)
   simp only[QY,QR,Up,gx,gy];exact kB (QS ha rfl (kB (QS hb rfl (kH q))))
  ·have lj:i<ys.length:=by omega
   have gy:ys[i]?=some ys[i]:=kK lj;have gn:ns[i]?=some ns[i]:=kK (by omega)
   have gm:ms[i]?=some ms[i]:=kK (by omega)
   have dx:ns.drop i=ns[i]::ns.drop (i+1):=QV (by omega)
   have dy:ms.drop i=ms[i]::ms.drop (i+1):=QV (by omega)
   rw[dx,dy,ltL] at q;have t1:=tx i _ _ gx gn;have t2:=ty i _ _ gy gm;simp only[QY,QR,Up,gx,gy];refine kB (eq_tupI t1 t2 (by show A.units+1+64<_;omega) ?_)
   by_cases e:ns[i]=ms[i]
   ·rw[if_pos e] at q;rw[decide_eq_true (by rw[e])]
    simp only[if_true];have z:=ih (i+1) (by omega) (by omega) (by omega) q
    exact kH ⟨Qw UY _,by simpa[QY] using z⟩
   ·rw[if_neg e] at q;have ne:¬[ns[i].1,ns[i].2]=[ms[i].1,ms[i].2]:=λz=>by
     simp only[EZ,and_true] at z;exact e (Ey z.1 z.2)
    rw[decide_eq_false ne];simp only[kr,if_false];refine kB (QS ha rfl (kB (QS hb rfl ?_)));simp only[Up,gx,gy];exact kB (rc_pair t1 t2 (by show A.units+1+64<_;omega) (kH q))
end
open PySem.W (kas_sort kas_ask)
def listLt(a b:Addr):Meets (Qe.«list.__lt__» ⟨[.ref a,.ref b],[]⟩) (λA R s=>A.units+70<cLine/\∃(xs ys:List kC)(n m:Nat)(ns ms:List (Int×Int)),s.heap.get? a=some (ko "list" xs.toArray n)/\s.heap.get? b=some (ko "list" ys.toArray m)/\xs.length=ns.length/\ys.length=ms.length/\
  (∀(i:Nat)(u:kC)(k:Int×Int),xs[i]?=some u->ns[i]?=some k->yc s.heap u [k.1,k.2])/\(∀(i:Nat)(u:kC)(k:Int×Int),ys[i]?=some u->ms[i]?=some k->yc s.heap u [k.1,k.2])/\R (.ok (.ret (.bool (ltL ns ms)))) s):=by
 intro prog w A R s h;obtain⟨hu,xs,ys,n,m,ns,ms,ha,hb,lx,ly,tx,ty,q⟩:=h;refine kB (m:=gP (.ref b) (.type "list")) (QG (T:="list") (b:=true) ⟨_,hb,rfl⟩ Bm ?_);exact kH ⟨Qw UY _,ll_loop (i:=0) hu ha hb lx ly tx ty _ rfl (uF _) (uF _) q⟩
section
variable{prog:kW}{w:kq}{A:pI}{E:kC->kE->Prop}{s:kE}{C:Bool->kE->Prop}
theorem lt_lst{x y:kC}(hx:jM s.heap x ns)(hy:jM s.heap y ms)(hu:A.units+70<cLine)(q:C (ltL ns ms) s):wpAny (model prog w) A (keyLt' oneType' x y) C E s:=by
 obtain⟨a,xs,n,rfl,ha,lx,tx⟩:=hx;obtain⟨b,ys,m,rfl,hb,ly,ty⟩:=hy;rw[keyLt'_oneType,oneLt'_eq];simp only[if_true];refine kB (wpAny_cRoomFor (by omega) (kB (wpAny_callSpecialIfBound?_slot ⟨_,ha,rfl⟩ CY (DF CY ⟨_,ha,rfl⟩ PySem.F.entry_list_lt (PySem.F.args_list_lt_2 _ _) (listLt a b) ⟨hu,xs,ys,n,m,ns,ms,ha,hb,lx,ly,tx,ty,?_⟩))))
 exact QO q
def Z6{M:Model}{vs:List kC}{Q:BT->kE->Prop}(h2:2<=vs.length)(hv:∀v,v∈vs->∃ns,jM s.heap v ns)(q:Q oneType' s):wpAny M A (Es vs.toArray) Q E s:=by
 refine PySem.W.kas_kind (T:=.type "list") h2 (λv h=>?_) (by decide) (by decide) q
 obtain⟨ns,a,its,n,rfl,o,_⟩:=hv v h;exact(AD o).andThen .now
end
open PySem.W (KasT kas_asc kas_desc kas_rev kas_tail3 kas_descPart kas_count kas_place kas_bin kas_sort)
theorem vM{α β:Type}{ans:Nat->Nat->Bool}{f:α->KasT β}:∀t:KasT α,ansT ans (t.bind f)=ansT ans (f (ansT ans t))
 |.ret _=>rfl
 |.ask i j k=>vM (k (ans i j))
variable{k:Nat}
section
variable{n:Nat}{ans:Nat->Nat->Bool}
theorem jT{p:Array Nat}{m:Nat}(hm:m<=p.size)(hk:k<m):(kas_rev p 0 m).getD k 0=p.getD (m-1-k) 0:=by
 have e:(kas_rev p 0 m)[k]?=p[m-1-k]?:=by
  unfold kas_rev;rw[Cp hm,if_pos (by omega)]
  congr 1
  omega
 rw[pz,pz,e]
theorem Zc{p:Array Nat}{l:Nat}(hk:k<p.size)(hl:l<=k)(i:Nat):(bubble p k (k-l)).getD i 0=if i=l then p.getD k 0 else if l<i/\i<=k then p.getD (i-1) 0 else p.getD i 0:=by
 have e:=getElem?_bubble hk (k-l) (by omega) i
 have x:k-(k-l)=l:=by omega
 rw[x] at e;rw[pz,e]
 by_cases c1:i=l
 ·rw[if_pos c1,if_pos c1,pz]
 ·rw[if_neg c1,if_neg c1]
  by_cases c2:l<i/\i<=k
  ·rw[if_pos c2,if_pos c2,pz]
  ·rw[if_neg c2,if_neg c2,pz]
end
open PySem.W (kas_sort kas_ask)
def LsI(H:Hp)(v:V)(ns:List (Int×Int)):Prop:=∃(q:Addr)(qs:List V),v=.ref q/\H q=some (.lst qs)/\qs.length=ns.length/\∀(j:Nat)(k:Int×Int),ns[j]?=some k->∃b,qs[j]?=some (.ref b)/\H b=some (.tup [.int k.1,.int k.2])
def KPl:KPT:=λH zs ans=>∃kp:Nat->List (Int×Int),(∀i,i<zs.length->LsI H (zs.getD i .non) (kp i))/\ans=λi j=>ltL (kp i) (kp j)
section
variable{X:Cx}{pins:List (Addr×Obj)}{σ:St}{H:Hp}{s:kE}
def lstI_of(I:Inv X pins σ H s){v:V}{u:kC}(h:LsI H v ns)(r:zt v u):jM s.heap u ns:=by
 obtain⟨q,qs,rfl,hq,hl,he⟩:=h
 cases(show u=ki q from r);obtain⟨z,its,n,rv,hlen,e⟩:=I.lstM hq;refine⟨q,its,n,rfl,e,by rw[←rv.length];exact hl,λi u k hu hk=>?_⟩
 obtain⟨b,hb,hH⟩:=he i k hk;obtain⟨v,hv,rr⟩:=vals_get? rv hu;rw[hb] at hv
 cases hv
 cases(show u=ki b from rr);exact WW I (ns:=[k.1,k.2]) hH
theorem zeb(hu:X.A.units+80<cLine):wn X KPl:=by
 intro pins σ H s zs ks ans I r h;obtain⟨kp,ok,rfl⟩:=h;have len:=r.length;have lst:∀i,i<ks.length->jM s.heap (ks.getD i pN) (kp i):=λi hi=>lstI_of I (ok i (by omega)) (vH r i (by omega))
 refine⟨oneType',λh2 Q' q'=>Z6 h2 (λv hv=>?_) q',λh2 i j C hi hj cc=>lt_lst (lst i hi) (lst j hj) (by show X.A.units+1+1+70<_;omega) cc⟩
 obtain⟨i,hi,e⟩:=QH.mp hv;refine⟨kp i,?_⟩;have t:=lst i hi;have e':ks.getD i pN=v:=by simp[hi,e]
 rw[e'] at t;exact t
end
def TupR(h:Heap)(v:kC)(ns ms:List Int)(l r:Bool):Prop:=∃(a:Addr)(x y:kC)(n:Nat)(dd:Option Addr)(sl:Array (Option kC)),v=.ref a/\h.get? a=some {cls:=.type "tuple",dict:=dd,data:=.seq #[x,y,.bool l,.bool r] n,slots:=sl}/\yc h x ns/\yc h y ms
open PySem.W (KatTups) in
theorem ktupsR{h:Heap}:∀vs:List kC,(∀v,v∈vs->∃a b l r,a≠[]/\TupR h v a b l r)->∃fs,fs.length=vs.length/\KatTups h vs fs/\∀f,f∈fs->∃ns,yc h f ns
 |[],_=>⟨[],rfl,.nil,λf hf=>by cases hf⟩
 |v::vs,hv=>by
  obtain⟨fs,l,t,r⟩:=ktupsR vs λu hu=>hv u (pG _ hu);obtain⟨a,b,l',r',ne,p,x,y,n,dd,sl,rfl,o,i,j⟩:=hv v (pU ..);refine⟨x::fs,by simp[l],.cons o rfl rfl rfl t,λf hf=>?_⟩
  rcases kX.mp hf with rfl|hf
  ·exact⟨_,i⟩
  ·exact r f hf
open PySem.W (CodeHd codeHdIn tabIn)
structure xi(K:kF)(x qual:Str)(st:Stmt)(f:Addr)(fd:pZ)(c P:Addr):Prop where
 ex:∃(oc:kC)(od:Option Addr)(kV doc pm:kC)(an:Option Addr)(ct:kC)(osl:Array (Option kC)),
  fd=uG x qual (yJ st) (ya st) (zo st) .none kV doc pm an (.ref c) ct/\K.lookup f=some ⟨oc,od,.func fd,osl⟩/\QP K (.ref c) qual=true
 hd:codeHdIn K c P=true
section
variable{P:kW}{w:kq}{K:kF}{mg:Str->Option kC}{base:Heap}
def xi.ok{x qual:Str}{st:Stmt}{f c tb:Addr}{fd:pZ}{N:List Str}(F:xi K x qual st f fd c tb)(S:zA N ps (zo st))(len:∀vs H Q E,sp vs H Q E->vs.length=ps.length)
  (hbody:∀(A:pI)(outer:List Env)(s:kE)(H:Hp)(vs:List V)(Q:VK)(E:XK),zD k (A.deeper (QL qual (zo st) s.heap.objs.size f (.ref c)))->sp vs H Q E->
   ∃t,PSs (ym CX0 P w K mg base N qual (zo st) f (.ref c) A outer s H E).nox (ya st) t/\t {nx:=λ_ H'=>Q .non H',rt:=Q} (start N vs) H):zw P w K mg base CX0 (k+1) f fd ps sp:=by
 obtain⟨oc,od,kV,doc,pm,an,ct,osl,rfl,lk,hcd⟩:=F.ex;refine YK lk hcd S len λA outer s H vs Q E hr hsp=>?_;obtain⟨t,h,q⟩:=hbody A outer s H vs Q E hr hsp;exact⟨t,h.nox,q⟩
end
open PySem.W (kas_sort)
structure STO{α:Type}(lt:α->α->Bool):Prop where
 irr:∀a,lt a a=false
 tr:∀a b c,lt a b=true->lt b c=true->lt a c=true
 tot:∀a b,a≠b->lt a b=true∨lt b a=true
def vD{α β:Type}[DecidableEq α](r:α->α->Bool)(s:β->β->Bool)(a b:α×β):Bool:=if a.1=b.1 then s a.2 b.2 else r a.1 b.1
def STO.lex{α β:Type}[DecidableEq α]{r:α->α->Bool}{s:β->β->Bool}(R:STO r)(S:STO s):STO (vD r s) where
 irr a:=by unfold vD;rw[if_pos rfl];exact S.irr _
 tr a b c h1 h2:=by
  unfold vD at*
  by_cases e1:a.1=b.1
  ·rw[if_pos e1] at h1
   by_cases e2:b.1=c.1
   ·rw[if_pos e2] at h2;rw[if_pos (e1.trans e2)];exact S.tr _ _ _ h1 h2
   ·rw[if_neg e2] at h2;rw[if_neg (λz=>e2 (e1.symm.trans z)),e1];exact h2
  ·rw[if_neg e1] at h1
   by_cases e2:b.1=c.1
   ·rw[if_neg (λz=>e1 (z.trans e2.symm)),←e2];exact h1
   ·rw[if_neg e2] at h2;have n:a.1≠c.1:=λz=>by
     rw[←z] at h2;have:=R.tr _ _ _ h1 h2;rw[R.irr] at this
     cases this
    rw[if_neg n];exact R.tr _ _ _ h1 h2
 tot a b h:=by
  unfold vD
  by_cases e:a.1=b.1
  ·rw[if_pos e,if_pos e.symm];exact S.tot _ _ λz=>h (Ey e z)
  ·rw[if_neg e,if_neg λz=>e z.symm];exact R.tot _ _ e
theorem STO.int:STO (λa b:Int=>decide (a<b)) where
 irr a:=decide_eq_false (by omega)
 tr a b c h1 h2:=decide_eq_true (by have:=of_decide_eq_true h1;have:=of_decide_eq_true h2;omega)
 tot a b h:=by
  rcases Int.lt_or_gt_of_ne h with h|h
  ·exact .inl (decide_eq_true h)
  ·exact .inr (decide_eq_true h)
abbrev lt2:Int×Int->Int×Int->Bool:=vD (λa b=>decide (a<b)) (λa b=>decide (a<b))
def sto2:STO lt2:=STO.int.lex STO.int
theorem lex1(a b:Int):HT.lexLt [a] [b]=decide (a<b):=by
 rw[HT.lexLt_cons,HT.lexLt_nil_nil]
 by_cases e:a=b
 ·rw[if_pos e];exact(decide_eq_false (by omega)).symm
 ·rw[if_neg e]
def lex2(a b c d:Int):HT.lexLt [a,b] [c,d]=lt2 (a,b) (c,d):=by
 rw[HT.lexLt_cons,lex1];rfl
end L2
namespace L2
open PySem
theorem hu80{A:pI}{k:Nat}(hr:zD k A):A.units+80<cLine:=by have:=hu100 hr;omega
def lamAt(st:Stmt):Scope×Pos:=match(ya st).getLast? with
 |some (.Return (some (.Call _ _ (⟨_,.Lambda _ _ sc lp,_⟩::_) _)) _)=>(sc,lp)
 |_=>(zo st,⟨0,0,0,0⟩)
end L2
namespace L2
open PySem PySem.Spec PyProof.Rows
variable{od:Obj}
section
variable{prog:kW}{w:kq}{A:pI}{E:kC->kE->Prop}{s:kE}{R:CL->kE->Prop}
variable{es:Array gX}{ep:Nat}
def zds(hh:A.handled=none)(I d:Addr)(hne:d≠I)(hdat:od.data=.dict es ep):
  Walks prog w A I [I,d] [I] es.size (λi v=>∃e,es[i]?=some e/\v=e.key) (λi h=>h.IsKeyIter I d i es.size ep/\h.get? d=some od) where
 sub:=λb hb=>by simp at hb;simp[hb]
 frame:=λ_ _ _ st hk=>⟨st.1.at λo e=>hk I (by simp) o e,hk d (by simp) _ st.2⟩
 item:=λi s Q E hi st hQ=>by
  refine zdj st.1 st.2 hdat hi λh' hit' hs'=>?_;exact hQ _ h' s.toks ⟨_,pR hi,rfl⟩ ⟨hit',hs'.extBut d od hne st.2⟩ λb o hb e=>hs'.extBut b o (λh=>hb (by simp[h])) e
 done:=λs Q E st hQ=>zf5 hh st.1 st.2 hdat (kN _) λh' he'=>hQ h' s.toks λb o hb e=>he' b o (λh=>hb (by simp[h])) e
 self:=λ_ _ _ _ st hQ=>wpAny_pyIter_keyiter st.1 hQ
variable{d:Addr}
def ze4(hh:A.handled=none)(hd:(d==ua)=false)(ho:s.heap.get? d=some od)(hc:od.cls=.type "dict")(hdat:od.data=.dict es ep)(S:Addr)(res:kC)(c₀:Nat)(hS:s.heap.get? S=some {cls:=.type "list",data:=.seq #[] c₀})
  (hR:∀h' tk acc' c',(∀b o,b≠S->s.heap.get? b=some o->h'.get? b=some o)->h'.get? S=some {cls:=.type "list",dict:=none,data:=.seq acc' c',slots:=#[]}->
   De (λi v=>∃e,es[i]?=some e/\v=e.key) acc' es.size->R (.ok (.ret res)) {s with heap:=h',toks:=tk}) (hn:es.size<=sizeLine):
  wpAny (model prog w) A.in1 (uA (.ref S) (.ref d) res)
   (λfin s'=>match fin with|.done f=>R (.ok f) s'|.again c'=>c'.quiet=true/\UK (model prog w) A c' R s') (λe s'=>R (.error e) s') s:=by
 have hSd:S≠d:=λe=>by rw[e,ho] at hS;cases hS;cases hdat
 have hSI:S≠s.heap.objs.size:=kc (kR hS);have hdI:d≠s.heap.objs.size:=kc (kR ho);have hSf:S∉[s.heap.objs.size,d]:=λhm=>(kX.mp hm).elim hSI λz=>hSd (kf.mp z);have ty:s.TypeIs (.ref d) "dict":=⟨od,ho,hc⟩;unfold uA;refine kB (Df ty ?_);have h1:UR (.ref S) (.ref d)=false:=by simp[UR,hSd]
 have h2:(uj "dict"==uj "list")=false:=by decide
 have h3:(uj "dict"==uj "tuple")=false:=by decide
 simp only[h1,h2,h3,Cy,kr,if_false];refine kB (zc1 hd ho hc hdat ?_);generalize hit:s.heap.push {cls:=.type "dict_keyiterator",data:=.fields #[.ref d,.int 0 0,.int es.size 0,.int ep 0]}=h1;have k1:∀b o,s.heap.get? b=some o->h1.get? b=some o:=λb o e=>by rw[←hit];exact kG _ e
 have st1:h1.IsKeyIter s.heap.objs.size d 0 es.size ep:=by rw[←hit];exact⟨_,kQ _ rfl,rfl,rfl⟩
 have ty1:FC {s with heap:=h1} (.ref d) "dict":=⟨od,k1 _ _ ho,hc⟩;refine kB (uq ?_);unfold Ac;refine kB (Qo ty1 PySem.F.slot_dict_len.lookup ?_)
 wp_delta
 refine kB (QG ty1 (b:=true) (by rw[kz];kernel_rfl) ?_)
 show wpAny _ _ (BG (ki d)>>=_) _ _ _
 refine kB (Df ty1 ?_);refine kH ?_;rw[if_pos (by decide)]
 refine kB (UP ?_);refine kB ?_;show wpAny _ _ (ED S (·.push .none)>>=λ_=>ED S (·.pop)) _ _ _;have hS₁:=k1 _ _ hS;refine kB (Qp hS₁ rfl ?_);have hS₂:=uM (kj (·.push pN)) hS₁ rfl;refine Qp (hz:=by seq_fits) hS₂ rfl ?_
 have hS₃:=uM (kj (·.pop)) hS₂ rfl;have oth:∀b o,b≠S->h1.get? b=some o->((h1.update S (kj (·.push pN))).update S (kj (·.pop))).get? b=some o:=
  λb o hb e=>(uH _ _ (QM hb)).trans ((uH _ _ (QM hb)).trans e)
 refine kH ⟨Qw Cq _,CZ (zds (A:=A.in1) hh s.heap.objs.size d hdI hdat).toS hn _ hSf _ es.size 0 _ _ _ rfl (uF _) ⟨st1.at λo e=>oth _ o (QM hSI) e,oth _ _ (QM hSd) (k1 _ _ ho)⟩ hS₃ (FT _) λs' acc' c' hm hS' hacc=>?_⟩;rw[FD hm];refine hR s'.heap s'.toks acc' c' (λb ob hb e=>hm.heap b ob (λhmem=>?_) (oth b ob hb (k1 _ _ e))) hS' hacc;rcases kX.mp hmem with e'|hmem
 ·exact hb e'
 ·exact absurd (kR e) (by rw[kf.mp hmem];exact Qb _)
def zco(hh:A.handled=none)(hd:(d==ua)=false)(ho:s.heap.get? d=some od)(hc:od.cls=.type "dict")(hdat:od.data=.dict es ep)(S:Addr)(hS:s.heap.get? S=some {cls:=.type "list",data:=.seq #[]})
  (hR:∀h' tk acc' c',(∀b o,b≠S->s.heap.get? b=some o->h'.get? b=some o)->h'.get? S=some {cls:=.type "list",dict:=none,data:=.seq acc' c',slots:=#[]}->
   De (λi v=>∃e,es[i]?=some e/\v=e.key) acc' es.size->R (.ok (.ret .none)) {s with heap:=h',toks:=tk}) (hn:es.size<=sizeLine):
  wpAny (model prog w) A.in1 (Qe.«list.__init__» ⟨[.ref S,.ref d],[]⟩)
   (λfin s'=>match fin with|.done f=>R (.ok f) s'|.again c'=>c'.quiet=true/\UK (model prog w) A c' R s') (λe s'=>R (.error e) s') s:=by
 have hSd:S≠d:=λe=>by rw[e,ho] at hS;cases hS;cases hdat
 show wpAny _ _ (do let old ←Ug (.ref S);BY (.ref S) (λ_=>#[]);letGo old.toList.reverse;uA (.ref S) (.ref d) .none) _ _ s
 refine kB ?_;unfold Ug;refine kB (uE hS rfl (kH ?_));show wpAny _ _ (ED S (λ_=>#[])>>=λ_=>letGo (#[]:Array kC).toList.reverse>>=λ_=>uA (.ref S) (.ref d) .none) _ _ s;refine kB (Qp hS rfl ?_);have hS₂:=uM (kj (λ_=>(#[]:Array kC))) hS rfl;have oth:∀b o,b≠S->s.heap.get? b=some o->(s.heap.update S (kj (λ_=>(#[]:Array kC)))).get? b=some o:=
  λb o hb e=>(uH _ _ (QM hb)).trans e
 refine kB (Ua ?_);refine ze4 hh hd (oth d _ (QM hSd) ho) hc hdat S .none _ hS₂ (λh' tk acc' c' hk hS' hacc=>?_) hn;exact hR h' tk acc' c' (λb o hb e=>hk b o hb (oth b o hb e)) hS' hacc
def YS{Q:kC->kE->Prop}(hh:A.handled=none)(hd:(d==ua)=false)(ho:s.heap.get? d=some od)(hc:od.cls=.type "dict")(hdat:od.data=.dict es ep)
  (hQ:∀h' tk acc' c',(∀b o,s.heap.get? b=some o->h'.get? b=some o)->h'.get? s.heap.objs.size=some {cls:=.type "list",dict:=none,data:=.seq acc' c',slots:=#[]}->
   De (λi v=>∃e,es[i]?=some e/\v=e.key) acc' es.size->Q (.ref s.heap.objs.size) {s with heap:=h',toks:=tk}) (hn:es.size<=sizeLine):
  wpAny (model prog w) A (call (.type "list") [.ref d]) Q E s:=by
 refine callType_codes (Q₁:=λobj s₁=>obj=.ref s.heap.objs.size/\s₁={s with heap:=s.heap.push {cls:=.type "list",data:=.seq #[]}}) Cr (BZ _) Ba
  (code_list_new _ ⟨rfl,rfl⟩) λobj s₁ h₁=>?_
 obtain⟨rfl,rfl⟩:=h₁;have hS:(s.heap.push {cls:=.type "list",data:=.seq #[]}).get? s.heap.objs.size=some {cls:=.type "list",data:=.seq #[]}:=kQ _ rfl;refine⟨⟨_,hS,rfl⟩,BL _ _,zco (A:=A.in1) hh hd (kG _ ho) hc hdat _ hS (λh' tk acc' c' hk hS' hacc=>?_) hn⟩;exact⟨rfl,hQ h' tk acc' c' (λb o e=>hk b o (kc (kR e)) (kG _ e)) hS' hacc⟩
end
section
variable{X:Cx}
theorem Wy{f:List Addr}:∀{acc:List kC},acc=f.map ki->zr (f.map V.ref) acc:=by
 intro acc e;subst e
 induction f with
 |nil=>exact .nil
 |cons a f ih=>exact .cons rfl ih
def VC(K:kF):R2:=λx y H Q=>∃d es,RdD K H d x/\RdD K H (.list es) y/\d.canLay0=true/\uJ es=true/\d.depth<=60/\Q (.bl (!(es.any λe=>QE e d))) H
theorem zbx(hu:X.A.units+64<cLine):OpR X (ug .NotIn) (VC X.K):=by
 intro pins s σ H x y v u Q I rx ry h;obtain⟨d,es,hd,he,c1,c2,c3,q⟩:=h;obtain⟨as,ra⟩:=xU I d x v hd rx;obtain⟨bs,rb⟩:=xU I _ y u he ry;exact SeqAt.notIn_list_reads rb ra c2 c1 (by omega) ⟨.bl _,H,I,rfl,q⟩
end
namespace RV
def mro:mroOf (.type "reversed")=pure [.type "reversed",.type "object"]:=by rw[mroOf_type];kernel_rfl
def lookNew:Bf (.type "reversed") "__new__"=pure (some (.builtin "reversed.__new__")):=by rw[gL,UF];kernel_rfl
def made:Bind.madeBy (.type "reversed")=pure (some "reversed.__new__"):=madeBy_type mro lookNew (by decide+kernel)
def notType:(uj "reversed"==uj "type")=false:=by decide+kernel
def canCreate:((Ez "reversed").bind (·.mro.findSome? λt=>(Ez t).bind λb=>if b.noNew then some true else if b.attrs.any (·.1=="__new__") then some false else none)).getD false=false:=by decide+kernel
def typeCall(a:kC):checkTypeCall "reversed" ⟨[a],[]⟩=pure ():=by kernel_rfl
def newCall(a:kC):BS "reversed.__new__" ⟨[.type "reversed",a],[]⟩=pure ():=by kernel_rfl
def entryNew:entryFor table "reversed.__new__"=some Qe.«reversed.__new__»:=EE (by kernel_rfl)
def plainNew:plainId "reversed.__new__"=true:=by decide+kernel
def subSelf:hW (.type "reversed") (.type "reversed")=pure true:=by rw[kz];kernel_rfl
def subIt:hW (.type "list_reverseiterator") (.type "reversed")=pure false:=by rw[kz];kernel_rfl
def slotIter:Slot "list_reverseiterator" "__iter__" "list_reverseiterator.__iter__":=
 .of (owner:="list_reverseiterator") (n:="__iter__") (by rw[gL,UF];kernel_rfl) (by decide+kernel) (by decide+kernel) (by decide+kernel)
  (by first|exact .inl (by decide+kernel)|exact .inr (by decide+kernel)) (by rw[kz];kernel_rfl)
def slotNext:Slot "list_reverseiterator" "__next__" "list_reverseiterator.__next__":=
 .of (owner:="list_reverseiterator") (n:="__next__") (by rw[gL,UF];kernel_rfl) (by decide+kernel) (by decide+kernel) (by decide+kernel)
  (by first|exact .inl (by decide+kernel)|exact .inr (by decide+kernel)) (by rw[kz];kernel_rfl)
def entryIter:entryFor table "list_reverseiterator.__iter__"=some Qe.«dict_keyiterator.__iter__»:=
 entryFor_alias (id':="dict_keyiterator.__iter__") (by kernel_rfl) rfl (by decide+kernel) (by kernel_rfl)
def entryNext:entryFor table "list_reverseiterator.__next__"=some Qe.«list_reverseiterator.__next__»:=EE (by kernel_rfl)
def owner:Manifest.owners.lookup (String.ofList "list_reverseiterator".toList.reverse.reverse)=some Manifest.sig_list_reverseiterator:=by kernel_rfl
def argsIter(a:kC):DI "list_reverseiterator.__iter__" ⟨[a],[]⟩:=by
 unfold DI;rw[signature?_of (id:="list_reverseiterator.__iter__") (n:="__iter__".toList.reverse) (o:="list_reverseiterator".toList.reverse) (by kernel_rfl) owner];kernel_rfl
def argsNext(a:kC):DI "list_reverseiterator.__next__" ⟨[a],[]⟩:=by
 unfold DI;rw[signature?_of (id:="list_reverseiterator.__next__") (n:="__next__".toList.reverse) (o:="list_reverseiterator".toList.reverse) (by kernel_rfl) owner];kernel_rfl
def noLen:Bf (.type "list_reverseiterator") "__len__"=pure none:=by rw[gL,UF];kernel_rfl
def hint:Bf (.type "list_reverseiterator") "__length_hint__"=pure (some (.builtin "list_reverseiterator.__length_hint__")):=by rw[gL,UF];kernel_rfl
end RV
abbrev rvO(l:Addr)(n:Nat):Obj:={cls:=.type "list_reverseiterator",data:=.fields #[.ref l,QY ((n:Int)-1)]}
variable{l:Addr}{items:Array kC}
section
variable{prog:kW}{w:kq}{A:pI}{E:kC->kE->Prop}{s:kE}{R:CL->kE->Prop}
theorem zet{n:Nat}{Q₁:kC->kE->Prop}(hl:s.heap.get? l=some {cls:=.type "list",dict:=none,data:=.seq items n,slots:=#[]})
  (h:Q₁ (.ref s.heap.objs.size) {s with heap:=s.heap.push (rvO l items.size)}):
  UK (model prog w) A (.call (.builtin "reversed.__new__") ⟨[.type "reversed",.ref l],[]⟩) (wants Q₁ E) s:=by
 refine Ea ?_;show wpAny _ A.in1 (do BS "reversed.__new__" ⟨[.type "reversed",.ref l],[]⟩;again (.builtin "reversed.__new__" ⟨[.type "reversed",.ref l],[]⟩)) _ _ s;refine kB (Uy (RV.newCall (.ref l)) (kH ⟨Qw RV.plainNew _,QD RV.entryNew ?_⟩));rw[QI RV.plainNew _];unfold Qe.«reversed.__new__» Builtin.SmallTypes.newClass;have hsub:=RV.subSelf;have hT:s.TypeIs (.ref l) "list":=⟨_,hl,rfl⟩;have hlk:=PySem.F.slot_list_reversed.lookup;have hbi:=PySem.F.slot_list_reversed.bind (.ref l)
 wp_walk
 refine Qs (AK (R:=wants (λobj s₁=>obj=.ref s.heap.objs.size/\s₁={s with heap:=s.heap.push (rvO l items.size)}) E) PySem.F.slot_list_reversed.plain PySem.F.entry_list_reversed (PySem.F.slot_list_reversed.check _ _ _ _ _ _ _ _ hT (PySem.F.args_list_reversed_1 _) (AutoListH.list___reversed___list_0 l items n prog w A.in1 _ s ⟨hl,rfl,rfl⟩))) λr s₁ hr=>?_
 cases r with
 |error e=>exact hr
 |ok fl=>
  cases fl with
  |ret obj=>
   obtain⟨rfl,rfl⟩:=hr;exact kH h
  |_=>exact hr.elim
variable{Q:kC->kE->Prop}
theorem Jh{n:Nat}(hl:s.heap.get? l=some {cls:=.type "list",dict:=none,data:=.seq items n,slots:=#[]})
  (h:Q (.ref s.heap.objs.size) {s with heap:=s.heap.push (rvO l items.size)}):
  wpAny (model prog w) A (call (.type "reversed") [.ref l]) Q E s:=by
 have hmro:=RV.mro;have hmade:=RV.made;have hsub:=RV.subIt;refine gM (Ea ?_);show wpAny _ _ (callAny (.type "reversed") _) _ _ _;refine kH ⟨An _ (by decide+kernel),QD PySem.F.entry_type_call ?_⟩
 rw[Around.under_plain (weight_type_call_type "reversed" [.ref l] []) rfl];have h1:=RV.notType;have h2:=RV.canCreate;have hct:=RV.typeCall (.ref l)
 repeat (any_goals (first|assumption|wp_step))
 refine Qs (zet (E:=E) (Q₁:=λobj s₁=>obj=.ref s.heap.objs.size/\s₁={s with heap:=s.heap.push (rvO l items.size)}) hl ⟨rfl,rfl⟩) λr s₁ hr=>?_
 cases r with
 |error e=>exact hr
 |ok fl=>
  cases fl with
  |ret obj=>
   obtain⟨rfl,rfl⟩:=hr;have hT:FC {s with heap:=s.heap.push (rvO l items.size)} (.ref s.heap.objs.size) "list_reverseiterator":=⟨_,kQ _ rfl,rfl⟩
   repeat (any_goals (first|assumption|wp_step))
  |_=>exact hr.elim
def xY(h:Heap)(it l:Addr)(m:Nat):Prop:=h.get? it=some (rvO l m)
variable{it:Addr}
def qj{m:Nat}(hit:xY s.heap it l m)(h:Q (.ref it) s):wpAny (model prog w) A (FI (.ref it)) Q E s:=by
 have ty:s.TypeIs (.ref it) "list_reverseiterator":=⟨_,hit,rfl⟩;refine Db ty RV.slotIter (uX RV.slotIter ty RV.entryIter ?_ (RV.argsIter _));show wpAny _ _ (ret (.ref it)) _ _ s;exact kH ⟨_,rfl,"list_reverseiterator",_,ty,RV.slotNext.lookup,h⟩
theorem Zr{m:Nat}{x:kC}{Q:Option kC->kE->Prop}(hit:xY s.heap it l (m+1))(hl:s.heap.IsList l items)(hx:items[m]?=some x)
  (hQ:∀h',xY h' it l m->Qc it s.heap h'->Q (some x) {s with heap:=h'}):wpAny (model prog w) A (gb (.ref it)) Q E s:=by
 have ty:s.TypeIs (.ref it) "list_reverseiterator":=⟨_,hit,rfl⟩;obtain⟨ol,hol,_,nl,hdl⟩:=hl;unfold gb;refine kB (Qu (uW (name:=kx "__next__") ty RV.slotNext (uX RV.slotNext ty RV.entryNext ?_ (RV.argsNext _))));show wpAny _ _ (field (.ref it) 1>>=_) _ _ s;have em:(((m+1:Nat):Int)-1)=(m:Int):=by omega
 refine kB (uz hit rfl (x:=.int (((m+1:Nat):Int)-1) 0) rfl ?_);rw[em];show wpAny _ _ (if(m:Int)<0 then _ else _) _ _ s;rw[if_neg (by omega)]
 show wpAny _ _ (field (.ref it) 0>>=_) _ _ s
 refine kB (uz hit rfl (x:=.ref l) rfl ?_);show wpAny _ _ (Ad (.ref l)>>=_) _ _ s;refine kB (uE hol hdl ?_);simp only[QR,hx];refine kB (gh hit rfl (by simp) (kH ⟨x,rfl,kH (hQ _ ?_ (uv ..))⟩))
 have z:=uM (DC λfs=>fs.set! 1 (QY ((m:Int)-1))) hit rfl;exact z
def J8{Q:Option kC->kE->Prop}(hh:A.handled=none)(hit:xY s.heap it l 0)
  (hQ:∀h',EK it s.heap h'->Q none {s with heap:=h'}):wpAny (model prog w) A (gb (.ref it)) Q E s:=by
 have ty:s.TypeIs (.ref it) "list_reverseiterator":=⟨_,hit,rfl⟩;unfold gb;refine kB (Qu (uW (name:=kx "__next__") ty RV.slotNext (uX RV.slotNext ty RV.entryNext ?_ (RV.argsNext _))));show wpAny _ _ (field (.ref it) 1>>=_) _ _ s;refine kB (uz hit rfl (x:=.int (((0:Nat):Int)-1) 0) rfl ?_);show wpAny _ _ (if(((0:Nat):Int)-1)<0 then _ else _) _ _ s;rw[if_pos (by decide)]
 refine kB (UP (kB ?_));show wpAny _ _ (Ep (.type "StopIteration") []>>=_) _ _ _;refine kB ?_;simp only[Ep,newTuple];refine kB (QQ ?_ (by size_fits))
 refine kB (m:=Uz _ _) (Uy (a:=pN) (by first|rfl|(simp only[Uz];rfl)) ?_)
 refine QQ ?_ (by size_fits)
 simp only[raiseNew];refine kB (Cz ?_);rw[show A.in1.handled=none from hh];refine kB (kH (EL ?_));refine kB (QG (T:="StopIteration") (b:=true) ⟨_,kQ _ rfl,rfl⟩ CP ?_);exact kH (hQ _ λb o _ e=>kG _ (kG _ e))
theorem zcj(hh:A.handled=none)(I l:Addr)(hne:l≠I)(items:Array kC):
  Walks prog w A I [I,l] [I] items.size (λi v=>items[items.size-1-i]?=some v) (λi h=>(∃m,m+i=items.size/\xY h I l m)/\h.IsList l items) where
 sub:=λb hb=>by simp at hb;simp[hb]
 frame:=λ_ _ _ st hk=>⟨let⟨m,e,r⟩:=st.1;⟨m,e,hk I (by simp) _ r⟩,st.2.at λo e=>hk l (by simp) o e⟩
 item:=λi s Q E hi st hQ=>by
  obtain⟨⟨m,e,r⟩,hl⟩:=st;obtain⟨k,rfl⟩:∃k,m=k+1:=⟨m-1,by omega⟩
  have hk:k<items.size:=by omega
  refine Zr r hl (x:=items[k]) (pR hk) λh' hit' hs'=>?_;exact hQ _ h' s.toks (by rw[show items.size-1-i=k by omega];exact pR hk) ⟨⟨k,by omega,hit'⟩,hl.extBut hs'.extBut hne⟩ λb o hb e=>hs'.extBut b o (λh=>hb (by simp[h])) e
 done:=λs Q E st hQ=>by
  obtain⟨⟨m,e,r⟩,hl⟩:=st;have e0:m=0:=by omega
  subst e0;exact J8 hh r λh' he'=>hQ h' s.toks λb o hb e=>he' b o (λh=>hb (by simp[h])) e
 self:=λ_ _ _ _ st hQ=>let⟨m,e,r⟩:=st.1;qj r hQ
theorem zbm(hh:A.handled=none){r:Addr}(hr:xY s.heap r l items.size)(hl:s.heap.IsList l items)(hlr:l≠r)(S:Addr)(res:kC)(c₀:Nat)(hS:s.heap.get? S=some {cls:=.type "list",data:=.seq #[] c₀})(hSl:S≠l)
  (hR:∀h' tk acc' c',(∀b o,b≠S->b≠r->s.heap.get? b=some o->h'.get? b=some o)->h'.get? S=some {cls:=.type "list",dict:=none,data:=.seq acc' c',slots:=#[]}->
   De (λi v=>items[items.size-1-i]?=some v) acc' items.size->R (.ok (.ret res)) {s with heap:=h',toks:=tk}) (hn:items.size<=sizeLine):
  wpAny (model prog w) A.in1 (uA (.ref S) (.ref r) res)
   (λfin s'=>match fin with|.done f=>R (.ok f) s'|.again c'=>c'.quiet=true/\UK (model prog w) A c' R s') (λe s'=>R (.error e) s') s:=by
 have hSr:S≠r:=λe=>by
  have hr:s.heap.get? r=some (rvO l items.size):=hr;rw[e,hr] at hS;have:=congrArg Obj.data (pL hS)
  cases this
 have hSf:S∉[r,l]:=λhm=>(kX.mp hm).elim hSr λz=>hSl (kf.mp z);have ty:s.TypeIs (.ref r) "list_reverseiterator":=⟨_,hr,rfl⟩;unfold uA;refine kB (Df ty ?_);have h1:UR (.ref S) (.ref r)=false:=by simp[UR,hSr]
 have h2:(uj "list_reverseiterator"==uj "list")=false:=by decide
 have h3:(uj "list_reverseiterator"==uj "tuple")=false:=by decide
 simp only[h1,h2,h3,Cy,kr,if_false];refine kB (qj hr ?_);refine kB (uq ?_);unfold Ac;refine kB (Qo ty RV.noLen ?_)
 wp_delta
 refine kB (Qo ty RV.hint ?_);refine kB (QG ty (b:=true) (by rw[kz];kernel_rfl) ?_)
 refine kH ?_;rw[if_neg (by decide)]
 refine kH ⟨Qw Cq _,CZ (zcj (A:=A.in1) hh r l hlr items).toS hn _ hSf _ items.size 0 _ _ _ rfl (uF _) ⟨⟨_,by omega,hr⟩,hl⟩ hS (FT _) λs' acc' c' hm hS' hacc=>?_⟩
 rw[FD hm];refine hR s'.heap s'.toks acc' c' (λb ob hb hb' e=>hm.heap b ob (λhmem=>?_) e) hS' hacc;rcases kX.mp hmem with e'|hmem
 ·exact hb e'
 ·exact hb' (kf.mp hmem)
def zf7(hh:A.handled=none){r:Addr}(hr:xY s.heap r l items.size)(hl:s.heap.IsList l items)(hlr:l≠r)
  (hQ:∀h' tk acc' c',(∀b o,b≠r->s.heap.get? b=some o->h'.get? b=some o)->h'.get? s.heap.objs.size=some {cls:=.type "list",dict:=none,data:=.seq acc' c',slots:=#[]}->
   De (λi v=>items[items.size-1-i]?=some v) acc' items.size->Q (.ref s.heap.objs.size) {s with heap:=h',toks:=tk}) (hn:items.size<=sizeLine):
  wpAny (model prog w) A (call (.type "list") [.ref r]) Q E s:=by
 refine callType_codes (Q₁:=λobj s₁=>obj=.ref s.heap.objs.size/\s₁={s with heap:=s.heap.push {cls:=.type "list",data:=.seq #[]}}) Cr (BZ _) Ba
  (code_list_new _ ⟨rfl,rfl⟩) λobj s₁ h₁=>?_
 obtain⟨rfl,rfl⟩:=h₁;have hS:(s.heap.push {cls:=.type "list",data:=.seq #[]}).get? s.heap.objs.size=some {cls:=.type "list",data:=.seq #[]}:=kQ _ rfl;have hl1:=hl.push {cls:=.type "list",data:=.seq #[]};have hr1:xY (s.heap.push {cls:=.type "list",data:=.seq #[]}) r l items.size:=kG _ hr;have nl:l≠s.heap.objs.size:=by obtain⟨o,ho,_⟩:=hl;exact kc (kR ho)
 have nr:r≠s.heap.objs.size:=kc (kR hr);have kp:∀b o,s.heap.get? b=some o->(s.heap.push {cls:=.type "list",data:=.seq #[]}).get? b=some o:=λb o e=>kG _ e;refine⟨⟨_,hS,rfl⟩,BL _ _,?_⟩;generalize s.heap.push {cls:=.type "list",data:=.seq #[]}=h1 at*;show wpAny _ _ (do let old ←Ug (.ref s.heap.objs.size);BY (.ref s.heap.objs.size) (λ_=>#[]);letGo old.toList.reverse;uA (.ref s.heap.objs.size) (.ref r) .none) _ _ _;refine kB ?_;unfold Ug;refine kB (uE hS rfl (kH ?_));show wpAny _ _ (ED s.heap.objs.size (λ_=>#[])>>=λ_=>letGo (#[]:Array kC).toList.reverse>>=λ_=>uA (.ref s.heap.objs.size) (.ref r) .none) _ _ _;refine kB (Qp hS rfl ?_);have hS₂:=uM (kj (λ_=>(#[]:Array kC))) hS rfl;have oth:∀b o,b≠s.heap.objs.size->h1.get? b=some o->(h1.update s.heap.objs.size (kj (λ_=>(#[]:Array kC)))).get? b=some o:=
  λb o hb e=>(uH _ _ (QM hb)).trans e
 refine kB (Ua ?_);have hr2:xY (h1.update s.heap.objs.size (kj (λ_=>(#[]:Array kC)))) r l items.size:=oth r _ nr hr1;refine zbm (A:=A.in1) (r:=r) (l:=l) (items:=items) hh hr2 (hl1.at λo e=>oth l o nl e) hlr _ .none _ hS₂ (QM nl) (λh' tk acc' c' hk hS' hacc=>?_) hn;exact⟨rfl,hQ h' tk acc' c' (λb o hb e=>hk b o (kc (kR e)) hb (oth b o (kc (kR e)) (kp b o e))) hS' hacc⟩
end
variable{its:List kC}
theorem zbh{xs:List V}(r:zr xs its):zr xs.reverse its.reverse:=by
 induction r with
 |nil=>exact .nil
 |cons a t ih=>rw[gu,gu];exact ih.append (.cons a .nil)
section
variable{X:Cx}
def rRev:List V->Hp->VK->Prop:=λxs H Q=>∃l ys,xs=[.ref l]/\H l=some (.lst ys)/\∀a,H a=none->Q (.ref a) (upd H a (.lst ys.reverse))
theorem zek{x y:Str}{p p' pos pos':Pos}{e:Expr}{t:TA}(hc:X.calm=true)(hg:Gl X x)(hm:X.mg x=none)(hv:pp x=some (.type "list"))(hg':Gl X y)(hm':X.mg y=none)(hv':pp y=some (.type "reversed"))(ha:PA X [e] t)
  (hn:x≠"__name__":=by decide)(hdb:(x==("__debug__":Str))=false:=by decide)(hn':y≠"__name__":=by decide)(hdb':(y==("__debug__":Str))=false:=by decide)
  (he:kJ [e] X.env=(false,eval e X.env)::kJ [] X.env:=by rfl):PE X (.Call (.Name x p) [.Call (.Name y p') [e] [] pos'] [] pos) (tCB rRev t):=by
 intro pins s σ H Q I h;refine uQ (xk I hg hm hv ?_ hn hdb);refine py ?_ rfl rfl;show wpAny _ _ (spliced ((false,eval (.Call (.Name y p') [e] [] pos') X.env)::pX pos (kJ [] X.env))) _ _ _;refine uL ?_;refine uQ (xk I hg' hm' hv' ?_ hn' hdb');refine py (thn (ha pos' pins s σ H _ I h) λus s1⟨vs,H1,I1,r1,q1⟩=>?_) he rfl;obtain⟨l,ys,rfl,hl,q⟩:=q1;obtain⟨u,rfl,rx⟩:=vals1 r1
 cases rx;obtain⟨z,its,n,r',el⟩:=I1.hok l _ hl;refine Jh el ?_;refine kH ?_;have ll:l<s1.heap.objs.size:=kR el;have hsz:=r'.length;refine zf7 (items:=its.toArray) (I1.ok.hd hc) (kQ _ rfl) ⟨_,kG _ el,rfl,n,rfl⟩ (kc ll) (λh' tk acc' c' kp hS hacc=>?_) (by simp only[kh];omega)
 have ea:acc'.toList=its.reverse:=by
  have ha:acc'.size=its.length:=by have:=hacc.1;simpa using this
  refine QT λj=>?_;rw[uR]
  by_cases hj:j<its.length
  ·have hj':j<acc'.size:=by omega
   have:=hacc.2 j acc'[j] (pR hj');rw[pR hj',CI hj,←this]
   simp
  ·rw[ud (by omega),UE (by rw[Qq];omega)]
 refine⟨.ref _,_,I1.laid (t':=tk) (a:=(s1.heap.push (rvO l its.toArray.size)).objs.size) (o:=.lst ys.reverse) (λb o e=>kp b o (kc (kR e)) (kG _ e)) (by rw[QB];omega) ⟨by rw[Qq];exact z,acc'.toList,c',by rw[ea];exact zbh r',by simpa using hS⟩,rfl,q _ (I1.hok.fresh (by rw[QB];omega))⟩
end
section
variable{prog:kW}{w:kq}{K:Type}[DecidableEq K](knd:KeyKind prog w K)
inductive xM(h:Heap):List (List K)->List kC->Prop
 |nil:xM h [] []
 |cons {k:List K} {b:Addr} {ks:List (List K)} {vs:List kC}:IsTupleKey knd h k b->xM h ks vs->xM h (k::ks) (.ref b::vs)
def xf(h:Heap)(ks:List (List K))(a:Addr):Prop:=∃o items n,h.get? a=some o/\o.cls=.type "tuple"/\o.data=.seq items n/\xM knd h ks items.toList
variable{knd}
variable{h:Heap}
theorem xM.inj{x y:List (List K)}{vs:List kC}(hx:xM knd h x vs)(hy:xM knd h y vs):x=y:=by
 induction hx generalizing y with
 |nil=>cases hy;rfl
 |cons h1 _ ih=>
  cases hy with
  |cons h2 t2=>rw[h1.inj h2,ih t2]
variable{a:Addr}
def xf.typeIs{s:kE}{ks:List (List K)}(x:xf knd s.heap ks a):s.TypeIs (.ref a) "tuple":=let⟨o,_,_,ho,hc,_⟩:=x;⟨o,ho,hc⟩
def xf.inj{x y:List (List K)}(hx:xf knd h x a)(hy:xf knd h y a):x=y:=by
 obtain⟨o,items,n,ho,_,hd,hi⟩:=hx;obtain⟨o',items',n',ho',_,hd',hi'⟩:=hy;obtain rfl:o=o':=pL (ho.symm.trans ho');rw[hd] at hd'
 injection hd' with h1 _
 subst h1;exact hi.inj hi'
theorem xf.keeps{h':Heap}{ks:List (List K)}{d:Addr}{o:Obj}{es ep}(x:xf knd h ks a)(ho:h.get? d=some o)(hd:o.data=.dict es ep)(hs:Qc d h h'):xf knd h' ks a:=by
 obtain⟨o',items,n,ho',hc,hd',hi⟩:=x;have hne:a≠d:=by
  rintro rfl;obtain rfl:o'=o:=pL (ho'.symm.trans ho);rw[hd] at hd';exact nomatch hd'
 refine⟨o',items,n,(hs.2 a hne).trans ho',hc,hd',?_⟩;generalize items.toList=vs at hi
 induction hi with
 |nil=>exact .nil
 |cons h1 _ ih=>exact .cons (h1.keeps ho hd hs) ih
def YJ(knd:KeyKind prog w K)(ks:List (List K)):Int:=reduceHash (uu (ks.map (gv knd)))
def vn(ks:List (List K)):Nat:=(ks.map λk=>k.length+1).sum
variable{A:pI}{E:kC->kE->Prop}{s:kE}
theorem ze6{ks:List (List K)}{Q:Int->kE->Prop}(hu:A.units+2<cLine)(hk:xf knd s.heap ks a)(h:Q (YJ knd ks) {s with toks:=s.toks+(vn ks+1)}):
  wpAny (model prog w) A (pyHash (.ref a)) Q E s:=by
 have hT:=hk.typeIs;obtain⟨o,items,n,ho,_,hd,hi⟩:=hk;unfold pyHash
 first|unfold pyHashByItsType|skip
 first|refine kB (wpAny_cRoomFor_or (.inr (by omega)) ?_)|skip
 refine kB (Qo hT UZ.lookup ?_);show wpAny _ _ (if(some (Ul "tuple.__hash__")==some pN)=true then _ else _) Q E s;rw[if_neg (by rw[beq_builtin_none];exact kZ)]
 refine kB (Qo hT UZ.lookup ?_);show wpAny _ _ (callSpecialIfBoundUnlessNone? (.ref a) "__hash__" _>>=_) Q E s;refine kB (wpAny_callSpecialIfBoundUnlessNone?_slot hT UZ (uX UZ hT PySem.F.entry_tuple_hash ?_ (PySem.F.args_tuple_hash_1 _)));show wpAny _ _ (Builtin.Tuple.tupleItemsOf (.ref a)>>=_) _ _ s;refine kB (Aw ho hd ?_);refine kB ?_;rw[←Ax];refine UW _
  (λrest(b:Array Int) s'=>∃done left,ks=done++left/\xM knd s.heap left rest/\b.toList=done.map (gv knd)/\s'={s with toks:=s.toks+vn done})
  _ ?_ ?_ _ _ ⟨[],ks,rfl,hi,rfl,rfl⟩
 ·rintro x rest b s' ⟨done,left,rfl,hl,hb,rfl⟩
  cases hl with
  |@cons k b' ks' _ h1 hl'=>
   refine kB ((gS knd).pyHash (k:=k) (UC (by omega)) h1 ?_)
   have e:vn (done++[k])=vn done+(k.length+1):=by simp[vn]
   have eh:∀t,({({s with toks:=s.toks+vn done}:kE) with toks:=t}:kE)={s with toks:=t}:=λ_=>rfl
   first
    |exact kH ⟨done++[k],ks',by simp,hl',by simp[hb,gS],by rw[e,←BM];rfl⟩
    |exact kB (kH (kH ⟨done++[k],ks',by simp,hl',by simp[hb,gS],by rw[e,←BM];rfl⟩))
 ·rintro b s' ⟨done,left,rfl,hl,hb,rfl⟩
  cases hl;rw[uo] at h;show wpAny _ _ (retInt (uu b.toList)) _ _ _;rw[hb];refine wpAny_ret_mkInt ?_;show wpAny _ _ (if(decide (-(2:Int)^63<=uu (done.map (gv knd)))&&decide (uu (done.map (gv knd))<2^63))=true then _ else _) Q E _;unfold YJ reduceHash at h
  by_cases hr:(decide (-(2:Int)^63<=uu (done.map (gv knd)))&&decide (uu (done.map (gv knd))<2^63))=true
  ·rw[if_pos hr];rw[if_pos hr] at h;exact kH (by simpa[BM] using h)
  ·rw[if_neg hr];rw[if_neg hr] at h;exact kB (UP (kH (by simpa[BM] using h)))
theorem zb9{x y:List (List K)}{b:Addr}{P:AE->kE->Prop}(hu:A.units<cLine)(hx:xf knd s.heap x a)(hy:xf knd s.heap y b)(h:P (.done (.ret (.bool (decide (x=y))))) s):
  wpAny (model prog w) A (Qe.«tuple.__eq__» ⟨[.ref a,.ref b],[]⟩) P E s:=by
 have hTb:=hy.typeIs;obtain⟨oa,xs,na,hoa,_,hda,hia⟩:=hx;obtain⟨ob,ys,nb,hob,_,hdb,hib⟩:=hy;show wpAny _ _ (gP (.ref b) (.type "tuple")>>=_) _ _ s;refine kB (QG hTb Uo ?_);simp only[Qv,kr,if_false];refine kB (Aw hoa hda ?_);refine kB (Aw hob hdb ?_);refine kB ?_;refine UW _
  (λrest r s'=>r.1=none/\s'=s/\∃x' y' xs' ys',rest=List.zip xs' ys'/\xM knd s.heap x' xs'/\xM knd s.heap y' ys'/\decide (x'=y')=decide (x=y)/\(xs'.length==ys'.length)=(xs.size==ys.size))
  _ ?_ ?_ _ _ ⟨rfl,rfl,x,y,xs.toList,ys.toList,rfl,hia,hib,rfl,by simp⟩
 ·rintro⟨u,v⟩ rest r s' ⟨hr,rfl,x',y',xs',ys',hz,hx',hy',hdec,hlen⟩
  cases hx' with
  |nil=>simp at hz
  |@cons k1 u' x'' xs'' h1 hx''=>
   cases hy' with
   |nil=>simp at hz
   |@cons k2 v' y'' ys'' h2 hy''=>
    simp only[uc,EZ,Prod.mk.injEq] at hz;obtain⟨⟨rfl,rfl⟩,rfl⟩:=hz;refine kB ((gS knd).eqBool (x:=k1) (y:=k2) hu h1 h2 ?_)
    by_cases hk:k1=k2
    ·subst hk;rw[decide_eq_true rfl];simp only[Qv,kr,if_false];refine kH ⟨rfl,rfl,x'',y'',xs'',ys'',rfl,hx'',hy'',?_,by simpa using hlen⟩
     rw[←hdec]
     by_cases hxy:x''=y''
     ·simp[hxy]
     ·simp[hxy]
    ·rw[decide_eq_false hk];simp only[Bool.not_false,if_true];have hf:decide (x=y)=false:=by rw[←hdec];simp[hk]
     rw[hf] at h;exact kB (kH (kH (kH h)))
 ·rintro⟨r1,r2⟩ s' ⟨hr,rfl,x',y',xs',ys',hz,hx',hy',hdec,hlen⟩
  simp only at hr
  subst hr;refine kH ?_;have hfin:(xs.size==ys.size)=decide (x=y):=by
   rw[←hdec,←hlen]
   cases hx' with
   |nil=>
    cases hy' with
    |nil=>simp
    |cons _ _=>simp
   |cons _ _=>
    cases hy' with
    |nil=>simp
    |cons _ _=>simp at hz
  show P (.done (.ret (.bool (xs.size==ys.size)))) s'
  rw[hfin];exact h
variable{Q:Bool->kE->Prop}
theorem zdo{x y:List (List K)}{b:Addr}(hu:A.units+2<cLine)(hx:xf knd s.heap x a)(hy:xf knd s.heap y b)(h:Q (decide (x=y)) s):
  wpAny (model prog w) A (eqBool (.ref a) (.ref b)) Q E s:=by
 unfold eqBool
 try with_reducible refine uq ?_
 show wpAny _ _ (if(ki a==ki b)=true then _ else _) Q E s
 by_cases hab:(ki a==ki b)=true
 ·rw[if_pos hab];have e:a=b:=by have:=eq_of_beq hab;injection this
  subst e;obtain rfl:=hx.inj hy;exact kB (UP (kH (by simpa using h)))
 ·rw[if_neg hab];exact kB (wpAny_richCompare_same_room (op:=.Eq) hx.typeIs hy.typeIs Uq
   (uX Uq hx.typeIs PySem.F.entry_tuple_eq (zb9 (UC (knd:=knd) (by omega)) hx hy ⟨_,rfl,(λe=>nomatch e),QO h⟩) (PySem.F.args_tuple_eq_2 _ _)) (by omega))
def zd5(n:Nat){ks:List K}(hk:IsTupleKey knd s.heap ks a)(h:Q true s):wpAny (model prog w) A (EF (n+1) (.ref a)) Q E s:=by
 have hT:=hk.typeIs;obtain⟨o,items,m,ho,_,hd,hi⟩:=hk;unfold EF;refine kB (Qo hT Uq.lookup ?_);show wpAny _ _ (gP (.ref a) (.type "tuple")>>=_) _ _ s;refine kB (QG hT Uo ?_);simp only[Qv,kr,if_false];refine kB (uE ho hd ?_);refine kB ?_;show wpAny _ _ (forIn items _ _) _ _ s;rw[←Ax];refine UW _ (λrest r s'=>r.1=none/\s'=s/\∀v∈rest,carriedByValue v=true) _ ?_ ?_ _ _ ⟨rfl,rfl,hi.byValue⟩
 ·rintro v rest r s' ⟨hr,rfl,hall⟩;rw[eqIsQuiet_byValue _ (hall v pU)];refine kB (kH ?_);simp only[Qv,kr,if_false];exact kH ⟨rfl,rfl,λu hu'=>hall u (pG _ hu')⟩
 ·rintro⟨r1,r2⟩ s' ⟨hr,rfl,_⟩
  simp only at hr
  subst hr;exact kH h
theorem zb5{ks:List (List K)}(hk:xf knd s.heap ks a)(h:Q true s):wpAny (model prog w) A (EF 8 (.ref a)) Q E s:=by
 have hT:=hk.typeIs;obtain⟨o,items,n,ho,_,hd,hi⟩:=hk;unfold EF;refine kB (Qo hT Uq.lookup ?_);show wpAny _ _ (gP (.ref a) (.type "tuple")>>=_) _ _ s;refine kB (QG hT Uo ?_);simp only[Qv,kr,if_false];refine kB (uE ho hd ?_);refine kB ?_;show wpAny _ _ (forIn items _ _) _ _ s;rw[←Ax];refine UW _ (λrest r s'=>r.1=none/\s'=s/\∃left,xM knd s.heap left rest) _ ?_ ?_ _ _ ⟨rfl,rfl,ks,hi⟩
 ·rintro v rest r s' ⟨hr,rfl,left,hl⟩
  cases hl with
  |@cons k b ks' _ h1 hl'=>
   refine kB (zd5 6 h1 ?_);simp only[Qv,kr,if_false];exact kH ⟨rfl,rfl,ks',hl'⟩
 ·rintro⟨r1,r2⟩ s' ⟨hr,rfl,_⟩
  simp only at hr
  subst hr;exact kH h
end
def w4{prog:kW}{w:kq}{K:Type}[DecidableEq K](knd:KeyKind prog w K):HeapKind prog w (List (List K)) where
 is:=xf knd
 hash:=YJ knd
 draws:=λks=>vn ks+1
 room:=λA=>A.units+2<cLine
 inj:=λhx hy=>hx.inj hy
 keeps:=λx ho hd hs=>x.keeps ho hd hs
 pyHash:=λhu hk h=>ze6 hu hk h
 eqBool:=λhu hx hy h=>zdo hu hx hy h
 quiet:=λhk h=>zb5 hk h
theorem Xs{prog:kW}{w:kq}{K:Type}[DecidableEq K]{knd:KeyKind prog w K}{A:pI}(hu:A.units+3<cLine):(w4 knd).room A.in1:=by
 show A.in1.units+2<cLine
 simp
 omega
abbrev K2:=List (List Key)
def NK(H:Hp)(b:Addr)(ks:K2):Prop:=∃cs:List Addr,H b=some (.tup (cs.map V.ref))/\Ae (λ(c:Addr)(k:List Key)=>H c=some (.tup (k.map kV))) cs ks
def NK.ts{H H':Hp}{b:Addr}{ks:K2}(h:NK H b ks)(g:∀b xs,H b=some (.tup xs)->H' b=some (.tup xs)):NK H' b ks:=by
 obtain⟨cs,h1,h2⟩:=h;exact⟨cs,g _ _ h1,Paired.mapP h2 λ_ _ z=>g _ _ z⟩
section
variable{P:kW}{w:kq}{H:Hp}{h:Heap}{a b:Addr}
theorem zdn{cs:List Addr}{ks:K2}(ok:HOk P w H h)(r:zr (cs.map V.ref) its)(p:Ae (λ(c:Addr)(k:List Key)=>H c=some (.tup (k.map kV))) cs ks):xM (yA P w) h ks its:=by
 induction p generalizing its with
 |nil=>cases r;exact .nil
 |@cons c k cs ks h1 _ ih=>
  rw[kY] at r
  cases r with
  |cons r1 r2=>
   cases r1;exact .cons (vA ok h1) (ih r2)
def qY{ks:K2}(ok:HOk P w H h)(e:NK H b ks):(w4 (yA P w)).is h ks b:=by
 obtain⟨cs,e1,e2⟩:=e;obtain⟨_,its,r,o,h1,h2,n,h3⟩:=(show zV P w H h b (.tup (cs.map V.ref)) from ok b _ e1);exact⟨o,its.toArray,n,h1,h2,h3,by simpa using zdn ok r e2⟩
end
abbrev N3:=K2×Addr×V
def KNp:List N3->List (K2×Addr×kC)->Prop:=Ae λp q=>p.1=q.1/\p.2.1=q.2.1/\zt p.2.2 q.2.2
def nD(P:kW)(w:kq)(a:Addr)(kvs:List N3):HO:=.ext λh=>(a==ua)=false/\kvs.length<=sizeLine/\(kvs.map (·.1)).Nodup/\∃xs,KNp kvs xs/\∃o es ep,h.get? a=some o/\o.ExactDict/\o.data=.dict es ep/\es.toList=xs.map (Ef (w4 (yA P w)))
def KN(H:Hp)(kvs:List N3):Prop:=∀p,p∈kvs->NK H p.2.1 p.1
def KN.ts{H H':Hp}{kvs:List N3}(h:KN H kvs)(g:∀b xs,H b=some (.tup xs)->H' b=some (.tup xs)):KN H' kvs:=λp hp=>(h p hp).ts g
def yy(kvs:List N3)(k:K2):Option V:=(kvs.find? λkv=>decide (kv.1=k)).map (·.2.2)
def yH(kvs:List N3)(k:K2)(b:Addr)(v:V):List N3:=if(yy kvs k).isSome=true then kvs.map (λkv=>if kv.1=k then(kv.1,kv.2.1,v) else kv) else kvs++[(k,b,v)]
def Xi{p:N3}{r:List N3}{k:K2}(e:p.1=k):yy (p::r) k=some p.2.2:=by simp[yy,ur,e]
def Yi{p:N3}{r:List N3}{k:K2}(e:¬p.1=k):yy (p::r) k=yy r k:=by simp[yy,ur,e]
theorem zd2{kvs:List N3}{k:K2}:(yy kvs k).isSome=true↔k∈kvs.map (·.1):=by
 induction kvs with
 |nil=>simp[yy]
 |cons p r ih=>
  by_cases e:p.1=k
  ·rw[Xi e];simp[e]
  ·rw[Yi e,ih,kY,kX];exact⟨.inr,λh=>h.elim (λz=>absurd z.symm e) id⟩
theorem Jg(kvs:List N3)(k:K2)(b:Addr)(v:V):(yH kvs k b v).length<=kvs.length+1:=by
 unfold yH
 split
 ·rw[kL];omega
 ·simp
def zbq(kvs:List N3)(k:K2)(b:Addr)(v:V):(yH kvs k b v).map (·.1)=if(yy kvs k).isSome=true then kvs.map (·.1) else kvs.map (·.1)++[k]:=by
 unfold yH
 split
 ·rw[uP];refine Ct λkv _=>?_;show(if kv.1=k then(kv.1,kv.2.1,v) else kv).1=kv.1
  split<;>rfl
 ·simp
theorem Vl{kvs:List N3}{k:K2}{b:Addr}{v:V}(h:(kvs.map (·.1)).Nodup):((yH kvs k b v).map (·.1)).Nodup:=by
 rw[zbq]
 split
 ·exact h
 ·rename_i n
  refine QA.mpr ⟨h,gY _ _,λx hx y hy e=>?_⟩;rw[kf.mp hy] at e;subst e;exact n (zd2.mpr hx)
def KN.put{H:Hp}{kvs:List N3}{k:K2}{b:Addr}{v:V}(h:KN H kvs)(hb:NK H b k):KN H (yH kvs k b v):=by
 unfold yH
 split
 ·intro p hp;obtain⟨q,hq,e⟩:=UM.mp hp;have:=h q hq;rw[←e]
  split
  ·exact this
  ·exact this
 ·intro p hp;rcases pS.mp hp with hp|hp
  ·exact h p hp
  ·rw[kf.mp hp];exact hb
theorem KNp.val{kvs:List N3}{xs:List (K2×Addr×kC)}(r:KNp kvs xs)(k:K2):yT (yy kvs k) ((atKey xs k).map (·.2)):=by
 unfold KNp at r
 induction r with
 |nil=>exact Ud
 |@cons p q ps qs h t ih=>
  obtain⟨h1,_,h2⟩:=h
  by_cases e:p.1=k
  ·have e':q.1=k:=h1.symm.trans e;have b:atKey (q::qs) k=some q.2:=by simp[atKey,ur,e']
   rw[Xi e,b];exact h2
  ·have e':¬q.1=k:=λz=>e (h1.trans z);have b:atKey (q::qs) k=atKey qs k:=by simp[atKey,ur,e']
   rw[Yi e,b];exact ih
theorem KNp.put{kvs:List N3}{xs:List (K2×Addr×kC)}(r:KNp kvs xs)(k:K2){b:Addr}{y:V}{u:kC}(ry:zt y u):KNp (yH kvs k b y) (DZ xs k b u):=by
 have e:(yy kvs k).isSome=(atKey xs k).isSome:=by rw[(r.val k).isSome_eq,Us]
 unfold yH DZ;rw[e]
 by_cases q:(atKey xs k).isSome=true
 ·rw[if_pos q,if_pos q];unfold KNp at*;clear e q
  induction r with
  |nil=>exact .nil
  |@cons p q ps qs h t ih=>
   rw[kY,kY];refine .cons ?_ ih;obtain⟨h1,h2,h3⟩:=h;unfold putAt
   by_cases e:p.1=k
   ·rw[if_pos e,if_pos (h1.symm.trans e)];exact⟨h1,h2,ry⟩
   ·rw[if_neg e,if_neg (λz=>e (h1.trans z))];exact⟨h1,h2,h3⟩
 ·rw[if_neg q,if_neg q];exact EN r ⟨rfl,rfl,ry⟩
theorem KNp.keys{kvs:List N3}{xs:List (K2×Addr×kC)}(r:KNp kvs xs):xs.map (·.1)=kvs.map (·.1)/\xs.map (λq=>q.2.1)=kvs.map (λp=>p.2.1):=by
 unfold KNp at r
 induction r with
 |nil=>exact⟨rfl,rfl⟩
 |cons h _ ih=>rw[kY,kY,kY,kY,ih.1,ih.2,h.1,h.2.1];exact⟨rfl,rfl⟩
section
variable{P:kW}{w:kq}{H:Hp}{h:Heap}{a:Addr}{kvs:List N3}
theorem Wl(ok:HOk P w H h)(e:Rd H a (nD P w a kvs))(kn:KN H kvs):kvs.length<=sizeLine/\(a==ua)=false/\∃xs,KNp kvs xs/\h.DictOfH (w4 (yA P w)) a xs:=by
 obtain⟨⟨hd,z,nd,xs,r,o,es,ep,h1,h2,h3,h4⟩,_⟩:=(show zV P w H h a (nD P w a kvs) from e.ok ok);refine⟨z,hd,xs,r,o,es,ep,h1,h2,h3,h4,λx hx=>?_,by rw[r.keys.1];exact nd⟩
 have all:∀{l:List N3}{m:List (K2×Addr×kC)},KNp l m->(∀p,p∈l->NK H p.2.1 p.1)->∀x∈m,(w4 (yA P w)).is h x.1 x.2.1:=by
  intro l m q;unfold KNp at q
  induction q with
  |nil=>intro _ x hx;exact nomatch hx
  |@cons p q ps qs hq t ih=>
   intro hl x hx;rcases kX.mp hx with e|hx
   ·subst e;rw[←hq.1,←hq.2.1];exact qY ok (hl p (by simp))
   ·exact ih (λp hp=>hl p (pG _ hp)) x hx
 exact all r kn x hx
def Yj{H':Hp}{h':Heap}{xs:List (K2×Addr×kC)}(z:kvs.length<=sizeLine)(hd:(a==ua)=false)(nd:(kvs.map (·.1)).Nodup)(r:KNp kvs xs)(dd:h'.DictOfH (w4 (yA P w)) a xs):zV P w H' h' a (nD P w a kvs):=by
 obtain⟨o,es,ep,h1,h2,h3,h4,_⟩:=dd;refine⟨⟨hd,z,nd,xs,r,o,es,ep,h1,h2,h3,h4⟩,⟨o,h1⟩,?_⟩;rintro k1 k2 ⟨hd,z,nd,xs,r,o,es,ep,h1,h2,h3,h4⟩ k;exact⟨hd,z,nd,xs,r,o,es,ep,k _ h1,h2,h3,h4⟩
end
def sNPut(P:kW)(w:kq)(td ty tv:TE):TS:=λD σ H=>tv σ H λv H1=>td σ H1 λx H2=>ty σ H2 λy H3=>∃a kvs b k,x=.ref a/\y=.ref b/\H3 a=some (nD P w a kvs)/\KN H3 kvs/\NK H3 b k/\kvs.length<sizeLine/\D.nx σ (upd H3 a (nD P w a (yH kvs k b v)))
def tNNew(P:kW)(w:kq):TE:=λ_ H Q=>∀p,H p=none->Q (.ref p) (upd H p (nD P w p []))
section
variable{X:Cx}{P:kW}{w:kq}{o i e value:Expr}{pos pos' tpos:Pos}{td ty tv:TE}
def pe_nnew(hP:X.prog=P)(hw:X.w=w):PE X (.Dict [] [] pos) (tNNew P w):=λpins s σ H Q I h=>by
 subst hP hw;exact BV ⟨.ref s.heap.objs.size,_,I.laid (a:=s.heap.objs.size) (o:=nD X.prog X.w s.heap.objs.size []) (t':=s.toks) (λ_ _ q=>kG _ q) (kN _)
  (Yj (uF _) (beq_eq_false_iff_ne.mpr (QM (kc I.big))) Ex .nil (Heap.DictOfH.new s.heap)),rfl,h _ (I.hok.fresh (kN _))⟩
theorem ps_nput(hP:X.prog=P)(hw:X.w=w)(hu:X.A.units+64<cLine)(ho:PE X o td)(hi:PE X i ty)(hv:PE X value tv)(hs:uh value (some (.Subscript o i pos')) pos.line X.env=pure false):
  PS X (.Assign [.Subscript o i pos'] value pos) (sNPut P w td ty tv):=by
 subst hP hw;intro pins s σ H D I h;refine Bk (thn (hv pins s σ H _ I h) λr s1⟨v,H1,I1,rv,q1⟩=>thn (ho pins s1 σ H1 _ I1 q1) λu s2⟨x,H2,I2,rx,q2⟩=>thn (hi pins s2 σ H2 _ I2 q2) λiv s3⟨y,H3,I3,ry,a,kvs,b,k,ex,ey,e,kn,nk,l,q3⟩=>?_) hs;subst ex ey;obtain rfl:u=ki a:=rx;obtain rfl:iv=ki b:=ry;obtain⟨z,hd,xs,rel,dd⟩:=Wl I3.hok (.inl e) kn;have hz:xs.length<=sizeLine:=by rw[←Uj rel];exact z
 have hl:(yH kvs k b v).length<=sizeLine:=by have:=Jg kvs k b v;omega
 obtain⟨⟨_,_,nd,_⟩,_⟩:=I3.hok a _ e;refine DL (hsz:=hz) (Xs (by omega)) (qY I3.hok nk) dd λh' dd' hs=>⟨σ,_,?_,q3⟩
 have he:∃q,h'.get? a=some q:=let⟨q,_,_,hq,_⟩:=dd';⟨q,hq⟩;exact qU I3 (by rw[e];exact Ud) hs he (Yj hl hd (Vl nd) (rel.put k rv) dd')
end
section
variable{prog:kW}{w:kq}{A:pI}{E:kC->kE->Prop}{s:kE}{a₀:Array Keyed}{κ:BT}
abbrev gSt(st:Et)(g:Nat):Et:=SortSt.mk' (kindOf st) (arrOf st) (pendingOf st) g (failedOf st)
section
variable{M:Model}{α β γ δ ε:Type}{st:Et}{R:Array Keyed->Prop}
abbrev LI(st:Et)(P:α->β->γ->Prop)(c:Option (Array Keyed)×α×β×γ×δ)(t:Et):Prop:=(c.1=none/\P c.2.1 c.2.2.1 c.2.2.2.1)/\∃g,t=gSt st g
end
end
open PySem.W (kas_sort kas_ask)
open PySem.W (KasT kas_asc kas_desc kas_rev kas_tail3 kas_descPart kas_count kas_place kas_bin kas_sort)
structure Wk(ans:Nat->Nat->Bool):Prop where
 irr:∀i,ans i i=false
 tr:∀i j k,ans i j=true->ans j k=true->ans i k=true
 cut:∀i j k,ans i j=false->ans j k=false->ans i k=false
def UpW(ans:Nat->Nat->Bool)(p:Array Nat)(m:Nat):Prop:=∀i j,i<j->j<m->ans (p.getD j 0) (p.getD i 0)=false
def DnW(ans:Nat->Nat->Bool)(p:Array Nat)(m:Nat):Prop:=∀i j,i<j->j<m->ans (p.getD i 0) (p.getD j 0)=false
def EqW(ans:Nat->Nat->Bool)(p:Array Nat)(m q:Nat):Prop:=∀i j,m<=i+q+1->i<m->m<=j+q+1->j<m->ans (p.getD i 0) (p.getD j 0)=false
section
variable{n:Nat}{ans:Nat->Nat->Bool}
theorem Wk.asymm(T:Wk ans){a b:Nat}(h:ans a b=true):ans b a=false:=by
 cases z:ans b a with
 |false=>rfl
 |true=>have:=T.tr a b a h z;rw[T.irr] at this;cases this
theorem Wk.of{β:Type}{lt:β->β->Bool}(S:STO lt)(r:Nat->β):Wk λi j=>lt (r i) (r j) where
 irr i:=S.irr _
 tr i j k:=S.tr _ _ _
 cut i j k h1 h2:=by
  cases z:lt (r i) (r k) with
  |false=>rfl
  |true=>
   by_cases e1:r i=r j
   ·rw[e1] at z;rw[z] at h2;cases h2
   ·rcases S.tot _ _ e1 with y|y
    ·rw[y] at h1;cases h1
    ·have:=S.tr _ _ _ y z;rw[this] at h2;cases h2
variable{p:Array Nat}
theorem UpW.step(T:Wk ans){m:Nat}(u:UpW ans p m)(h:∀i,i+1=m->ans (p.getD m 0) (p.getD i 0)=false):UpW ans p (m+1):=λi j hij hj=>by
 by_cases z:j<m
 ·exact u i j hij z
 ·have e:j=m:=by omega
  subst e
  by_cases y:i+1=j
  ·exact h i y
  ·exact T.cut _ _ _ (h (j-1) (by omega)) (u i (j-1) (by omega) (by omega))
theorem DnW.step(T:Wk ans){m:Nat}(u:DnW ans p m)(h:∀i,i+1=m->ans (p.getD i 0) (p.getD m 0)=false):DnW ans p (m+1):=λi j hij hj=>by
 by_cases z:j<m
 ·exact u i j hij z
 ·have e:j=m:=by omega
  subst e
  by_cases y:i+1=j
  ·exact h i y
  ·exact T.cut _ _ _ (u i (j-1) (by omega) (by omega)) (h (j-1) (by omega))
theorem Xg(T:Wk ans){p:Array Nat}:∀f m,1<=m->m+f=n->UpW ans p m->m<=ansT ans (kas_asc p f m)/\ansT ans (kas_asc p f m)<=n/\UpW ans p (ansT ans (kas_asc p f m))/\(ansT ans (kas_asc p f m)<n->ans (p.getD (ansT ans (kas_asc p f m)) 0) (p.getD (ansT ans (kas_asc p f m)-1) 0)=true)
 |0,m,h1,hm,u=>⟨kN _,by show m<=n;omega,u,λz=>by have:m<n:=z;omega⟩
 |f+1,m,h1,hm,u=>by
  have e:ansT ans (kas_asc p (f+1) m)=ansT ans (if ans (p.getD m 0) (p.getD (m-1) 0)=true then .ret m else kas_asc p f (m+1)):=rfl;rw[e]
  cases c:ans (p.getD m 0) (p.getD (m-1) 0) with
  |true=>rw[if_pos rfl];exact⟨kN _,by show m<=n;omega,u,λ_=>c⟩
  |false=>
   rw[if_neg (by decide)]
   obtain⟨a1,a2,a3⟩:=Xg T f (m+1) (by omega) (by omega) (u.step T λi hi=>by
    have e:m-1=i:=by omega
    rw[e] at c;exact c)
   exact⟨by omega,a2,a3⟩
def jP{a m:Nat}(hm:m<=p.size)(k:Nat):(kas_rev p a m).getD k 0=if a<=k/\k<m then p.getD (a+m-1-k) 0 else p.getD k 0:=by
 have e:(kas_rev p a m)[k]?=if a<=k/\k<m then p[a+m-1-k]? else p[k]?:=by
  unfold kas_rev;rw[Cp hm]
 rw[pz,e]
 split
 ·rw[pz]
 ·rw[pz]
theorem Zg{m q:Nat}(hm:m<=p.size)(d:DnW ans p m)(e:EqW ans p m q):DnW ans (kas_rev p (m-(q+1)) m) m:=λi j hij hj=>by
 rw[jP hm,jP hm]
 by_cases c1:m-(q+1)<=i/\i<m
 ·rw[if_pos c1,if_pos (by omega)]
  exact e _ _ (by omega) (by omega) (by omega) (by omega)
 ·rw[if_neg c1]
  by_cases c2:m-(q+1)<=j/\j<m
  ·rw[if_pos c2];exact d _ _ (by omega) (by omega)
  ·rw[if_neg c2];exact d _ _ hij hj
theorem qz(T:Wk ans):∀f(p:Array Nat) m q,1<=m->q+1<=m->m+f=n->n<=p.size->DnW ans p m->EqW ans p m q->∃p' m' q',ansT ans (kas_desc f p m q)=(p',m',q')/\m<=m'/\m'<=n/\q'+1<=m'/\p'.size=p.size/\DnW ans p' m'/\EqW ans p' m' q'
 |0,p,m,q,h1,hq,hm,hz,u,eq=>⟨p,m,q,rfl,kN _,by omega,hq,rfl,u,eq⟩
 |f+1,p,m,q,h1,hq,hm,hz,u,eq=>by
  have e:ansT ans (kas_desc (f+1) p m q)=ansT ans (if ans (p.getD m 0) (p.getD (m-1) 0)=true then(if q>0 then kas_desc f (kas_rev p (m-(q+1)) m) (m+1) 0 else kas_desc f p (m+1) 0)
   else .ask (p.getD (m-1) 0) (p.getD m 0) λd=>if d=true then .ret (p,m,q) else kas_desc f p (m+1) (q+1)):=rfl
  rw[e]
  cases c:ans (p.getD m 0) (p.getD (m-1) 0) with
  |true=>
   rw[if_pos rfl];have one:∀p':Array Nat,EqW ans p' (m+1) 0:=λp' i j a b a' b'=>by
    have e1:i=m:=by omega
    have e2:j=m:=by omega
    rw[e1,e2];exact T.irr _
   by_cases z:q>0
   ·rw[if_pos z];have sz:(kas_rev p (m-(q+1)) m).size=p.size:=EQ _ _ _ _;have u2:DnW ans (kas_rev p (m-(q+1)) m) (m+1):=(Zg (by omega) u eq).step T λi hi=>by
     rw[jP (by omega),jP (by omega),if_pos (by omega),if_neg (by omega)]
     refine T.asymm ?_
     cases y:ans (p.getD m 0) (p.getD (m-(q+1)+m-1-i) 0) with
     |true=>rfl
     |false=>
      have:=T.cut _ _ _ y (eq (m-(q+1)+m-1-i) (m-1) (by omega) (by omega) (by omega) (by omega))
      rw[c] at this
      cases this
    obtain⟨p',m',q',a1,a2,a3,a4,a5,a6⟩:=qz T f _ (m+1) 0 (by omega) (by omega) (by omega) (by omega) u2 (one _)
    exact⟨p',m',q',a1,by omega,a3,a4,by rw[a5,sz],a6⟩
   ·rw[if_neg z];obtain⟨p',m',q',a1,a2,a3,a4,a5,a6⟩:=qz T f p (m+1) 0 (by omega) (by omega) (by omega) hz (u.step T λi hi=>by
     have e:m-1=i:=by omega
     rw[e] at c;exact T.asymm c) (one _)
    exact⟨p',m',q',a1,by omega,a3,a4,a5,a6⟩
  |false=>
   rw[if_neg (by decide)]
   show ∃p' m' q',ansT ans (if ans (p.getD (m-1) 0) (p.getD m 0)=true then .ret (p,m,q) else kas_desc f p (m+1) (q+1))=_/\_
   cases y:ans (p.getD (m-1) 0) (p.getD m 0) with
   |true=>rw[if_pos rfl];exact⟨p,m,q,rfl,kN _,by omega,hq,rfl,u,eq⟩
   |false=>
    rw[if_neg (by decide)]
    obtain⟨p',m',q',a1,a2,a3,a4,a5,a6⟩:=qz T f p (m+1) (q+1) (by omega) (by omega) (by omega) hz (u.step T λi hi=>by
     have e:m-1=i:=by omega
     rw[e] at y;exact y) λi j i1 i2 j1 j2=>by
      by_cases ei:i=m
      ·subst ei
       by_cases ej:j=i
       ·rw[ej];exact T.irr _
       ·exact T.cut _ _ _ c (eq (i-1) j (by omega) (by omega) (by omega) (by omega))
      ·by_cases ej:j=m
       ·subst ej;exact T.cut _ _ _ (eq i (j-1) (by omega) (by omega) (by omega) (by omega)) y
       ·exact eq i j (by omega) (by omega) (by omega) (by omega)
    exact⟨p',m',q',a1,by omega,a3,a4,a5,a6⟩
theorem Jc(T:Wk ans){m:Nat}(h1:1<=m)(hm:m<=n)(hz:n<=p.size)(d:DnW ans p m):∃m' p',ansT ans (kas_tail3 m n p)=(m',p')/\1<=m'/\m'<=n/\UpW ans p' m':=by
 unfold kas_tail3;rw[vM];have u2:UpW ans (kas_rev p 0 m) m:=λi j hij hj=>by
  rw[jT (by omega) (by omega),jT (by omega) (by omega)]
  exact d _ _ (by omega) (by omega)
 obtain⟨g1,g2,g3,g4⟩:=Xg (n:=n) T (n-m) m h1 (by omega) u2
 exact⟨_,_,rfl,by omega,g2,g3⟩
theorem VA(T:Wk ans){m:Nat}(h1:1<=m)(hm:m+1<=n)(hz:n<=p.size)(d:DnW ans p (m+1)):∃m' p',ansT ans (kas_descPart m n p)=(m',p')/\1<=m'/\m'<=n/\UpW ans p' m':=by
 unfold kas_descPart;rw[vM];obtain⟨p',m',q',e,a2,a3,a4,a5,a6,a7⟩:=qz (n:=n) T (n-(m+1)) p (m+1) 0 (by omega) (by omega) (by omega) hz d λi j i1 i2 j1 j2=>by
  have e1:i=m:=by omega
  have e2:j=m:=by omega
  rw[e1,e2];exact T.irr _
 rw[e];dsimp only;have sz:(kas_rev p' (m'-(q'+1)) m').size=p'.size:=EQ _ _ _ _
 by_cases z:q'>0
 ·rw[if_pos z];exact Jc T (by omega) a3 (by omega) (Zg (by omega) a6 a7)
 ·rw[if_neg z];exact Jc T (by omega) a3 (by omega) a6
theorem zey(T:Wk ans)(hn:0<n)(hz:p.size=n):∃m p',ansT ans (kas_count n p)=(m,p')/\1<=m/\m<=n/\UpW ans p' m:=by
 have u1:UpW ans p 1:=λi j hij hj=>by omega
 obtain⟨a1,a2,a3,a4⟩:=Xg (n:=n) T (n-1) 1 (kN _) (by omega) u1
 unfold kas_count;rw[vM];generalize ansT ans (kas_asc p (n-1) 1)=m at a1 a2 a3 a4⊢
 by_cases c1:m=n
 ·subst c1;simp only[beq_self_eq_true,if_true];exact⟨m,p,rfl,a1,a2,a3⟩
 ·have c1':(m==n)=false:=beq_eq_false_iff_ne.mpr c1;simp only[c1',kr,if_false];have y:=a4 (by omega)
  by_cases c2:m>1
  ·rw[if_pos c2];show ∃m' p',ansT ans (if ans (p.getD 0 0) (p.getD (m-1) 0)=true then .ret (m,p) else kas_descPart m n (kas_rev p 0 m))=_/\_
   cases x:ans (p.getD 0 0) (p.getD (m-1) 0) with
   |true=>rw[if_pos rfl];exact⟨m,p,rfl,a1,a2,a3⟩
   |false=>
    rw[if_neg (by decide)]
    have sz:(kas_rev p 0 m).size=p.size:=EQ _ _ _ _;have al:∀i j,i<m->j<m->ans (p.getD i 0) (p.getD j 0)=false:=λi j hi hj=>by
     have l0:ans (p.getD i 0) (p.getD 0 0)=false:=by
      by_cases e:i=0
      ·rw[e];exact T.irr _
      ·exact a3 0 i (by omega) hi
     have l1:ans (p.getD (m-1) 0) (p.getD j 0)=false:=by
      by_cases e:j=m-1
      ·rw[e];exact T.irr _
      ·exact a3 j (m-1) (by omega) (by omega)
     exact T.cut _ _ _ l0 (T.cut _ _ _ x l1)
    refine VA T a1 (by omega) (by omega) ?_
    have d1:DnW ans (kas_rev p 0 m) m:=λi j hij hj=>by
     rw[jT (by omega) (by omega),jT (by omega) (by omega)]
     exact al _ _ (by omega) (by omega)
    refine d1.step T λi hi=>?_;rw[jT (by omega) (by omega),jP (by omega),if_neg (by omega)]
    refine T.asymm ?_
    cases w:ans (p.getD m 0) (p.getD (m-1-i) 0) with
    |true=>rfl
    |false=>
     have:=T.cut _ _ _ w (al (m-1-i) (m-1) (by omega) (by omega))
     rw[y] at this
     cases this
  ·have e:m=1:=by omega
   subst e;rw[if_neg c2];exact VA T (kN _) (by omega) (by omega) λi j hij hj=>by
    have e1:i=0:=by omega
    have e2:j=1:=by omega
    subst e1 e2;exact T.asymm y
theorem XU(T:Wk ans){p:Array Nat}{k:Nat}(u:UpW ans p k):∀f l r,l<=r->r<=k->r-l<=f->(∀i,i<l->ans (p.getD k 0) (p.getD i 0)=false)->(∀i,r<=i->i<k->ans (p.getD k 0) (p.getD i 0)=true)->
  ∃l',ansT ans (kas_place p k f l r)=l'/\l'<=k/\(∀i,i<l'->ans (p.getD k 0) (p.getD i 0)=false)/\(∀i,l'<=i->i<k->ans (p.getD k 0) (p.getD i 0)=true)
 |0,l,r,h1,h2,h3,hl,hr=>⟨l,rfl,by omega,hl,λi a b=>hr i (by omega) b⟩
 |f+1,l,r,h1,h2,h3,hl,hr=>by
  unfold kas_place
  by_cases c:l≥r
  ·rw[if_pos c];exact⟨l,rfl,by omega,hl,λi a b=>hr i (by omega) b⟩
  ·rw[if_neg c];show ∃l',ansT ans (if ans (p.getD k 0) (p.getD ((l+r)/2) 0)=true then kas_place p k f l ((l+r)/2) else kas_place p k f ((l+r)/2+1) r)=l'/\_;have m1:l<=(l+r)/2:=by omega
   have m2:(l+r)/2<r:=by omega
   cases e:ans (p.getD k 0) (p.getD ((l+r)/2) 0) with
   |true=>
    rw[if_pos rfl];refine XU T u f l _ m1 (by omega) (by omega) hl λi a b=>?_
    by_cases y:i=(l+r)/2
    ·rw[y];exact e
    ·cases w:ans (p.getD k 0) (p.getD i 0) with
     |true=>rfl
     |false=>
      have:=T.cut _ _ _ w (u ((l+r)/2) i (by omega) b)
      rw[e] at this
      cases this
   |false=>
    rw[if_neg (by decide)]
    refine XU T u f _ r (by omega) h2 (by omega) (λi a=>?_) hr
    by_cases x:i=(l+r)/2
    ·rw[x];exact e
    ·exact T.cut _ _ _ e (u i ((l+r)/2) (by omega) (by omega))
theorem Zy(T:Wk ans):∀f(p:Array Nat) k,p.size=n->1<=k->k+f=n->UpW ans p k->UpW ans (ansT ans (kas_bin f p k)) n
 |0,p,k,h,h1,hk,u=>by
  have e:k=n:=by omega
  subst e;exact u
 |f+1,p,k,z,h1,hk,u=>by
  unfold kas_bin;rw[vM];obtain⟨l,e,a1,a2,a3⟩:=XU T u k 0 k (uF _) (kN _) (by omega) (λi hi=>by omega) (λi a b=>by omega)
  rw[e];refine Zy T f _ (k+1) (by rw[(bubble_perm _ _ _).size_eq];exact z) (by omega) (by omega) λi j hij hj=>?_
  rw[Zc (by omega) a1,Zc (by omega) a1]
  by_cases c1:i=l
  ·rw[if_pos c1,if_neg (by omega),if_pos (by omega)]
   exact T.asymm (a3 _ (by omega) (by omega))
  ·rw[if_neg c1]
   by_cases c2:l<i/\i<=k
   ·rw[if_pos c2,if_neg (by omega),if_pos (by omega)]
    exact u _ _ (by omega) (by omega)
   ·rw[if_neg c2]
    by_cases c3:j=l
    ·rw[if_pos c3];exact a2 _ (by omega)
    ·rw[if_neg c3]
     by_cases c4:l<j/\j<=k
     ·rw[if_pos c4];exact u _ _ (by omega) (by omega)
     ·rw[if_neg c4];exact u _ _ (by omega) (by omega)
theorem Z7(T:Wk ans)(hn:0<n):UpW ans (ansT ans (kas_sort n)) n:=by
 have o0:Ord n (uk (pe n)):=by unfold Ord;simp
 obtain⟨m,p,e,m1,m2,u⟩:=zey T hn (p:=uk (pe n)) (by simp)
 have o1:Ord n (m,p).2:=by
  rw[←e];exact ye.ends (Vj hn o0)
 have z:p.size=n:=by have:=o1.length_eq;simpa using this
 unfold kas_sort;rw[vM,e]
 by_cases c:m<n
 ·simp only[c,if_true];have x:max m 1=m:=by omega
  rw[x];exact Zy T (n-m) p m z m1 (by omega) u
 ·simp only[c,if_false];have x:m=n:=by omega
  subst x;exact u
end
open PySem.W (kla_fn kla_obj envX tabObj CodeHd)
structure vh(x:Str)(ys:List Str)(sc:Scope):Prop where
 kind:sc.kind=.function
 co:sc.isCoroutine=false
 gen:sc.isGenerator=false
 par:sc.names.lookup x=some .local
 cap:∀y,y∈ys->sc.names.lookup y=some .free
 nocell:∀z,z∈sc.names->z.2≠.cell
 free:∀z,z∈sc.names->z.2=.free->z.1∈ys
def wd(P:kW)(w:kq)(K:kF)(mg:Str->Option kC)(base:Heap)(x:Str)(qual:Str)(sc:Scope)(f:Addr)(cd:kC)(clos:List (Str×Addr))(A:pI)(outer:List Env)(s:kE)(H:Hp):Cx where
 prog:=P
 w:=w
 K:=K
 mg:=mg
 base:=base
 A:=A.deeper (envX qual sc s.heap.objs.size f cd clos)
 N:=x::clos.map QJ
 s₀:=s
 H₀:=H
 env:=envX qual sc s.heap.objs.size f cd clos
 outer:=outer
 stack:=envX qual sc s.heap.objs.size f cd clos::outer
 ex:=[]
 calm:=true
 fn:=λ_=>false
 pn:=[]
 xe:=λ_ _=>False
theorem vV:∀{cl:List (Str×Addr)}{z:Str}{d:Addr},cl.lookup z=some d->(z,d)∈cl
 |[],_,_,h=>by cases h
 |(y,c)::cl,z,d,h=>by
  rw[pb] at h
  by_cases e:z=y
  ·subst e;rw[beq_self_eq_true] at h
   cases h;exact pU ..
  ·rw[beq_eq_false_iff_ne.mpr e] at h;exact pG _ (vV h)
theorem XM:∀{cl:List (Str×Addr)}{z:Str},z∈cl.map QJ->∃d,cl.lookup z=some d
 |[],_,h=>by cases h
 |(y,c)::cl,z,h=>by
  rw[pb]
  by_cases e:z=y
  ·rw[e,beq_self_eq_true];exact⟨c,rfl⟩
  ·rw[beq_eq_false_iff_ne.mpr e];refine XM ?_;rcases kX.mp h with z'|z'
   ·exact absurd z' e
   ·exact z'
def Cells(H:Hp)(h:Heap)(clos:List (Str×Addr))(vys:List V):Prop:=∀(i:Nat) y c vy,clos[i]?=some (y,c)->vys[i]?=some vy->∃uy,zt vy uy/\h.IsCell c (some uy)/\H c=none
variable{qual:Str}
theorem zd7{P:kW}{w:kq}{K:kF}{mg:Str->Option kC}{base:Heap}{x:Str}{sc:Scope}{f:Addr}{clos:List (Str×Addr)}{cd:kC}{A:pI}{outer:List Env}{s:kE}{H:Hp}{u:kC}{v:V}{vys:List V}{h₁:Heap}{tk:Nat}
  (S:vh x (clos.map QJ) sc)(nd:(clos.map QJ).Nodup)(inj:∀y z d,(y,d)∈clos->(z,d)∈clos->y=z)(hlen:vys.length=clos.length)(hd:A.handled=none)(e0:Env0 P w K mg base A outer s H)(ru:zt v u)(hc:Cells H s.heap clos vys)
  (hns:h₁.Ns s.heap.objs.size (λz=>([(x,u)]:List (Str×kC)).reverse.lookup z))(hk:∀b o,s.heap.get? b=some o->h₁.get? b=some o):
  Inv (wd P w K mg base x qual sc f cd clos A outer s H) [] (some v::vys.map some) H {s with heap:=h₁,toks:=tk}:=by
 have noA:∀b:Addr,b∉(wd P w K mg base x qual sc f cd clos A outer s H).ex:=λb z=>absurd (show b∈([]:List Addr) from z) (by simp)
 have at_:∀z d,(z,d)∈clos->∃uy vy,zt vy uy/\s.heap.IsCell d (some uy)/\H d=none:=λz d h=>by
  obtain⟨i,hi⟩:=CJ.mp h;have hi':=(kM.mp hi).1;have hv:vys[i]?=some (vys[i]'(by omega)):=kK (by omega)
  obtain⟨uy,q⟩:=hc i z d _ hi hv;exact⟨uy,_,q⟩
 refine⟨⟨e0.mod,S.kind,rfl,rfl,kN _,λy1 z1 d h1 h2=>?_,λz hz=>?_,λz d hf _=>?_,λ_=>hd,AJ e0.frames,.inr ⟨rfl,rfl⟩,λb z=>absurd z (noA b),e0.bs,e0.bsz,λb _ _=>noA b,λb z=>absurd z (noA b),e0.funs,e0.frf⟩,
  rfl,e0.bare,Un.kept hk,⟨_,hns,λi z v' h1 h2 h3=>?_⟩,λz d h=>?_,e0.hok.fresh (kN _),λz d h=>?_,λp hp=>absurd (show p∈([]:List (Addr×Obj)) from hp) (by simp),e0.hok.kept hk,by show(some v::vys.map some).length=(x::clos.map QJ).length;rw[pH,pH,kL,kL,hlen]⟩
 ·exact inj _ _ d (vV h1) (vV h2)
 ·have hz:sc.names.lookup z=some .cell∨sc.names.lookup z=some .free:=hz;rcases hz with hz|hz
  ·exact absurd rfl (S.nocell _ (uB hz))
  ·exact XM (S.free _ (uB hz) rfl)
 ·cases hf
 ·match i,h1,h2 with
  |0,h1,h2=>
   cases h1
   cases h2;refine⟨u,ru,.inl ⟨S.par,?_⟩⟩;show([(x,u)]:List (Str×kC)).reverse.lookup x=some u
   simp
  |i+1,h1,h2=>
   have h1:(clos.map QJ)[i]?=some z:=h1;have h2:(vys.map some)[i]?=some (some v'):=h2;rw[kg] at h1 h2;obtain⟨⟨y,c⟩,e1,e2⟩:=gk.mp h1;obtain⟨vy,e3,e4⟩:=gk.mp h2
   cases e2
   cases e4;obtain⟨uy,ry,⟨o,ho,hd'⟩,_⟩:=hc i _ _ _ e1 e3;have hm:(y,c)∈clos:=uD e1;obtain⟨d,hd⟩:=XM (UM.mpr ⟨_,hm,rfl⟩);have ed:d=c:=by
    have hm2:=vV hd;obtain⟨j,hj⟩:=CJ.mp hm2;have n1:(clos.map QJ)[i]?=some y:=by rw[kg,e1];rfl
    have n2:(clos.map QJ)[j]?=some y:=by rw[kg,hj];rfl
    have ij:i=j:=by
     have i1:=(kM.mp n1).1;have j1:=(kM.mp n2).1;rcases Dg i j with z|z|z
     ·exact absurd ((kM.mp n1).2.trans (kM.mp n2).2.symm) ((UG.mp nd) i j i1 j1 z)
     ·exact z
     ·exact absurd ((kM.mp n2).2.trans (kM.mp n1).2.symm) ((UG.mp nd) j i j1 i1 z)
    rw[←ij,e1] at hj
    cases hj;rfl
   subst ed;exact⟨uy,ry,.inr ⟨.inr (S.cap _ (UM.mpr ⟨_,hm,rfl⟩)),d,hd,o,hk _ _ ho,hd'⟩⟩
 ·obtain⟨uy,vy,_,⟨o,ho,hd'⟩,_⟩:=at_ _ _ (vV h);exact⟨_,o,hk _ _ ho,hd'⟩
 ·obtain⟨uy,vy,_,_,hn⟩:=at_ _ _ (vV h);exact hn
variable{fa:Addr}{ctv:kC}
section
variable{X:Cx}{pins:List (Addr×Obj)}{σ:St}{H:Hp}{s:kE}
theorem WT{A:pI}{k:Nat}{x name:Str}{params:Qy}{body:Expr}{sc:Scope}{c':Addr}{clos:List (Str×Addr)}{pm u:kC}{v:V}{vys:List V}{te:TE}{Q:VK}(I:Inv X pins σ H s)
  (e0:Env0 X.prog X.w X.K X.mg X.base A X.stack s H)(hr:zD k A)(S:vh x (clos.map QJ) sc)(nd:(clos.map QJ).Nodup)(inj:∀y z d,(y,d)∈clos->(z,d)∈clos->y=z)(hlen:vys.length=clos.length)
  (ho:s.heap.get? fa=some (kla_obj name qual params body sc clos pm c' ctv))(hcd:s.heap.CodeRec (.ref c') qual)
  (hb:QW (kla_fn name qual params body sc clos pm (.ref c') ctv) ⟨[u],[]⟩=pure [(x,u)])(ru:zt v u)(hc:Cells H s.heap clos vys)
  (hbody:PE (wd X.prog X.w X.K X.mg X.base x qual sc fa (.ref c') clos A X.stack s H) body te)(q:te (some v::vys.map some) H Q):
  wpAny (model X.prog X.w) A (call (.ref fa) [u]) (EP X pins σ Q) (λ_ _=>False) s:=by
 refine gM (Qs (R:=CR CX0 X.stack X.prog X.w H s Q E0) ?_ λr s' hq=>?_)
 ·refine CU hr.depth ho rfl S.co S.gen rfl hcd ?_;rw[hb];refine kH (AN S.nocell (λz hz=>?_) (λh₁ hns hsb=>⟨I.nolimit.fresh _ hsb,?_⟩) S.kind)
  ·rw[kf] at hz;rw[hz];exact S.par
  ·show UK _ _ (.expr body (envX qual sc s.heap.objs.size fa (.ref c') clos)) _ _
   have kp:∀d u,s.heap.get? d=some u->h₁.get? d=some u:=λd u z=>hsb.extBut d u (kc (kR z)) (kG _ z);have J:=zd7 (tk:=s.toks+1) (f:=fa) (qual:=qual) (cd:=.ref c') S nd inj hlen hr.hd e0 ru hc hns kp;refine CV (uT (hbody [] _ _ H Q J q) (λr s' hs=>?_) λe s' hs=>hs.elim);obtain⟨v',H',J',r',q'⟩:=hs;exact⟨v',H',J'.os,J'.bare,J'.base,J'.hok,r',q'⟩
 ·cases r with
  |error e=>exact hq.elim
  |ok fl=>
   cases fl with
   |ret u=>exact I.after hq
   |next=>exact uK hq
   |brk=>exact uK hq
   |cont=>exact uK hq
inductive Capt (X:Cx):List (Str×Addr)->List Nat->Prop
 |nil:Capt X [] []
 |cons {y c j cl js}:X.N[j]?=some y->X.env.scope.names.lookup y=some .cell->X.env.cells.lookup y=some c->Capt X cl js->Capt X ((y,c)::cl) (j::js)
variable{cl:List (Str×Addr)}{js:List Nat}
theorem Capt.mem(h:Capt X cl js):∀{y c},(y,c)∈cl->X.env.cells.lookup y=some c:=by
 induction h with
 |nil=>intro y c h;cases h
 |cons a b d t ih=>
  intro y' c' h;rcases kX.mp h with e|e
  ·cases e;exact d
  ·exact ih e
theorem Capt.cells(h:Capt X cl js)(I:Inv X pins σ H s):∀{vys:List V},js.map (λj=>σ[j]?)=vys.map (λv=>some (some v))->Cells H s.heap cl vys/\vys.length=cl.length:=by
 induction h with
 |nil=>
  intro vys e
  cases vys with
  |nil=>exact⟨λi y c vy h=>(by cases h),rfl⟩
  |cons _ _=>cases e
 |cons a b d t ih=>
  intro vys e
  cases vys with
  |nil=>cases e
  |cons vy vys=>
   rw[kY,kY] at e
   injection e with e1 e2
   obtain⟨i1,i2⟩:=ih e2;refine⟨λi y c v h h'=>?_,by rw[pH,pH,i2]⟩
   cases i with
   |zero=>
    cases h
    cases h';obtain⟨uy,ry,hcell⟩:=WO I a e1 b d;exact⟨uy,ry,hcell,I.freeC _ _ d⟩
   |succ i=>exact i1 i y c v h h'
end
open PySem.W (kla_fn kla_obj envX tabObj CodeHd KasT kas_sort kas_ask)
section
variable{prog:kW}{w:kq}{A:pI}{E:kC->kE->Prop}{s:kE}
theorem zea(hh:A.handled=none){r:Addr}{a b c:Int}{t u v:Tok}{n:Nat}(hr:IsRange s.heap r a b c t u v)(hsmall:Builtin.Range.small a b c=true)(hn:BP a b c=n)(hlen:n<=2^24){Q:List kC->kE->Prop}
  (h:∀vs h' tk,vs.length=n->(∀(i:Nat) v,vs[i]?=some v->∃t,v=.int (a+i*c) t)->Keeps s.heap h'->s.heap.objs.size<=h'.objs.size->Q vs {s with heap:=h',toks:=tk}):wpAny (model prog w) A (collect (.ref r)) Q E s:=by
 unfold collect;refine kB (wpAny_runValue (Qs (QD (R:=wants (λv s'=>∃h' tk acc c',v=.ref s.heap.objs.size/\s'={s with heap:=h',toks:=tk}/\Keeps s.heap h'/\h'.get? s.heap.objs.size=some {cls:=.type "list",dict:=none,data:=.seq acc c',slots:=#[]}/\De (λi v=>∃t,v=.int (a+i*c) t) acc n) E) entry_proto_collect' ?_) λr s1 hr=>?_))
 rotate_left
 ·cases r with
  |error e=>exact hr
  |ok fl=>
   cases fl with
   |ret v=>
    obtain⟨h',tk,acc,c',rfl,rfl,k,hS,ea⟩:=hr;show wpAny (model prog w) A (load s.heap.objs.size>>=_) Q E _;refine kB (wpAny_load hS ?_);dsimp only;exact kH (h acc.toList h' tk (by rw[US];exact ea.1) (λi v hv=>ea.2 i v (by rw[←uR];exact hv)) k (ub (kR hS)))
   |_=>exact hr.elim
 show wpAny _ _ (do again (.builtin "list.__iadd__" ⟨[←newList [],.ref r],[]⟩)) _ _ s
 refine kB (AH (kH ⟨An _ (by decide+kernel),QD entry_list_iadd' ?_⟩))
 show wpAny _ _ (uA (.ref s.heap.objs.size) (.ref r) (.ref s.heap.objs.size)) _ _ {s with heap:=s.heap.push (ko "list" #[] 0)}
 rw[QI (by decide+kernel) _]
 have hS0:(s.heap.push (ko "list" #[] 0)).get? s.heap.objs.size=some {cls:=.type "list",data:=.seq #[] 0}:=kQ _ rfl;refine wpAny_extend_range (s:={s with heap:=s.heap.push (ko "list" #[] 0)}) hh (kG _ hr) hsmall hn hlen _ _ 0 hS0 (λh' tk acc c' kp hS hacc=>?_);have k:Keeps s.heap h':=λb o e=>kp b o (kc (kR e)) (kG _ e);exact⟨h',tk,acc,c',rfl,rfl,k,hS,hacc⟩
theorem zcr{r:Addr}{n:Nat}{t u v:Tok}{Q:kC->kE->Prop}(hh:A.handled=none)(hr:IsRange s.heap r 0 n 1 t u v)(h64:n<64)
  (h:∀vs D kS e1 h' tk,vs.length=n->(∀(i:Nat) v,vs[i]?=some v->∃t,v=.int i t)->s.heap.objs.size<=D->Keeps s.heap h'->D<kS->h'.get? D=some (ko "list" #[] e1)->h'.get? kS=some (ko "list" #[] 0)->∃J,jn prog w A.in1.in1 D kS e1 (.ref fa) vs (λr s'=>r=.done (.ret .none)->Q (.ref D) s') J/\J 0 [] 0 {s with heap:=h',toks:=tk}):
  wpAny (model prog w) A (call (.builtin "sorted") [.ref r] [(kx "key",.ref fa)]) Q E s:=by
 have e62:(2:Int)^62=4611686018427387904:=rfl;refine Bj kind_sorted plain_sorted entry_sorted (ksk_s1 _ _) ?_;unfold Qe.«sorted»;refine kB (m:=checkCount _ _ _ _) (kH (kB (zea (A:=A.in1) (n:=n) (show A.in1.handled=none from hh) hr (small_one (by decide) (by decide) (by omega) (by omega)) (by rw[rangeSize_one];split<;>omega) (by omega) λvs h1 tk ln hv k1 sz1=>?_)))
 have zl:vs.length<=sizeLine:=pd (ub (by omega:vs.length<64)) (by decide)
 refine kB (AH ?_ zl);have o2:(h1.push (ko "list" vs.toArray 0)).get? h1.objs.size=some (ko "list" vs.toArray 0):=kQ _ rfl;refine kB (uq (Co slot_list_sort ⟨_,o2,rfl⟩ EX ?body (ksk_l1 _ _)))
 case body=>
  show wpAny (model prog w) A.in1.in1 (Qe.«list.sort» ⟨[.ref h1.objs.size],[(kx "key",.ref fa)]⟩) _ _ _
  rw[ksk_t1];refine uT (Zu (s:={s with heap:=h1.push (ko "list" vs.toArray 0),toks:=tk}) (P:=λr s'=>r=.done (.ret .none)/\(r=.done (.ret .none)->Q (.ref h1.objs.size) s')) (k1.push _) sz1 o2 (by omega) λkS e1 h' kk lt ha hk=>?_) (λr s' hq=>?_) λ_ _ z=>z
  ·obtain⟨J,R,h0⟩:=h vs h1.objs.size kS e1 h' tk ln (λi v e=>by obtain⟨t,q⟩:=hv i v e;exact⟨t,by rw[q];simp⟩) sz1 kk lt ha hk
   refine⟨J,⟨R.store,R.turn,λks e s' hJ=>?_⟩,h0⟩;obtain⟨f1,κ,ans,f2,f3,f4⟩:=R.fin ks e s' hJ;exact⟨f1,κ,ans,f2,f3,λp or ep=>⟨rfl,f4 p or ep⟩⟩
  ·obtain⟨rfl,hq⟩:=hq;exact⟨_,rfl,kH ⟨_,rfl,hq rfl⟩⟩
end
structure KeyRG(KP:KPT)(te:TE)(vys:List V)(c':Addr)(q:Str)(vs:List V)(H:Hp)(Q:VK)(Pv:Nat->List V->Hp->Prop):Prop where
 start:Pv 0 [] H
 code:∀i zs H',Pv i zs H'->H' c'=some (yE c' q)
 len:∀i zs H',Pv i zs H'->zs.length=i
 turn:∀i zs H' v,vs[i]?=some v->Pv i zs H'->te (some v::vys.map some) H' λk H''=>Pv (i+1) (zs++[k]) H''
 fin:∀zs H',Pv vs.length zs H'->∃ans,KP H' zs ans/\∀D p,H' D=none->Ord vs.length p->(2<=vs.length->p=ansT ans (kas_sort vs.length))->Q (.ref D) (upd H' D (.lst (p.toList.map λi=>vs.getD i .non)))
def xj(n:Nat):List V:=(pe n).map λi:Nat=>V.int (i:Int)
theorem zdk{n:Nat}(hl:its.length=n)(hv:∀(i:Nat) v,its[i]?=some v->∃t,v=.int i t):zr (xj n) its:=by
 induction n generalizing its with
 |zero=>
  have:its=[]:=Ub hl;subst this;exact .nil
 |succ n ih=>
  have ne:its≠[]:=λz=>by rw[z] at hl;cases hl
  have e:=(List.dropLast_concat_getLast ne).symm;have ld:its.dropLast.length=n:=by rw[List.length_dropLast];omega
  have h1:=ih (its:=its.dropLast) ld λi v hi=>hv i v (by rw[e,pW (kM.mp hi).1];exact hi)
  obtain⟨t,ht⟩:=hv n (its.getLast ne) (by rw[List.getLast_eq_getElem,kK (by omega)];simp[hl])
  unfold xj;rw[List.range_succ,pT,e];exact qH h1 ⟨t,by simpa using ht⟩
section
variable{X:Cx}{pins:List (Addr×Obj)}{σ:St}{H:Hp}{s:kE}
theorem zbc{KP:KPT}{k n:Nat}{x ql:Str}{params:Qy}{body:Expr}{sc:Scope}{c' r:Addr}{clos:List (Str×Addr)}{js:List Nat}{pm:kC}{vys:List V}{te:TE}{Q:VK}{Pv:Nat->List V->Hp->Prop}{t u v:Tok}(I:Inv X pins σ H s)(hKP:wn X KP)(hr:zD (k+2) X.A)(S:vh x (clos.map QJ) sc)
  (nd:(clos.map QJ).Nodup)(hcap:Capt X clos js)(hσ:js.map (λj=>σ[j]?)=vys.map (λv=>some (some v)))(hfa:yS X pins H fa)(hfo:s.heap.get? fa=some (kla_obj "<lambda>" ql params body sc clos pm c' ctv))
  (hbind:∀u,QW (kla_fn "<lambda>" ql params body sc clos pm (.ref c') ctv) ⟨[u],[]⟩=pure [(x,u)])(hbody:∀(A:pI)(s:kE)(H:Hp),A.units+64<cLine->PE (wd X.prog X.w X.K X.mg X.base x ql sc fa (.ref c') clos A X.stack s H) body te)
  (hrg:IsRange s.heap r 0 n 1 t u v)(h64:n<64)(R:KeyRG KP te vys c' ql (xj n) H Q Pv):wpAny (model X.prog X.w) X.A (call (.builtin "sorted") [.ref r] [(kx "key",.ref fa)]) (EP X pins σ Q) X.xe s:=by
 have un:=hr.un;have inj:∀y z d,(y,d)∈clos->(z,d)∈clos->y=z:=λy z d h1 h2=>I.ok.inj _ _ d (hcap.mem h1) (hcap.mem h2);have lv:(xj n).length=n:=by unfold xj;rw[kL,uO]
 refine zcr hr.hd hrg h64 λits D kS e1 h' tk ln hits sD kk lt hD hkS=>?_;have rv:=zdk ln hits;have len:(xj n).length=its.length:=by omega
 have sK:s.heap.objs.size<=kS:=by omega
 have fD:=I.fpOk sD (I.hok.fresh sD);have fK:=I.fpOk sK (I.hok.fresh sK);have faD:fa≠D:=kc (ka (kR hfo) sD);have faK:fa≠kS:=kc (ka (kR hfo) sK);have DK:D≠kS:=kc lt;have nseq:∀(b:Array kC)(m:Nat)(v:Option kC),(ko "list" b m).data≠.cell v:=λb m v z=>nomatch (show FS b m=BO v from z);have nfun:∀v,(kla_obj "<lambda>" ql params body sc clos pm c' ctv).data≠.cell v:=λv z=>nomatch (show Data.func _=BO v from z);have pin3:∀{ks:List kC}{e:Nat}{H':Hp}{s':kE},Inv X pins σ H' s'->H' fa=none->H' D=none->H' kS=none->s'.heap.get? fa=some (kla_obj "<lambda>" ql params body sc clos pm c' ctv)->s'.heap.get? D=some (ko "list" #[] e1)->s'.heap.get? kS=some (ko "list" ks.toArray e)->
   Inv X (pins++[(fa,kla_obj "<lambda>" ql params body sc clos pm c' ctv),(D,ko "list" #[] e1),(kS,ko "list" ks.toArray e)]) σ H' s':=λ{ks e H' s'} J n1 n2 n3 o1 o2 o3=>by
  refine J.pins_of λp hp=>?_;rcases pS.mp hp with hp|hp
  ·exact J.pin p (kT _ hp)
  ·simp only[kX,pi,or_false] at hp;rcases hp with rfl|rfl|rfl
   ·exact⟨o1,n1,hfa.2.1,hfa.2.2.1,nfun⟩
   ·exact⟨o2,n2,fD.2.1,fD.2.2.1,nseq _ _⟩
   ·exact⟨o3,n3,fK.2.1,fK.2.2.1,nseq _ _⟩
 have of3:∀{ks:List kC}{e:Nat}{H':Hp}{s':kE},Inv X (pins++[(fa,kla_obj "<lambda>" ql params body sc clos pm c' ctv),(D,ko "list" #[] e1),(kS,ko "list" ks.toArray e)]) σ H' s'->
   Inv X pins σ H' s'/\(H' fa=none/\H' D=none/\H' kS=none)/\s'.heap.get? fa=some (kla_obj "<lambda>" ql params body sc clos pm c' ctv)/\s'.heap.get? D=some (ko "list" #[] e1)/\s'.heap.get? kS=some (ko "list" ks.toArray e):=λ{ks e H' s'} J=>by
  have p1:=J.pin (fa,kla_obj "<lambda>" ql params body sc clos pm c' ctv) (kT _ (kT _ (by simp)))
  have p2:=J.pin (D,ko "list" #[] e1) (kT _ (kT _ (by simp)))
  have p3:=J.pin (kS,ko "list" ks.toArray e) (kT _ (kT _ (by simp)))
  exact⟨J.unpinned,⟨p1.2.1,p2.2.1,p3.2.1⟩,p1.1,p2.1,p3.1⟩
 refine⟨λi ks e s'=>∃H' zs,Inv X (pins++[(fa,kla_obj "<lambda>" ql params body sc clos pm c' ctv),(D,ko "list" #[] e1),(kS,ko "list" ks.toArray e)]) σ H' s'/\zr zs ks/\Pv i zs H',⟨λi ks e s' hJ=>?_,λi u ks e s' hu hJ=>?_,λks e s' hJ=>?_⟩,H,[],?_,.nil,R.start⟩
 ·obtain⟨H',zs,J,r,p⟩:=hJ;exact⟨(of3 J).2.2.2.2,by rw[←r.length];exact R.len _ _ _ p⟩
 ·obtain⟨H',zs,J,r,p⟩:=hJ;obtain⟨J0,⟨n1,n2,n3⟩,o1,o2,o3⟩:=of3 J;obtain⟨v,hv,ru⟩:=vals_get? rv hu;obtain⟨hcells,hlv⟩:=hcap.cells J hσ;have hcd:s'.heap.CodeRec (.ref c') ql:=(J.hok c' _ (R.code _ _ _ p)).1;refine uT (WT J J.env0.in1.in1 (hr.in1.in1) S nd inj hlv o1 hcd (hbind u) ru hcells (hbody _ s' H' (by show X.A.units+1+1+64<cLine;omega)) (R.turn i zs H' v hv p)) (λu' s'' hs=>?_) λ_ _ z=>z
  obtain⟨kv,H'',J',rk,p'⟩:=hs;obtain⟨J1,⟨m1,m2,m3⟩,q1,q2,q3⟩:=of3 J';refine⟨q3,λc2 hc2=>⟨H'',zs++[kv],?_,qH r rk,p'⟩⟩;have J2:Inv X pins σ H'' {s'' with heap:=s''.heap.update kS (kj (·.push u')),toks:=s''.toks}:=J1.turned (it:=kS) (λb o hb e=>by rw[pj _ _ _ _ hb];exact e) m3 fK.2.1 fK.2.2.2.1 fK.2.2.2.2.1 fK.2.2.2.2.2
  exact pin3 J2 m1 m2 m3 (by show(s''.heap.update kS _).get? fa=_;rw[pj _ _ _ _ faK];exact q1) (by show(s''.heap.update kS _).get? D=_;rw[pj _ _ _ _ DK];exact q2) hc2
 ·obtain⟨H',zs,J,r,p⟩:=hJ;obtain⟨J0,⟨n1,n2,n3⟩,o1,o2,o3⟩:=of3 J;rw[←len] at p;obtain⟨ans,ok,q⟩:=R.fin zs H' p;have zl:=R.len _ _ _ p;have kl:ks.length=its.length:=by rw[←r.length,zl,len]
  obtain⟨κ,k1,k2⟩:=hKP _ _ _ _ _ _ _ J0 r ok;rw[kl] at k1 k2;refine⟨o2,κ,ans,k1,k2,λpm' or ep _=>?_⟩
  ·have J2:Inv X pins σ H' {s' with heap:=s'.heap.update kS (kj λ_=>(#[]:Array kC)),toks:=s'.toks}:=J0.turned (it:=kS) (λb o hb e=>by rw[pj _ _ _ _ hb];exact e) n3 fK.2.1 fK.2.2.2.1 fK.2.2.2.2.1 fK.2.2.2.2.2
   have o4:(s'.heap.update kS (kj λ_=>(#[]:Array kC))).get? D=some (ko "list" #[] e1):=by rw[pj _ _ _ _ DK];exact o2
   rw[←len] at or ep;have lo:pm'.toList.length=(xj n).length:=by rw[or.length_eq,uO]
   obtain⟨c5,o5⟩:∃c5,((s'.heap.update kS (kj λ_=>(#[]:Array kC))).update D (kj λ_=>uk (pm'.toList.map λi=>its.getD i pN))).get? D=some (ko "list" (uk (pm'.toList.map λi=>its.getD i pN)) c5):=⟨_,Qn o4 _⟩;refine⟨.ref D,upd H' D (.lst (pm'.toList.map λi=>(xj n).getD i .non)),J2.track (t':=s'.toks) ⟨n2,fD.2⟩ (λb o hb e=>by rw[pj _ _ _ _ hb];exact e) ?_ (Xu _ λi hi=>vH rv i ?_) o5,rfl,q D pm' n2 or ep⟩
   ·rw[kL,lo,lv];exact pd (ub h64) (by decide)
   ·exact UV.mp (or.mem_iff.mp hi)
 ·have J0:Inv X pins σ H {s with heap:=h',toks:=tk}:=I.kept kk;exact pin3 J0 hfa.1 (I.hok.fresh sD) (I.hok.fresh sK) (kk _ _ hfo) hD hkS
end
section
variable{X:Cx}{p p2 pos pos2 lpos kpos:Pos}{a body:Expr}{params:Qy}{sc:Scope}{x:Str}{clos:List (Str×Addr)}{js:List Nat}{c0 P:Addr}{k:Nat}{te:TE}{ta:TA}
def tSortR(KP:KPT)(P:Addr)(lpos:Pos)(ql:Str)(js:List Nat)(te:TE)(ta:TA):TE:=λσ H Q=>ta σ H λxs H1=>∃(n:Nat)(vys:List V),xs=[.int (n:Int)]/\n<64/\js.map (λj=>σ[j]?)=vys.map (λv=>some (some v))/\xm H1 P lpos ql/\
 ∀c' H2,vJ P H1 H2->xm H2 P lpos ql->H2 c'=some (yE c' ql)->∃Pv,KeyRG KP te vys c' ql (xj n) H2 Q Pv
def zch{KP:KPT}(hKP:wn X KP)(hr:zD (k+2) X.A)(hg:Gl X "sorted")(hm:X.mg "sorted"=none)(hg2:Gl X "range")(hm2:X.mg "range"=none)(ha:PA X [a] ta)(S:vh x (clos.map QJ) sc)(nd:(clos.map QJ).Nodup)(hcap:Capt X clos js)
  (hclos:gQ sc X.env=pure clos)(hdef:Au params X.env=([],[]))(hcode:X.env.code=.ref c0)(C:CodeHd X.base c0 P)(hB:X.base.BuiltinsAt X.mg P)
  (hbind:∀(pm cd ctv u:kC),QW (kla_fn "<lambda>" (X.env.qual++"<lambda>") params body sc clos pm cd ctv) ⟨[u],[]⟩=pure [(x,u)])
  (hbody:∀(fa c':Addr)(A:pI)(s:kE)(H:Hp),A.units+64<cLine->PE (wd X.prog X.w X.K X.mg X.base x (X.env.qual++"<lambda>") sc fa (.ref c') clos A X.stack s H) body te)
  (hs:kJ [a] X.env=[(false,eval a X.env)]:=by rfl)
  (he:pX pos (kJ [.Call (.Name "range" p2) [a] [] pos2] X.env)=(false,eval (.Call (.Name "range" p2) [a] [] pos2) X.env)::pX pos (kJ [] X.env):=by rfl) (hpl:(pX pos (kJ [.Call (.Name "range" p2) [a] [] pos2] X.env)).any (·.1)=false:=by rfl):
  PE X (.Call (.Name "sorted" p) [.Call (.Name "range" p2) [a] [] pos2] [⟨some "key",.Lambda params body sc lpos,kpos⟩] pos) (tSortR KP P lpos (X.env.qual++"<lambda>") js te ta):=by
 intro pins s σ H Q I h;refine uQ (xk I hg hm qe ?_);refine EM ?_ he hpl rfl rfl;rw[he];refine uL ?_;refine Call_ (xk I hg2 hm2 Ei (py (thn (ha pos2 pins s σ H _ I h) λus s1⟨vs,H1,I1,r1,q1⟩=>?_) hs rfl));obtain⟨n,vys,ev,h64,hσ,ht,q⟩:=q1;subst ev;obtain⟨u,rfl,ru⟩:=vals1 r1;obtain⟨t,rfl⟩:=ru;refine call_range_1 ?_;have I2:Inv X pins σ H1 {s1 with heap:=s1.heap.push {cls:=.type "range",data:=.fields #[.int 0 s1.toks,.int (n:Int) t,.int 1 (s1.toks+1)]},toks:=s1.toks+1+1}:=I1.kept λb o e=>kG _ e;have o2:(s1.heap.push {cls:=.type "range",data:=.fields #[.int 0 s1.toks,.int (n:Int) t,.int 1 (s1.toks+1)]}).get? s1.heap.objs.size=some {cls:=.type "range",data:=.fields #[.int 0 s1.toks,.int (n:Int) t,.int 1 (s1.toks+1)]}:=kQ _ rfl;have fR:=I1.fpOk (kN _) (I1.hok.fresh (kN _));have I3:Inv X (pins++[(s1.heap.objs.size,{cls:=.type "range",data:=.fields #[.int 0 s1.toks,.int (n:Int) t,.int 1 (s1.toks+1)]})]) σ H1 {s1 with heap:=s1.heap.push {cls:=.type "range",data:=.fields #[.int 0 s1.toks,.int (n:Int) t,.int 1 (s1.toks+1)]},toks:=s1.toks+1+1}:=by
  refine I2.pins_of λp hp=>?_;rcases pS.mp hp with hp|hp
  ·exact I2.pin p (kT _ hp)
  ·have e:=kf.mp hp;subst e;exact⟨o2,fR.1,fR.2.1,fR.2.2.1,λv z=>nomatch (show EI _=BO v from z)⟩
 refine Ur ?_;refine kws_cons (Wc (C:=C) I3 hcode hB hclos hdef ht λfa c' ctv H2 s2 I4 st lt hfo hc' ffa=>kws_nil ?_);obtain⟨Pv,R⟩:=q c' H2 st lt hc';have pr:=I4.pin _ (kT _ (kT _ (List.mem_singleton.mpr rfl)));refine zbc (r:=s1.heap.objs.size) (n:=n) I4.unpinned hKP hr S nd hcap hσ ⟨ffa.1,ffa.2.1,ffa.2.2.1,ffa.2.2.2.1,ffa.2.2.2.2.1,λp hp=>?_⟩ hfo (λu=>hbind _ _ _ u) (hbody fa c') pr.1 h64 R;refine ffa.2.2.2.2.2 p ?_;rcases pS.mp hp with hp|hp
 ·exact UJ _ hp
 ·exact kT _ (UJ _ hp)
end
section
open PySem.SeqAt
open PySem.AutoSeq1 (wpAny_loadPart')
open PySem.MeetsSeq PySem.MeetsSeq2 PySem.MeetsSeq3
def geRc{A:pI}{s:kE}{a c:Int}{t u:Tok}(prog:kW)(w:kq)(E:kC->kE->Prop)(Q:kC->kE->Prop)(h:Q (.bool (decide (c<=a))) s):wpAny (model prog w) A (CQ .GtE (.int a t) (.int c u)) Q E s:=
 (PyProof.Rows.ge_int h:wpAny (model prog w) A (ug .GtE (.int a t) (.int c u)) Q E s)
theorem tupleGe(l b:Addr)(items items2:Array kC)(n n2:Nat)(dd dd2:Option Addr)(sl sl2:Array (Option kC))(ns ms:List Int)(hlen:ns.length=ms.length)(hi:UD items.toList ns)(hj:UD items2.toList ms):
  Meets (Qe.«tuple.__ge__» ⟨[.ref l,.ref b],[]⟩)
   (λ_ R s=>s.heap.get? l=some {cls:=.type "tuple",dict:=dd,data:=.seq items n,slots:=sl}/\s.heap.get? b=some {cls:=.type "tuple",dict:=dd2,data:=.seq items2 n2,slots:=sl2}/\R (.ok (.ret (.bool (!HT.lexLt ns ms)))) s):=
 .of_wp λprog w A R s h=>by
  obtain⟨hp,g,d,tk,os⟩:=s;obtain⟨hl,hb,h⟩:=h;have f2:=BJ;have z1:items.size=ns.length:=by rw[←hi.length];simp
  have z2:items2.size=ms.length:=by rw[←hj.length];simp
  wp_walk using QU hl,QU hb,UW _ (λrest b s'=>b.1=none/\s'=⟨hp,g,d,tk,os⟩/\∃(vs ws:List kC)(ns' ms':List Int),rest=vs.zip ws/\UD vs ns'/\UD ws ms'/\ns'.length=ms'.length/\R (.ok (.ret (.bool (!HT.lexLt ns' ms')))) ⟨hp,g,d,tk,os⟩) _
  case turn=>
   rintro⟨y,x⟩ rest b s' ⟨hb',rfl,vs,ws,ns',ms',hz,hvi,hwi,hln,hR⟩
   cases hvi with
   |nil=>rw[BC] at hz;cases hz
   |cons a t hv=>
    cases hwi with
    |nil=>rw[Ar] at hz;cases hz
    |cons c u hw=>
     rw[uc] at hz
     injection hz with q1 q2
     injection q1 with q3 q4
     subst q3 q4;rw[HT.lexLt_cons] at hR;simp only[pH] at hln;obtain⟨e,he,hiff⟩:=HT.eqAt_int A.in1 ⟨hp,g,d,tk,os⟩ a t c u;refine kB (he prog w _ _ ?_)
     cases e with
     |true=>
      rw[if_pos (hiff.mp rfl)] at hR
      wp_walk
      exact⟨rfl,rfl,_,_,_,_,q2,hv,hw,by omega,hR⟩
     |false=>
      have ac:¬a=c:=λq=>absurd (hiff.mpr q) kZ;rw[if_neg ac] at hR;have hR:R (.ok (.ret (.bool (decide (c<=a))))) ⟨hp,g,d,tk,os⟩:=by
       have e2:(!decide (a<c))=decide (c<=a):=by rw[UI];simp
       rw[←e2];exact hR
      have hri:=geRc (A:=A.in1) (s:=⟨hp,g,d,tk,os⟩) (a:=a) (c:=c) (t:=t) (u:=u) prog w
      wp_walk using hri
      exact⟨_,rfl,by simpa using hR⟩
  case fin=>
   rintro⟨b1,b2⟩ s' ⟨hb',rfl,vs,ws,ns',ms',hz,hvi,hwi,hln,hR⟩
   simp only at hb'
   subst hb';have hv:(!HT.lexLt ns' ms')=decide (items2.size<=items.size):=by
    rw[decide_eq_true (by omega)]
    cases hvi with
    |nil=>
     cases hwi with
     |nil=>rfl
     |cons c u hw=>cases hln
    |cons a t hv=>
     cases hwi with
     |nil=>cases hln
     |cons c u hw=>rw[uc] at hz;cases hz
   rw[hv] at hR
   wp_walk
   exact⟨_,rfl,by simpa[AA] using hR⟩
  case h=>
   exact⟨rfl,rfl,items.toList,items2.toList,ns,ms,rfl,hi,hj,hlen,h⟩
end
section
variable{X:Cx}
def rGe2:R2:=λx y H Q=>∃a b i1 i2 j1 j2,x=.ref a/\y=.ref b/\H a=some (.tup [.int i1,.int i2])/\H b=some (.tup [.int j1,.int j2])/\Q (.bl (!lt2 (i1,i2) (j1,j2))) H
theorem op_ge2(hu:X.A.units+64<cLine):OpR X (ug .GtE) rGe2:=by
 intro pins s σ H x y v u Q I rx ry h;obtain⟨a,b,i1,i2,j1,j2,rfl,rfl,ha,hb,q⟩:=h
 cases rx
 cases ry;have sa:SqT X.K H a ([i1,i2].map V.int):=.of ha;have sb:SqT X.K H b ([j1,j2].map V.int):=.of hb;obtain⟨its,r1,p1,_⟩:=I.tuple sa;obtain⟨its2,r2,p2,_⟩:=I.tuple sb;have e1:UD its.toArray.toList [i1,i2]:=jX r1;have e2:UD its2.toArray.toList [j1,j2]:=jX r2;obtain⟨⟨cls,dd,data,sl⟩,ho,hc,n,hd⟩:=id p1;obtain⟨⟨cls2,dd2,data2,sl2⟩,ho2,hc2,n2,hd2⟩:=id p2
 simp only at hc hd hc2 hd2
 subst hc hd hc2 hd2;have ev:HT.lexLt [i1,i2] [j1,j2]=lt2 (i1,i2) (j1,j2):=lex2 _ _ _ _;refine Bn (op:=.GtE) ⟨_,ho,rfl⟩ ⟨_,ho2,rfl⟩ PySem.F.slot_tuple_ge PySem.F.entry_tuple_ge (PySem.F.args_tuple_ge_2 _ _) (tupleGe a b its.toArray its2.toArray n n2 dd dd2 sl sl2 [i1,i2] [j1,j2] rfl e1 e2) ⟨ho,ho2,(λz=>nomatch z),?_⟩ (by omega)
 rw[ev];exact⟨.bl _,H,I,rfl,q⟩
end
open PySem.W (kla_fn kla_obj envX tabObj CodeHd KasT kas_sort kas_ask kas_item)
section
variable{X:Cx}
def zb3{k:Key}{v:kC}(h:vf k v):zt (kV k) v:=by
 rcases wc h with⟨i,t,rfl,rfl⟩|⟨x,t,rfl,rfl⟩
 ·exact⟨t,rfl⟩
 ·exact⟨t,rfl⟩
theorem za5{P:kW}{w:kq}:∀{es:List gX}{vs:List (Key×kC)},Pairs (yA P w) es vs->zr (vs.map λkv=>kV kv.1) (es.map (·.key)):=by
 intro es vs h
 induction h with
 |nil=>exact .nil
 |cons h1 h2 h3 ih=>exact .cons (zb3 h1) ih
def rSortI:List V->Hp->VK->Prop:=λxs H Q=>∃l ns,xs=[.ref l]/\H l=some (.lst (ns.map V.int))/\ns.length<64/\∀D(ms:List Int),H D=none->ms.Perm ns->ms.Pairwise (·<=·)->Q (.ref D) (upd H D (.lst (ms.map V.int)))
theorem zdh(hu:X.A.units+100<cLine):yd X (.builtin "sorted") rSortI:=by
 intro pins s σ H xs us Q I r h;obtain⟨l,ns,rfl,hl,h64,q⟩:=h;obtain⟨u,rfl,ru⟩:=vals1 r
 cases ru;obtain⟨its,rv,pl,hz⟩:=I.list (.of hl);have len:ns.length=its.length:=by have:=rv.length;rw[kL] at this;exact this
 refine sorted_ints pl.isList (jX rv) (by omega) λout ms a1 a2 a3=>?_
 have k0:Keeps s.heap s.heap:=λ_ _ e=>e;have k2:=((k0.push (ko "list" #[] 0)).upd (a:=s.heap.objs.size) (f:=kj (·++its.toArray)) (kN _)).push (ko "list" its.toArray 0);have z2:((s.heap.push (ko "list" #[] 0)).update s.heap.objs.size (kj (·++its.toArray))).objs.size=s.heap.objs.size+1:=by
  rw[BU,Ev]
 have o2:(((s.heap.push (ko "list" #[] 0)).update s.heap.objs.size (kj (·++its.toArray))).push (ko "list" its.toArray 0)).get? (s.heap.objs.size+1)=some (ko "list" its.toArray 0):=
  z2▸kQ _ rfl
 have o3:=Qn o2 λ_=>(#[]:Array kC);have o5:=Qn (kG (ko "list" #[] 0) (kG (ko "tuple" its.toArray 0) o3)) λ_=>out;have k5:Keeps s.heap (sortedAll s.heap its out):=(((k2.upd (a:=s.heap.objs.size+1) (f:=kj λ_=>(#[]:Array kC)) (Qh _)).push (ko "tuple" its.toArray 0)).push (ko "list" #[] 0)).upd (a:=s.heap.objs.size+1) (f:=kj λ_=>out) (Qh _);refine⟨.ref _,upd H (s.heap.objs.size+1) (.lst (ms.map V.int)),I.laid (t':=s.toks) k5 (Qh _) ⟨?_,out.toList,_,Wi a1,o5⟩,rfl,q _ _ (I.hok.fresh (Qh _)) a2 a3⟩;rw[kL,a2.length_eq];exact pd (ub h64) (by decide)
end
def Ite(K:kF)(l:Addr):It:=
 ⟨λi H=>∃xs x,SqL K H l xs/\xs[i]?=some x,
  λi H v H'=>∃T x,H T=none/\v=.ref T/\H'=upd H T (.tup [.int (i:Int),x])/\(∀xs,SqL K H l xs->xs[i]?=some x),
  λi H=>∃xs,SqL K H l xs/\xs.length<=i⟩
def EnuSt(e it l:Addr)(i:Nat)(h:Heap):Prop:=∃old,IsEnum h e it (i:Int) old/\h.IsListIter it l i
variable{elts:List Expr}
theorem zcz{P:kW}{w:kq}{K:kF}{x1:Nat}{pos:Pos}{e it:Addr}(ne:e≠it):
  Turn P w K (.Tuple elts x1 pos) (Ite K l) [e,it] e (EnuSt e it l) where
 mem:=by simp
 obj:=λi h st b hb=>by
  obtain⟨old,he,h1⟩:=st;simp only[kX,pi,or_false] at hb;rcases hb with rfl|rfl
  ·exact⟨_,he,λv q=>by cases q⟩
  ·obtain⟨o,q,c,d⟩:=h1;exact⟨o,q,λv r=>by rw[d] at r;cases r⟩
 keep:=λi h h' st k=>by
  obtain⟨old,he,h1⟩:=st;exact⟨old,k e (by simp) _ he,h1.at λo q=>k it (by simp) o q⟩
 item:=by
  intro X hP hw hK hc i pins s σ H E I hf st hg;subst hP hw hK;obtain⟨xs,x,hq1,hx⟩:=hg;obtain⟨old,he,h1⟩:=st;obtain⟨its1,rv1,p1,_⟩:=I.list hq1;obtain⟨u1,hu1,ru1⟩:=rv1.get hx;refine wpAny_pyNext_enum_item he h1 p1.isList (x:=u1) (by simpa using hu1) ne λh₁ z1 j1 pr sz kk=>⟨_,rfl,?_⟩
  refine wpAny_letOwnedTupleGo_enum z1 λh₂ z2 sb=>?_;have lt:∀b∈[e,it],b≠s.heap.objs.size:=λb hb z=>by
   have:∃o,s.heap.get? b=some o:=by
    simp only[kX,pi,or_false] at hb;rcases hb with rfl|rfl
    ·exact⟨_,he⟩
    ·obtain⟨o,q,_⟩:=h1;exact⟨o,q⟩
   obtain⟨o,q⟩:=this;exact absurd (kR q) (by rw[z];exact Qb _)
  have nz:∀{b:Addr},b≠e->∀{o},h₁.get? b=some o->h₂.get? b=some o:=λ{b} hb{o} q=>(sb.2 b hb).trans q;have zT:s.heap.objs.size≠e:=(lt e (by simp)).symm
  have hnT:H s.heap.objs.size=none:=I.hok.fresh (kN _);have new:zV X.prog X.w (upd H s.heap.objs.size (.tup [.int (i:Int),x])) h₂ s.heap.objs.size (.tup [.int (i:Int),x]):=
   ⟨by show 2<=sizeLine;decide,[.int i s.toks,u1],.cons ⟨_,rfl⟩ (.cons ru1 .nil),⟨_,nz zT pr,rfl,_,rfl⟩⟩
  have I1:=Inv.turnedNew (h':=h₂) (t':=s.toks+1) (ch:=[e,it]) I hf (λb o hb q=>nz (by simp at hb;exact hb.1) (kk b o (by simp at hb;exact hb.1) (by simp at hb;exact hb.2) q)) (kN _) new
  refine⟨.ref s.heap.objs.size,_,I1,rfl,⟨_,x,hnT,rfl,rfl,λys' hy'=>by rw[I.list_inj hy' hq1];exact hx⟩,⟨u1,?_,?_⟩,λb hb=>by rw[zp (lt b hb)];exact(hf b hb).1⟩
  ·exact z2
  ·exact j1.at λo q=>nz (QM ne) q
 done:=by
  intro X hP hw hK hc i pins s σ H E I hf st hg;subst hP hw hK;obtain⟨xs,hq1,hl⟩:=hg;obtain⟨old,he,h1⟩:=st;obtain⟨its1,rv1,p1,_⟩:=I.list hq1;have e1:=rv1.length;refine wpAny_pyNext_enum_end (I.ok.hd hc) he h1 p1.isList (by simp;omega) λh₁ kk=>⟨rfl,?_⟩
  exact I.turnedL (t':=s.toks) (ch:=[e,it]) hf (λb o hb q=>kk b o (by simp at hb;exact hb.2) q)
 self:=λ_ _ _ _ _ st h=>by
  obtain⟨old,he,_⟩:=st;exact Dh he h
section
variable{X:Cx}
def iEnu(ta:TA):TI:=λσ H R=>ta σ H λvs H1=>∃l xs,vs=[.ref l]/\H1 l=some (.lst xs)/\∀K,R (Ite K l) H1
def zb7:pp "enumerate"=some (.type "enumerate"):=by decide+kernel
theorem pi_enu{a:Expr}{ta:TA}{p pos tpos:Pos}{x1:Nat}(hg:Gl X "enumerate")(hm:X.mg "enumerate"=none)(ha:PA X [a] ta)(hs:kJ [a] X.env=[(false,eval a X.env)]:=by rfl):PI X (.Tuple elts x1 tpos) (.Call (.Name "enumerate" p) [a] [] pos) (iEnu ta):=by
 intro pins s σ H R I h;refine Call_ (xk I hg hm zb7 (py (thn (ha pos pins s σ H _ I h) λus s1⟨vs,H1,I1,r1,q1⟩=>?_) (by rw[hs];rfl) rfl))
 obtain⟨l,xs,e,e1,q⟩:=q1;subst e;obtain⟨u,rfl,ru⟩:=vals1 r1
 cases ru;obtain⟨its1,rv1,p1,_⟩:=I1.list (.of e1);refine call_enumerate_list p1.isList λh' he hi sz kk=>?_;refine Dh he ?_;have I2:Inv X pins σ H1 {s1 with heap:=h'}:=I1.kept (t':=s1.toks) kk;refine⟨_,_,_,_,H1,rfl,I2,zcz (l:=l) (by show s1.heap.objs.size+1≠s1.heap.objs.size;omega),⟨_,he,hi⟩,λb hb=>?_,q _⟩
 have hb':s1.heap.objs.size<=b:=by
  simp only[kX,pi,or_false] at hb;rcases hb with rfl|rfl
  ·exact Nat.le_add_right _ _
  ·exact kN _
 exact I1.fpOk hb' (I1.hok.fresh hb')
end
section
variable{X:Cx}
def Jm(K:kF):R2:=λx y H Q=>∃d es,RdD K H d x/\RdD K H (.tuple es) y/\d.canLay0=true/\uJ es=true/\d.depth<=60/\Q (.bl (!es.any λe=>QE e d)) H
theorem zaj{K':kF}(hK:X.K=K')(hu:X.A.units+64<cLine):OpR X (ug .NotIn) (Jm K'):=by
 subst hK;intro pins s σ H x y v u Q I rx ry h;obtain⟨d,es,hd,he,c1,c2,c3,q⟩:=h;obtain⟨as,ra⟩:=xU I d x v hd rx;obtain⟨bs,rb⟩:=xU I _ y u he ry;exact SeqAt.notIn_tuple_reads rb ra c2 c1 (by omega) ⟨.bl _,H,I,rfl,q⟩
end
open PySem.W (kla_fn kla_obj envX tabObj CodeHd KasT kas_sort kas_ask kas_item)
section
variable{prog:kW}{w:kq}{A:pI}{E:kC->kE->Prop}{s:kE}{vs ks:List kC}{g:Heap}{a kS:Addr}{e e1:Nat}{f:kC}
open Classical in
noncomputable def kIdx(ks:List kC)(u:kC):Nat:=if h:∃i,i<ks.length/\ks[i]?=some u then Classical.choose h else 0
end
open PySem.W (kla_fn kla_obj envX tabObj CodeHd KasT kas_sort kas_ask kas_item)
structure Yh(KP:KPT):Prop where
 wk:∀{H zs ans},KP H zs ans->Wk ans
 cons:∀{H zs ans},KP H zs ans->∀i j,i<zs.length->j<zs.length->zs[i]?=zs[j]?->∀k,ans i k=ans j k/\ans k i=ans k j
theorem sto_K:STO ltK:=by
 have e:ltK=lt2:=by
  funext a b
  unfold ltK lt2 vD
  by_cases h:a.1=b.1
  ·rw[if_pos h,if_pos h]
   by_cases h2:a.2=b.2
   ·rw[if_pos h2];exact(decide_eq_false (by omega)).symm
   ·rw[if_neg h2]
  ·rw[if_neg h,if_neg h]
 rw[e];exact sto2
def zdp:Yh KPp:=by
 refine⟨λ{H zs ans} h=>?_,λ{H zs ans} h i j hi hj e k=>?_⟩
 ·obtain⟨kp,_,rfl⟩:=h;exact Wk.of sto_K kp
 ·obtain⟨kp,ok,rfl⟩:=h;obtain⟨q,e1,h1⟩:=ok i hi;obtain⟨q',e2,h2⟩:=ok j hj;rw[e,e2] at e1
  cases e1;rw[h1] at h2;have:kp i=kp j:=by
   injection h2 with h2
   injection h2 with h2
   injection h2 with x1 h2
   injection h2 with x2 _
   injection x1 with x1
   injection x2 with x2
   exact Ey x1 x2
  show ltK (kp i) (kp k)=ltK (kp j) (kp k)/\ltK (kp k) (kp i)=ltK (kp k) (kp j)
  rw[this];exact⟨rfl,rfl⟩
def qF(x y:Int×Int)(xs ys:List (Int×Int)):ltL (x::xs) (y::ys)=if x=y then ltL xs ys else lt2 x y:=by rw[ltL,lex2]
theorem WD:∀(a b c:List (Int×Int)),ltL a b=true->ltL b c=true->ltL a c=true
 |[],[],[],_,h2=>h2
 |[],_::_,[],_,h2=>by rw[ltL] at h2;cases h2
 |[],_,_::_,_,_=>by rw[ltL];exact decide_eq_true (Di _)
 |_::_,[],_,h1,_=>by rw[ltL] at h1;cases h1
 |_::_,_::_,[],_,h2=>by rw[ltL] at h2;cases h2
 |x::xs,y::ys,z::zs,h1,h2=>by
  rw[qF] at*
  by_cases e1:x=y
  ·rw[if_pos e1] at h1
   by_cases e2:y=z
   ·rw[if_pos e2] at h2;rw[if_pos (e1.trans e2)];exact WD xs ys zs h1 h2
   ·rw[if_neg e2] at h2;rw[e1,if_neg e2];exact h2
  ·rw[if_neg e1] at h1
   by_cases e2:y=z
   ·rw[←e2,if_neg e1];exact h1
   ·rw[if_neg e2] at h2;have t:=sto2.tr _ _ _ h1 h2;rw[if_neg (λe=>by rw[e,sto2.irr] at t;cases t)]
    exact t
theorem WZ:∀(a b:List (Int×Int)),a≠b->ltL a b=true∨ltL b a=true
 |[],[],n=>absurd rfl n
 |[],_::_,_=>.inl (by rw[ltL];exact decide_eq_true (Di _))
 |_::_,[],_=>.inr (by rw[ltL];exact decide_eq_true (Di _))
 |x::xs,y::ys,n=>by
  rw[qF,qF]
  by_cases e:x=y
  ·rw[if_pos e,if_pos e.symm];exact WZ xs ys λz=>n (by rw[e,z])
  ·rw[if_neg e,if_neg (λz=>e z.symm)];exact sto2.tot _ _ e
theorem VX:∀a:List (Int×Int),ltL a a=false
 |[]=>rfl
 |x::xs=>by rw[qF,if_pos rfl];exact VX xs
def zac:Yh KPl:=by
 refine⟨λ{H zs ans} h=>?_,λ{H zs ans} h i j hi hj e k=>?_⟩
 ·obtain⟨kp,_,rfl⟩:=h;exact Wk.of ⟨VX,WD,WZ⟩ kp
 ·obtain⟨kp,ok,rfl⟩:=h;obtain⟨q,qs,e1,h1,l1,o1⟩:=ok i hi;obtain⟨q',qs',e2,h2,l2,o2⟩:=ok j hj;rw[pB,e,←pB,e2] at e1
  cases e1;rw[h1] at h2
  cases h2;have:kp i=kp j:=by
   refine Dz (l1.symm.trans l2) λn n1 n2=>?_;obtain⟨b,b1,b2⟩:=o1 n _ (kK n1);obtain⟨b',c1,c2⟩:=o2 n _ (kK n2);rw[b1] at c1
   cases c1;rw[b2] at c2
   injection c2 with c2
   injection c2 with c2
   injection c2 with x1 c2
   injection c2 with x2 _
   injection x1 with x1
   injection x2 with x2
   exact Ey x1 x2
  show ltL (kp i) (kp k)=ltL (kp j) (kp k)/\ltL (kp k) (kp i)=ltL (kp k) (kp j)
  rw[this];exact⟨rfl,rfl⟩
open PySem.W (kas_sort kas_ask)
def TupQ(h:Heap)(v:kC)(a b c d:List Int):Prop:=∃(p:Addr)(x y z t:kC)(n:Nat)(dd:Option Addr)(sl:Array (Option kC)),v=.ref p/\h.get? p=some {cls:=.type "tuple",dict:=dd,data:=.seq #[x,y,z,t] n,slots:=sl}/\yc h x a/\yc h y b/\yc h z c/\yc h t d
open PySem.W (KatTups) in
theorem ktupsQ{h:Heap}:∀vs:List kC,(∀v,v∈vs->∃a b c d,TupQ h v a b c d)->∃fs,fs.length=vs.length/\KatTups h vs fs/\∀f,f∈fs->∃ns,yc h f ns
 |[],_=>⟨[],rfl,.nil,λf hf=>by cases hf⟩
 |v::vs,hv=>by
  obtain⟨fs,l,t,r⟩:=ktupsQ vs λu hu=>hv u (pG _ hu);obtain⟨a,b,c,d,p,x,y,z,u,n,dd,sl,rfl,o,i,j⟩:=hv v (pU ..);refine⟨x::fs,by simp[l],.cons o rfl rfl rfl t,λf hf=>?_⟩
  rcases kX.mp hf with rfl|hf
  ·exact⟨_,i⟩
  ·exact r f hf
section
variable{X:Cx}{pins:List (Addr×Obj)}{σ:St}{H:Hp}{s:kE}
def rInL(K:kF):R2:=λx y H Q=>∃d es,RdD K H d x/\RdD K H (.list es) y/\d.canLay0=true/\uJ es=true/\d.depth<=60/\Q (.bl (es.any λe=>QE e d)) H
theorem op_inL{K':kF}(hK:X.K=K')(hu:X.A.units+64<cLine):OpR X (ug .In) (rInL K'):=by
 subst hK;intro pins s σ H x y v u Q I rx ry h;obtain⟨d,es,hd,he,c1,c2,c3,q⟩:=h;obtain⟨as,ra⟩:=xU I d x v hd rx;obtain⟨bs,rb⟩:=xU I _ y u he ry;exact SeqAt.in_list_reads rb ra c2 c1 (by omega) ⟨.bl _,H,I,rfl,q⟩
end
structure zG(K:kF)(mg:Str->Option kC)(x:Str)(st:Stmt)(ps:List Str)(f:Addr)(fd:pZ):Prop where
 fn:Fun K x x st f fd
 bn:Binds K fd ps []
 mg:mg x=some (.ref f)
variable{fd:pZ}
def ZP{X:Cx}{k k':Nat}{f:Addr}{ps:List Str}{sp:Sp}{x:Str}{st:Stmt}{p pos:Pos}{e:Expr}{es:List Expr}{t:TA}(ok:zw X.prog X.w X.K X.mg X.base CX0 k f fd ps sp)(F:zG X.K X.mg x st ps f fd)(hr:zD k' X.A)(ha:PA X (e::es) t)(hk:k<=k':=by decide)(hg:Gl X x:=by rfl)(hdb:(x==("__debug__":Str))=false:=by decide)(he:kJ (e::es) X.env=(false,eval e X.env)::kJ es X.env:=by rfl)(hpl:(pX pos (kJ es X.env)).any (·.1)=false:=by rfl):
  PE X (.Call (.Name x p) (e::es) [] pos) (tCall sp [] E0 t):=J7 ok (hr.mono hk) hg F.mg F.fn.kp F.bn .nil pass0 ha hdb he hpl
variable{pos' pos1:Pos}
section
variable{X:Cx}{pos:Pos}
theorem xA(i:Nat){x:Str}{e:Expr}{te:TE}(hN:X.N.Nodup)(he:PE X e te)(hi:X.N[i]?=some x:=by rfl)(hx:Loc X.env.scope x:=by first|exact .inl rfl|exact .inr rfl)(hs:uh e (some (.Name x pos')) pos.line X.env=pure false:=by rfl)(hf:X.fn x=true∨X.env.scope.names.lookup x=some .local:=by first|exact .inl rfl|exact .inr rfl|assumption):
  PS X (.Assign [.Name x pos'] e pos) (wg te (xT i)):=YZ hN hi hx he hs hf
def zH{N P:List Str}{sc:Scope}(k:sc.kind=.function)(h:sc.isCoroutine=false/\sc.isGenerator=false/\N.Nodup/\N.take P.length=P/\(∀x∈P,sc.names.lookup x=some .local∨sc.names.lookup x=some .cell)/\∀y∈sc.names,y.2≠.free):zA N P sc:=⟨k,h.1,h.2.1,h.2.2.1,h.2.2.2.1,h.2.2.2.2.1,h.2.2.2.2.2⟩
def jk{dsc:Scope}{N:List Str}{scope:Scope}{own:List Str}{ix:List Nat}(k:scope.kind=.function)(h:(∀y∈scope.names,y.2≠AG)/\(∀y∈scope.names,y.2=NameKind.local->scope.names.lookup y.1=some .local)/\(∀y∈scope.names,y.2=pM->dsc.names.lookup y.1=some .cell∨dsc.names.lookup y.1=some .free)/\∀i∈ix,i<N.length/\scope.names.lookup (N.getD i "")=some .free):xw dsc N scope own ix:=⟨k,h.1,h.2.1,h.2.2.1,h.2.2.2⟩
variable{scope dsc:Scope}{tg iter elt:Expr}{ifs:List Expr}{wi:TI}{g:TG}{ti:TT}{te:TE}{N P:List Str}
def pe_cps(S:zA N P dsc)(own:List Str)(ix:List Nat)(hi:PI X tg iter wi)(hb:wu X scope own ix tg ifs elt g ti te)(S':xw dsc N scope own ix:=by exact jk rfl (by decide+kernel))(hc:X.calm=true:=by rfl)(hd:X.env.scope=dsc:=by rfl)(hN:X.N=N:=by rfl)
  (hs:∀x,uY iter X.env x=pure x:=by intro _;rfl):PE X (.ListComp elt [⟨tg,iter,ifs,0⟩] scope pos) (va own.length ix wi g ti te):=ZA hc hd hN S' hi hb hs
theorem VS(i:Nat){x:Str}(S:zA N P dsc)(own:List Str)(ix:List Nat)(hi:PI X tg iter wi)(hb:wu X scope own ix tg ifs elt g ti te)(S':xw dsc N scope own ix:=by exact jk rfl (by decide+kernel))(hc:X.calm=true:=by rfl)(hd:X.env.scope=dsc:=by rfl)(hN':X.N=N:=by rfl)(hx0:X.N[i]?=some x:=by rfl)(hx:Loc X.env.scope x:=by first|exact .inl rfl|exact .inr rfl)
  (hsw:uh (.ListComp elt [⟨tg,iter,ifs,0⟩] scope pos) (some (.Name x pos')) pos1.line X.env=pure true:=by rfl) (hf:X.fn x=true∨X.env.scope.names.lookup x=some .local:=by first|exact .inl rfl|exact .inr rfl|assumption)
  (hs:∀x,uY iter X.env x=pure x:=by intro _;rfl):PS X (.Assign [.Name x pos'] (.ListComp elt [⟨tg,iter,ifs,0⟩] scope pos) pos1) (wg (va own.length ix wi g ti te) (xT i)):=ps_setC (by rw[hN'];exact S.nd) hx0 hx hc hd hN' S' hi hb hsw hf hs
end
section
variable{prog:kW}{w:kq}{A:pI}{E:kC->kE->Prop}{s:kE}{K:Type}[DecidableEq K](kd:HeapKind prog w K)
theorem zbt{d a:Addr}{xs:List (K×Addr×kC)}{k:K}{v:kC}{Q:kC->kE->Prop}(hu:kd.room A)(hkey:kd.is s.heap k a)(hm:s.heap.DictOfH kd d xs)(hz:xs.length<=sizeLine)
  (q1:∀p,atKey xs k=some p->Q p.2 {s with toks:=s.toks+kd.draws k})
  (q2:atKey xs k=none->∀h',h'.DictOfH kd d (DZ xs k a v)->Qc d s.heap h'->Q v {s with heap:=h',toks:=s.toks+kd.draws k}):
  wpAny (model prog w) A (Ca d (.ref a) v) Q E s:=by
 obtain⟨o,es,ep,ho,hc,hd,he,his,hn⟩:=hm;unfold Ca;refine uq (kB (kd.pyHash hu hkey (kB (wpAny_dictFind_heap (s:={s with toks:=s.toks+kd.draws k}) hu hkey ho hd he his hn (λhno=>?_) λj p hj=>?_))))
 ·have an:=atKey_none_of_get hno;have hnot:k∉xs.map (·.1):=not_mem_keys_of_get hno;refine kB (UP (kB (wpAny_updateDictKeys (hz:=by have e:=size_of_entries he;omega) (s:={s with toks:=s.toks+kd.draws k}) ho hd (kH (q2 an _ ⟨_,_,ep+1,uM _ ho (Obj.isFreed_of_dict (Cb hd _)),hc.mapDictKeys _,Cb hd _,?_,?_,?_⟩ (uv ..))))))
  ·rw[ER an]
   simp[he,Ef]
  ·rw[ER an];intro x hx;rcases pS.mp hx with y|y
   ·exact kd.keeps (his x y) ho hd (uv ..)
   ·rw[kf.mp y];exact kd.keeps hkey ho hd (uv ..)
  ·rw[ER an,pT,QA];refine⟨hn,by simp,λx hx y hy e=>hnot ?_⟩
   have y':y=k:=by simpa using hy
   rw[←y',←e];exact hx
 ·refine kB (gr (s:={s with toks:=s.toks+kd.draws k}) ho hd ?_);rw[entry_at he j,hj];exact kB (UP (kH (q1 p (atKey_of_get hn hj))))
def zaw{d a:Addr}(hd:(d==ua)=false)(v:kC):MeetsIn prog w (Qe.«dict.setdefault» ⟨[.ref d,.ref a,v],[]⟩) (λA R s=>kd.room A.in1/\∃k xs,kd.is s.heap k a/\s.heap.DictOfH kd d xs/\xs.length<=sizeLine/\
  (∀p,atKey xs k=some p->R (.ok (.ret p.2)) {s with toks:=s.toks+kd.draws k})/\
  (atKey xs k=none->∀h',h'.DictOfH kd d (DZ xs k a v)->Qc d s.heap h'->R (.ok (.ret v)) {s with heap:=h',toks:=s.toks+kd.draws k})):=
 .of_wp λA R s⟨hu,k,xs,hkey,hm,hz,h1,h2⟩=>by
  unfold Qe.«dict.setdefault» Builtin.Dict.keyAndDefault;refine kB (kB (CG hm.typeIs ?_));show wpAny _ _ (pure (d,ki a,some v)) _ _ s;refine kH ?_;show wpAny _ _ (if(d==ua)=true then _ else(Ca d (ki a) v>>=_)) _ _ s;rw[if_neg (by rw[hd];decide)]
  exact kB (zbt kd hu hkey hm hz (λp hp=>kH ⟨p.2,rfl,h1 p hp⟩) λhn h' hm' hs'=>kH ⟨v,rfl,h2 hn h' hm' hs'⟩)
end
variable{kvs:List N3}
section
variable{X:Cx}{pins:List (Addr×Obj)}{σ:St}{H:Hp}{s:kE}{P:kW}{w:kq}
theorem zbf{xs:List (K2×Addr×kC)}(rel:KNp kvs xs){k:K2}(hn:atKey xs k=none):yy kvs k=none:=by
 have rv:=rel.val k;rw[hn] at rv
 cases hv:yy kvs k with
 |none=>rfl
 |some v=>rw[hv] at rv;exact rv.elim
def rSDN(P:kW)(w:kq)(a:Addr)(y z:V)(H:Hp)(Q:VK):Prop:=∃kvs k b,H a=some (nD P w a kvs)/\KN H kvs/\y=.ref b/\NK H b k/\kvs.length<sizeLine/\(∀v,yy kvs k=some v->Q v H)/\(yy kvs k=none->Q z (upd H a (nD P w a (yH kvs k b z))))
theorem zbu{A:pI}{E:kC->kE->Prop}{a:Addr}{y z:V}{u r:kC}{Q:VK}(hP:X.prog=P)(hw:X.w=w)(hu:A.units+64<cLine)(I:Inv X pins σ H s)(g:rSDN P w a y z H Q)(ry:zt y u)(rz:zt z r):
  wpAny (model X.prog X.w) A (call (.builtin "dict.setdefault") [.ref a,u,r]) (EP X pins σ Q) E s:=by
 subst hP hw;obtain⟨kvs,k,b,e,kn,rfl,nk,l,q1,q2⟩:=g
 cases(show u=ki b from ry);obtain⟨zz,hd,xs,rel,dd⟩:=Wl I.hok (.inl e) kn;have hz:xs.length<=sizeLine:=by rw[←Uj rel];exact zz
 have hl:(yH kvs k b z).length<=sizeLine:=by have:=Jg kvs k b z;omega
 obtain⟨⟨_,_,nd,_⟩,_⟩:=I.hok a _ e;refine call_meetsIn AU dd.typeIs PySem.F.entry_dict_setdefault (PySem.F.args_dict_setdefault_3 _ _ _) (zaw (w4 (yA X.prog X.w)) hd r) ⟨Xs (by omega),k,xs,qY I.hok nk,dd,hz,λp hp=>?_,λhn h' dd' hs=>?_⟩
 ·have rv:=rel.val k;rw[hp] at rv
  cases hv:yy kvs k with
  |none=>rw[hv] at rv;exact rv.elim
  |some v=>
   rw[hv] at rv;exact⟨v,H,I.tok _,rv,q1 v hv⟩
 ·have he:∃q,h'.get? a=some q:=let⟨q,_,_,hq,_⟩:=dd';⟨q,hq⟩;exact⟨z,upd H a (nD X.prog X.w a (yH kvs k b z)),qU I (by rw[e];exact Ud) hs he (Yj hl hd (Vl nd) (rel.put k rz) dd'),rz,q2 (zbf rel hn)⟩
def isN_at{a:Addr}(I:Inv X pins σ H s)(e:H a=some (nD X.prog X.w a kvs)):
  s.TypeIs (.ref a) "dict"/\(∀b,ki a=.ref b->∃ob,s.heap.get? b=some ob/\ob.dict=none)/\(a==ua)=false:=by
 obtain⟨⟨hd,_,_,_,_,ob,es,ep,h1,h2,_⟩,_⟩:=I.hok a _ e;exact⟨⟨ob,h1,h2.1⟩,λb q=>by cases q;exact⟨ob,h1,h2.2.1⟩,hd⟩
variable{o e f i:Expr}{td ty tx:TE}{apos cpos pos:Pos}
def tNSd(P:kW)(w:kq)(td ty tx:TE):TE:=λσ H Q=>td σ H λx H1=>∃a,x=.ref a/\(∃kvs,H1 a=some (nD P w a kvs))/\ty σ H1 λy H2=>tx σ H2 λz H3=>rSDN P w a y z H3 Q
def pe_nsd(hP:X.prog=P)(hw:X.w=w)(hu:X.A.units+64<cLine)(ho:PE X o td)(he:PE X e ty)(hf:PE X f tx)(m:M2 X o "setdefault" apos e f cpos):PE X (.Call (.Attribute o "setdefault" apos) [e,f] [] cpos) (tNSd P w td ty tx):=by
 subst hP hw;intro pins s σ H Q I h;refine wpAny_Call_method m.base m.few m.line PySem.F.plainAttrs_dict AU PySem.F.type_dict_setdefault (thn (ho pins s σ H _ I h) λu s1⟨x,H1,I1,rx,a,ex,⟨kvs,d⟩,q1⟩=>?_);subst ex;obtain rfl:u=ki a:=rx;obtain⟨t1,t2,_⟩:=isN_at I1 d;refine⟨t1,t2,?_⟩;rw[m.trees];exact Bh rfl (Ux (uL (thn (he pins s1 σ H1 _ I1 q1) λiv s2⟨y,H2,I2,ry,q2⟩=>uL (thn (hf pins s2 σ H2 _ I2 q2) λfv s3⟨z,H3,I3,rz,g⟩=>Ur (zbu rfl rfl hu I3 g ry rz)))))
end
inductive Dt where
 |none|bool (b:Bool)|int (i:Int)|str (x:Str)|list (xs:List Dt)|tuple (xs:List Dt)|scr (ns:List Int)
 |dK (ks:List Key) (xs:List Dt)|dT (ks:List (List Key)) (xs:List Dt)|dN (ks:List K2) (xs:List Dt)|ins (ks:List Str) (xs:List Dt)
structure Bx where
 P:kW
 w:kq
 tb:List (Addr×Pos×Str)
 C:Addr
 gx:Hp->Prop
def Okc(a:Addr)(o:HO):Prop:=(∀q,o≠.tbl q)/\(∀xs,o≠.tup xs)/\∀q,o≠yE a q
def Bx.lt(b:Bx)(H:Hp):Prop:=∀t∈b.tb,xm H t.1 t.2.1 t.2.2
def At(W:Bool)(H:Hp)(p:Addr)(u:HO):Prop:=H p=some u∨(W=false/\∃o,H p=some (.frz o u))
def Top(b:Bx)(W:Bool)(H:Hp)(R:List Dt->List V->Prop):Dt->Addr->Prop
 |.list ds,p=>∃xs,H p=some (.lst xs)/\xs.length<=sizeLine/\R ds xs
 |.dK ks ds,p=>∃xs,At W H p (.dK (ks.zip xs))/\ks.length=xs.length/\xs.length<=sizeLine/\R ds xs
 |.dT ks ds,p=>∃xs,At W H p (.dT (ks.zip xs))/\ks.length=xs.length/\xs.length<=sizeLine/\R ds xs
 |.dN ks ds,p=>∃(bs:List Addr)(xs:List V),At W H p (nD b.P b.w p (ks.zip (bs.zip xs)))/\ks.length=bs.length/\bs.length=xs.length/\xs.length<=sizeLine/\KN H (ks.zip (bs.zip xs))/\R ds xs
 |_,_=>False
mutual
def Rp(b:Bx)(O:Addr->Prop)(H:Hp):Dt->V->Prop
 |.none,v=>v=.non
 |.bool c,v=>v=.bl c
 |.int i,v=>v=.int i
 |.str x,v=>v=.str x
 |.scr ns,v=>∃p o,v=.ref p/\¬O p/\H p=some (.frz o (.lst (ns.map V.int)))/\ns.length<=sizeLine
 |.tuple ds,v=>∃p xs,v=.ref p/\¬O p/\H p=some (.tup xs)/\xs.length<=sizeLine/\Rps b O H ds xs
 |.list ds,v=>∃p xs,v=.ref p/\¬O p/\H p=some (.lst xs)/\xs.length<=sizeLine/\Rps b O H ds xs
 |.dK ks ds,v=>∃p xs,v=.ref p/\¬O p/\At false H p (.dK (ks.zip xs))/\ks.length=xs.length/\xs.length<=sizeLine/\Rps b O H ds xs
 |.dT ks ds,v=>∃p xs,v=.ref p/\¬O p/\At false H p (.dT (ks.zip xs))/\ks.length=xs.length/\xs.length<=sizeLine/\Rps b O H ds xs
 |.ins ks ds,v=>∃p dx xs,v=.ref p/\¬O p/\H p=some (.ins b.C dx (ks.zip xs))/\ks.length=xs.length/\Rps b O H ds xs
 |.dN ks ds,v=>∃(p:Addr)(bs:List Addr)(xs:List V),v=.ref p/\¬O p/\At false H p (nD b.P b.w p (ks.zip (bs.zip xs)))/\ks.length=bs.length/\bs.length=xs.length/\xs.length<=sizeLine/\KN H (ks.zip (bs.zip xs))/\Rps b O H ds xs
def Rps(b:Bx)(O:Addr->Prop)(H:Hp):List Dt->List V->Prop
 |[],xs=>xs=[]
 |d::ds,xs=>∃x r,xs=x::r/\Rp b O H d x/\Rps b O H ds r
end
def NoLI(o:HO):Prop:=(∀xs,o≠.lst xs)/\∀C d fs,o≠.ins C d fs
def Nw(a:Addr)(o:HO)(r:Option HO):Prop:=r=some o∨(∃p q,o=.tbl p/\r=some (.tbl q))∨((∀x y,o≠.frz x y)/\Okc a o/\NoLI o/\∃x,r=some (.frz x o))
structure Gd(O:Addr->Prop)(H:Hp)(O':Addr->Prop)(H':Hp):Prop where
 tu:∀a xs,H a=some (.tup xs)->H' a=some (.tup xs)
 st:∀a o,H a=some o->¬O a->Nw a o (H' a)/\¬O' a
structure SD(b:Bx)(O:Addr->Prop)(H H':Hp):Prop where
 lt:b.lt H->b.lt H'
 tu:∀a xs,H a=some (.tup xs)->H' a=some (.tup xs)
 ow:∀a o,H a=some o->O a->H' a=some o
 st:∀a o,H a=some o->¬O a->Nw a o (H' a)
section
variable{b:Bx}{O O' O2:Addr->Prop}{H H' H2:Hp}{p:Addr}{W:Bool}{u:HO}
variable{a:Addr}
def Nw.trans{o:HO}{H' H2:Hp}(h:Nw a o (H' a))(k:∀o,H' a=some o->Nw a o (H2 a)):Nw a o (H2 a):=by
 rcases h with h|⟨p,q,rfl,h⟩|⟨n,n2,n3,x,h⟩
 ·exact k o h
 ·rcases k _ h with z|⟨_,_,_,z⟩|⟨_,n,_⟩
  ·exact .inr (.inl ⟨p,_,rfl,z⟩)
  ·exact .inr (.inl ⟨p,_,rfl,z⟩)
  ·exact absurd rfl (n.1 q)
 ·rcases k _ h with z|⟨_,_,z,_⟩|⟨n',_⟩
  ·exact .inr (.inr ⟨n,n2,n3,x,z⟩)
  ·cases z
  ·exact absurd rfl (n' _ _)
def Nw.lst{xs:List V}{r:Option HO}(h:Nw a (.lst xs) r):r=some (.lst xs):=by
 rcases h with h|⟨_,_,h,_⟩|⟨_,_,h,_⟩
 ·exact h
 ·cases h
 ·exact absurd rfl (h.1 _)
def Nw.ins{C dx:Addr}{fs:List (Str×V)}{r:Option HO}(h:Nw a (.ins C dx fs) r):r=some (.ins C dx fs):=by
 rcases h with h|⟨_,_,h,_⟩|⟨_,_,h,_⟩
 ·exact h
 ·cases h
 ·exact absurd rfl (h.2 _ _ _)
def Nw.frz{x:Obj}{u:HO}{r:Option HO}(h:Nw a (.frz x u) r):r=some (.frz x u):=by
 rcases h with h|⟨_,_,h,_⟩|⟨h,_⟩
 ·exact h
 ·cases h
 ·exact absurd rfl (h _ _)
def Nw.code{q:Str}{r:Option HO}(h:Nw a (yE a q) r):r=some (yE a q):=by
 rcases h with h|⟨_,_,h,_⟩|⟨_,h,_⟩
 ·exact h
 ·cases h
 ·exact absurd rfl (h.2.2 _)
def Nw.has{o:HO}{r:Option HO}(h:Nw a o r):∃u,r=some u:=by
 rcases h with h|⟨_,_,_,h⟩|⟨_,_,_,_,h⟩<;>exact⟨_,h⟩
def Nw.at(n:∀q,u≠.tbl q)(k:∀o,H a=some o->Nw a o (H' a))(h:At false H a u):At false H' a u:=by
 rcases h with h|⟨_,x,h⟩
 ·rcases k _ h with z|⟨_,_,z,_⟩|⟨_,_,_,x,z⟩
  ·exact .inl z
  ·exact absurd z (n _)
  ·exact .inr ⟨rfl,x,z⟩
 ·rcases k _ h with z|⟨_,_,z,_⟩|⟨n',_⟩
  ·exact .inr ⟨rfl,x,z⟩
  ·cases z
  ·exact absurd rfl (n' _ _)
def SD.refl(O:Addr->Prop)(H:Hp):SD b O H H:=⟨id,λ_ _ h=>h,λ_ _ h _=>h,λ_ _ h _=>.inl h⟩
def SD.nw(g:SD b O H H'){o:HO}(h:H a=some o):Nw a o (H' a):=by
 by_cases n:O a
 ·exact .inl (g.ow a o h n)
 ·exact g.st a o h n
def SD.trans(g:SD b O H H')(k:SD b O H' H2):SD b O H H2:=⟨λz=>k.lt (g.lt z),λa xs h=>k.tu a xs (g.tu a xs h),λa o h n=>k.ow a o (g.ow a o h n) n,λa o h n=>(g.st a o h n).trans λo' h'=>k.st a o' h' n⟩
def SD.of(g:Same H H'):SD b O H H':=⟨λz t m=>(z t m).same g,λa xs h=>g a _ h,λa o h _=>g a o h,λa o h _=>.inl (g a o h)⟩
def SD.less(g:SD b O H H')(i:∀a,O' a->O a):SD b O' H H':=⟨g.lt,g.tu,λa o h n=>g.ow a o h (i a n),λa o h _=>g.nw h⟩
theorem SD.free(g:SD b O H H')(h:H' a=none):H a=none:=by
 cases q:H a with
 |none=>rfl
 |some o=>obtain⟨u,z⟩:=(g.nw q).has;rw[h] at z;cases z
def SD.at(g:SD b O H H')(n:∀q,u≠.tbl q)(h:At false H a u):At false H' a u:=Nw.at n (λ_ q=>g.nw q) h
def SD.gd(g:SD b O H H'):Gd O H O H':=⟨g.tu,λa o h n=>⟨g.st a o h n,n⟩⟩
def SD.new{p:Addr}(h:H p=none)(o:HO):SD b O H (upd H p o):=.of (j5 h o)
def Gd.trans(g:Gd O H O' H')(k:Gd O' H' O2 H2):Gd O H O2 H2:=⟨λa xs h=>k.tu a xs (g.tu a xs h),λa o h n=>by
 obtain⟨z,n'⟩:=g.st a o h n;obtain⟨u,hu⟩:=z.has;exact⟨z.trans λo' h'=>(k.st a o' h' n').1,(k.st a u hu n').2⟩⟩
def Gd.at(g:Gd O H O' H')(n:∀q,u≠.tbl q)(h:At false H a u)(no:¬O a):At false H' a u/\¬O' a:=by
 refine⟨Nw.at n (λo q=>(g.st a o q no).1) h,?_⟩;rcases h with h|⟨_,x,h⟩<;>exact(g.st a _ h no).2
def JM{P:kW}{w:kq}{d:Addr}{q:Str}:nD P w d kvs≠yE d q:=λe=>by
 unfold yE nD at e
 injection e with e
 have h:=congrFun e (Heap.push {objs:=Bw d {cls:=.none,data:=.fields #[.none,.str q 0]}} {cls:=.none,data:=.fields #[.none,.str q 0]});have g:(Heap.push {objs:=Bw d {cls:=.none,data:=.fields #[.none,.str q 0]}} {cls:=.none,data:=.fields #[.none,.str q 0]}).get? d=some {cls:=.none,data:=.fields #[.none,.str q 0]}:=by
  have:=kQ {objs:=Bw d {cls:=.none,data:=.fields #[.none,.str q 0]}} (o:={cls:=.none,data:=.fields #[.none,.str q 0]}) rfl;rw[Array.size_replicate] at this;exact this
 obtain⟨_,_,_,_,_,o',es,ep,h1,_,h2,_⟩:=h.mpr ⟨d,_,_,0,rfl,g,rfl,rfl⟩;rw[g] at h1
 cases h1
 cases h2
def qN{P:kW}{w:kq}{l:List N3}:∀q,nD P w a l≠.tbl q:=λq h=>by cases h
theorem Top.imp{R R':List Dt->List V->Prop}{W':Bool}(ls:∀xs,H p=some (.lst xs)->H' p=some (.lst xs))(at':∀u,(∀q,u≠.tbl q)->At W H p u->At W' H' p u)(tu:∀a xs,H a=some (.tup xs)->H' a=some (.tup xs))(r:∀ds xs,R ds xs->R' ds xs):∀{d:Dt},Top b W H R d p->Top b W' H' R' d p
 |.list ds,⟨xs,h,l,q⟩=>⟨xs,ls _ h,l,r _ _ q⟩
 |.dK ks ds,⟨xs,h,l,l2,q⟩=>⟨xs,at' _ (by intro q z;cases z) h,l,l2,r _ _ q⟩
 |.dT ks ds,⟨xs,h,l,l2,q⟩=>⟨xs,at' _ (by intro q z;cases z) h,l,l2,r _ _ q⟩
 |.dN ks ds,⟨bs,xs,h,l,l2,l3,kn,q⟩=>⟨bs,xs,at' _ qN h,l,l2,l3,kn.ts tu,r _ _ q⟩
theorem Rp.top(h:Top b false H (Rps b O H) d p)(n:¬O p):Rp b O H d (.ref p):=by
 cases d with
 |list ds=>obtain⟨xs,h⟩:=h;rw[Rp];exact⟨p,xs,rfl,n,h⟩
 |dK ks ds=>obtain⟨xs,h⟩:=h;rw[Rp];exact⟨p,xs,rfl,n,h⟩
 |dT ks ds=>obtain⟨xs,h⟩:=h;rw[Rp];exact⟨p,xs,rfl,n,h⟩
 |dN ks ds=>obtain⟨bs,xs,h⟩:=h;rw[Rp];exact⟨p,bs,xs,rfl,n,h⟩
 |_=>exact h.elim
def isC:Dt->Bool
 |.list _=>true
 |.dK _ _=>true
 |.dT _ _=>true
 |.dN _ _=>true
 |_=>false
theorem Rp.of_top{d:Dt}{v:V}(c:isC d=true)(h:Rp b O H d v):∃p,v=.ref p/\¬O p/\Top b false H (Rps b O H) d p:=by
 cases d with
 |list ds=>rw[Rp] at h;obtain⟨p,xs,e,n,h⟩:=h;exact⟨p,e,n,xs,h⟩
 |dK ks ds=>rw[Rp] at h;obtain⟨p,xs,e,n,h⟩:=h;exact⟨p,e,n,xs,h⟩
 |dT ks ds=>rw[Rp] at h;obtain⟨p,xs,e,n,h⟩:=h;exact⟨p,e,n,xs,h⟩
 |dN ks ds=>rw[Rp] at h;obtain⟨p,bs,xs,e,n,h⟩:=h;exact⟨p,e,n,bs,xs,h⟩
 |_=>cases c
mutual
theorem Rp.go(g:Gd O H O' H'):∀(d:Dt)(v:V),Rp b O H d v->Rp b O' H' d v
 |.none,v,h=>by rw[Rp] at h⊢;exact h
 |.bool _,v,h=>by rw[Rp] at h⊢;exact h
 |.int _,v,h=>by rw[Rp] at h⊢;exact h
 |.str _,v,h=>by rw[Rp] at h⊢;exact h
 |.tuple ds,v,h=>by
  rw[Rp] at h⊢;obtain⟨p,xs,e,n,r,z,q⟩:=h;exact⟨p,xs,e,(g.st p _ r n).2,g.tu _ _ r,z,Rps.go g ds xs q⟩
 |.scr ns,v,h=>by
  rw[Rp] at h⊢;obtain⟨p,o,e,n,r,z⟩:=h;obtain⟨r',n'⟩:=g.st p _ r n;exact⟨p,o,e,n',r'.frz,z⟩
 |.ins ks ds,v,h=>by
  rw[Rp] at h⊢;obtain⟨p,dx,xs,e,n,r,z,q⟩:=h;obtain⟨r',n'⟩:=g.st p _ r n;exact⟨p,dx,xs,e,n',r'.ins,z,Rps.go g ds xs q⟩
 |.list ds,v,h=>by
  rw[Rp] at h⊢;obtain⟨p,xs,e,n,r,z,q⟩:=h;obtain⟨r',n'⟩:=g.st p _ r n;exact⟨p,xs,e,n',r'.lst,z,Rps.go g ds xs q⟩
 |.dK ks ds,v,h=>by
  rw[Rp] at h⊢;obtain⟨p,xs,e,n,r,z,z2,q⟩:=h;obtain⟨r',n'⟩:=g.at (by intro q z;cases z) r n
  exact⟨p,xs,e,n',r',z,z2,Rps.go g ds xs q⟩
 |.dT ks ds,v,h=>by
  rw[Rp] at h⊢;obtain⟨p,xs,e,n,r,z,z2,q⟩:=h;obtain⟨r',n'⟩:=g.at (by intro q z;cases z) r n
  exact⟨p,xs,e,n',r',z,z2,Rps.go g ds xs q⟩
 |.dN ks ds,v,h=>by
  rw[Rp] at h⊢;obtain⟨p,bs,xs,e,n,r,z,z2,z3,kn,q⟩:=h;obtain⟨r',n'⟩:=g.at qN r n;exact⟨p,bs,xs,e,n',r',z,z2,z3,kn.ts g.tu,Rps.go g ds xs q⟩
theorem Rps.go(g:Gd O H O' H'):∀(ds:List Dt)(xs:List V),Rps b O H ds xs->Rps b O' H' ds xs
 |[],xs,h=>by rw[Rps] at h⊢;exact h
 |d::ds,xs,h=>by
  rw[Rps] at h⊢;obtain⟨x,r,e,q,qs⟩:=h;exact⟨x,r,e,Rp.go g d x q,Rps.go g ds r qs⟩
end
end
inductive Sl where
 |un|fz (d:Dt)|ow (io:Bool) (n:Nat) (d:Dt)|rd (d:Dt)
abbrev En:=List Sl
abbrev Os:=Nat->Addr->Prop
def RpT(b:Bx)(O:Addr->Prop)(H:Hp)(d:Dt)(v:V):Prop:=Rp b O H d v∨∃p,v=.ref p/\Top b false H (Rps b O H) d p
def Chd(b:Bx)(O:Addr->Prop)(H:Hp)(qs:List Addr)(ds:List Dt)(xs:List V):Prop:=xs=qs.map V.ref/\ds.length=qs.length/\∀(i:Nat)(d:Dt)(q:Addr),ds[i]?=some d->qs[i]?=some q->Top b true H (Rps b O H) d q
def RpW(b:Bx)(O:Addr->Prop)(H:Hp)(S:Addr->Prop):Nat->Dt->Addr->Prop
 |1,d,p=>(∀a,S a↔a=p)/\Top b true H (Rps b O H) d p
 |2,d,p=>∃qs,(∀a,S a↔a=p∨a∈qs)/\(p::qs).Nodup/\Top b true H (Chd b O H qs) d p
 |_,_,_=>False
def Own(ow:Os):Addr->Prop:=λa=>∃i,ow i a
def Ow(B:Addr->Prop)(ow:Os):Addr->Prop:=λa=>B a∨Own ow a
structure zk(b:Bx)(B:Addr->Prop)(π:Nat->Addr)(H:Hp)(σ:St)(ρ:En)(ow:Os):Prop where
 len:ρ.length=σ.length
 tbs:b.lt H
 bd:∀a,B a->∃o,H a=some o/\Okc a o
 frz:∀(i:Nat)(d:Dt),ρ[i]?=some (Sl.fz d)->∃v,σ[i]?=some (some v)/\Rp b (Ow B ow) H d v
 own:∀(i:Nat)(io:Bool)(n:Nat)(d:Dt),ρ[i]?=some (Sl.ow io n d)->∃p,σ[i]?=some (some (.ref p))/\(io=true->p=π i)/\RpW b (Ow B ow) H (ow i) n d p
 red:∀(i:Nat)(d:Dt),ρ[i]?=some (Sl.rd d)->∃v,σ[i]?=some (some v)/\RpT b (Ow B ow) H d v/\∀p,v=.ref p->¬Own ow p
 inj:∀i j a,ow i a->ow j a->i=j
 ex:∀i a,ow i a->(∃o,H a=some o/\Okc a o)/\¬B a
structure Stp(B:Addr->Prop)(ow:Os)(H:Hp)(ow':Os)(H':Hp):Prop where
 tu:∀a xs,H a=some (.tup xs)->H' a=some (.tup xs)
 st:∀a o,H a=some o->¬Own ow a->((B a->H' a=some o)/\Nw a o (H' a))/\¬Own ow' a
variable{u:HO}{R:List Dt->List V->Prop}
section
variable{b:Bx}{O O' B S:Addr->Prop}{π:Nat->Addr}{H H' H2:Hp}{σ:St}{ρ:En}{ow ow' ow2:Os}{d:Dt}{v:V}{p:Addr}{n:Nat}
def RpT.of(h:Rp b O H d v):RpT b O H d v:=.inl h
def RpT.top(h:RpT b O H d v)(c:isC d=true):∃p,v=.ref p/\Top b false H (Rps b O H) d p:=by
 rcases h with h|h
 ·obtain⟨p,e,_,t⟩:=h.of_top c;exact⟨p,e,t⟩
 ·exact h
def RpT.rp(h:RpT b O H d v)(c:isC d=false):Rp b O H d v:=by
 rcases h with h|⟨p,_,h⟩
 ·exact h
 ·cases d<;>first|exact h.elim|cases c
def At.tt{p:Addr}(h:At true H p u)(k:∀o,H p=some o->H' p=some o):At true H' p u:=h.elim (λz=>.inl (k _ z)) λz=>nomatch z.1
def At.less{p:Addr}(h:At true H p u):At false H p u:=h.elim .inl λz=>nomatch z.1
def Top.less(h:Top b true H R d p):Top b false H R d p:=h.imp (λ_ z=>z) (λ_ _ z=>z.less) (λ_ _ z=>z) λ_ _ z=>z
theorem Top.sd{W:Bool}(g:SD b O H H')(o:W=true->O p)(h:Top b W H (Rps b O H) d p):Top b W H' (Rps b O H') d p:=h.imp (λ_ z=>(g.nw z).lst) (λu n z=>by
  cases W with
  |false=>exact g.at n z
  |true=>exact z.elim (λz=>.inl (g.ow _ _ z (o rfl))) λz=>nomatch z.1) g.tu λ_ _ q=>Rps.go g.gd _ _ q
def RpT.sd(g:SD b O H H')(h:RpT b O H d v):RpT b O H' d v:=h.elim (λh=>.inl (Rp.go g.gd _ _ h)) λ⟨p,e,t⟩=>.inr ⟨p,e,t.sd g λz=>nomatch z⟩
theorem RpW.go(g:Gd O H O' H')(k:∀a o,S a->H a=some o->H' a=some o):∀{n:Nat},RpW b O H S n d p->RpW b O' H' S n d p
 |1,h=>⟨h.1,h.2.imp (λxs=>k _ _ ((h.1 p).mpr rfl)) (λu _ z=>z.tt λo=>k _ o ((h.1 p).mpr rfl)) g.tu λ_ _ q=>Rps.go g _ _ q⟩
 |2,⟨qs,h,nd,t⟩=>⟨qs,h,nd,t.imp (λxs=>k _ _ ((h p).mpr (.inl rfl))) (λu _ z=>z.tt λo=>k _ o ((h p).mpr (.inl rfl))) g.tu λds xs⟨e1,e2,q⟩=>⟨e1,e2,λi d q' h1 h2=>(q i d q' h1 h2).imp (λxs=>k _ _ ((h q').mpr (.inr (uD h2)))) (λu _ z=>z.tt λo=>k _ o ((h q').mpr (.inr (uD h2)))) g.tu λ_ _ q=>Rps.go g _ _ q⟩⟩
def zk.sd(h:zk b B π H σ ρ ow)(g:SD b (Ow B ow) H H'):zk b B π H' σ ρ ow where
 len:=h.len
 tbs:=g.lt h.tbs
 bd:=λa m=>let⟨o,e,n⟩:=h.bd a m;⟨o,g.ow a o e (.inl m),n⟩
 frz:=λi d e=>let⟨v,e1,r⟩:=h.frz i d e;⟨v,e1,Rp.go g.gd _ _ r⟩
 own:=λi io n d e=>let⟨v,e1,e2,r⟩:=h.own i io n d e;⟨v,e1,e2,r.go g.gd λa o s z=>g.ow a o z (.inr ⟨i,s⟩)⟩
 red:=λi d e=>let⟨v,e1,r,n⟩:=h.red i d e;⟨v,e1,r.sd g,n⟩
 inj:=h.inj
 ex:=λi a e=>let⟨⟨o,z,n⟩,nb⟩:=h.ex i a e;⟨⟨o,g.ow a o z (.inr ⟨i,e⟩),n⟩,nb⟩
def Stp.of(g:SD b (Ow B ow) H H'):Stp B ow H ow H':=⟨g.tu,λa o h n=>⟨⟨λm=>g.ow a o h (.inl m),g.nw h⟩,n⟩⟩
def Stp.refl:Stp B ow H ow H:=⟨λ_ _ h=>h,λa o h n=>⟨⟨λ_=>h,.inl h⟩,n⟩⟩
def Stp.trans(g:Stp B ow H ow' H')(k:Stp B ow' H' ow2 H2):Stp B ow H ow2 H2:=⟨λa xs h=>k.tu a xs (g.tu a xs h),λa o h n=>by
 obtain⟨⟨z1,z2⟩,n'⟩:=g.st a o h n;obtain⟨u,hu⟩:=z2.has;exact⟨⟨λm=>((k.st a o (z1 m) n').1.1 m),z2.trans λo' h'=>(k.st a o' h' n').1.2⟩,(k.st a u hu n').2⟩⟩
def Stp.gd(g:Stp B ow H ow' H'):Gd (Ow B ow) H (Ow B ow') H':=⟨g.tu,λa o h n=>by
 obtain⟨z,n'⟩:=g.st a o h λe=>n (.inr e);exact⟨z.2,λq=>q.elim (λb=>n (.inl b)) n'⟩⟩
def zk.has(E:zk b B π H σ ρ ow):∀a,Ow B ow a->∃o,H a=some o/\Okc a o:=λa h=>by
 rcases h with h|⟨i,h⟩
 ·exact E.bd a h
 ·exact(E.ex i a h).1
def zk.apart(E:zk b B π H σ ρ ow)(n:H p=none):¬Ow B ow p:=λh=>by
 obtain⟨o,e,_⟩:=E.has p h;rw[n] at e;cases e
end
def RpM:Bool->Bx->(Addr->Prop)->Hp->Dt->V->Prop
 |true=>RpT
 |false=>Rp
def dM(b:Bx)(m:Bool)(f:En->Option Dt):TE:=λσ H Q=>∃B π ow ρ d,zk b B π H σ ρ ow/\f ρ=some d/\∀v H',SD b (Ow B ow) H H'->RpM m b (Ow B ow) H' d v->Q v H'
def dF(b:Bx)(f:En->Option Dt):TE:=λσ H Q=>∃B π ow ρ d,zk b B π H σ ρ ow/\f ρ=some d/\∀p H',SD b (Ow B ow) H H'->H p=none->Top b true H' (Rps b (λa=>Ow B ow a∨a=p) H') d p->Q (.ref p) H'
def dA(b:Bx)(f:En->Option (List Dt)):TA:=λσ H Q=>∃B π ow ρ ds,zk b B π H σ ρ ow/\f ρ=some ds/\∀vs H',SD b (Ow B ow) H H'->Rps b (Ow B ow) H' ds vs->Q vs H'
def dT(b:Bx)(f:En->Option Bool):TT:=λσ H Q=>∃B π ow ρ c,zk b B π H σ ρ ow/\f ρ=some c/\∀H',SD b (Ow B ow) H H'->Q c H'
inductive Ou where
 |nx (ρ:En)|rt (d:Dt) (ρ:En)|bk (ρ:En)|ct (ρ:En)|ex
def Fin(b:Bx)(B:Addr->Prop)(π:Nat->Addr)(ow:Os)(H:Hp)(D:Ends):Ou->Prop
 |.nx ρ'=>∀σ' H' ow',Stp B ow H ow' H'->zk b B π H' σ' ρ' ow'->D.nx σ' H'
 |.rt d ρ'=>∀v σ' H' ow',Stp B ow H ow' H'->zk b B π H' σ' ρ' ow'->Rp b (Ow B ow') H' d v->D.rt v H'
 |.bk ρ'=>∀σ' H' ow',Stp B ow H ow' H'->zk b B π H' σ' ρ' ow'->D.bk σ' H'
 |.ct ρ'=>∀σ' H' ow',Stp B ow H ow' H'->zk b B π H' σ' ρ' ow'->D.ct σ' H'
 |.ex=>∀σ' H' ow' ρ',Stp B ow H ow' H'->zk b B π H' σ' ρ' ow'->b.gx H'
def dS(b:Bx)(f:En->Option Ou):TS:=λD σ H=>∃B π ow ρ o,zk b B π H σ ρ ow/\f ρ=some o/\Fin b B π ow H D o
theorem Fin.step{b:Bx}{B:Addr->Prop}{π:Nat->Addr}{ow ow1:Os}{H H1:Hp}{D:Ends}(g:Stp B ow H ow1 H1):∀{o:Ou},Fin b B π ow H D o->Fin b B π ow1 H1 D o
 |.nx _,h=>λσ' H' ow' k e=>h σ' H' ow' (g.trans k) e
 |.rt _ _,h=>λv σ' H' ow' k e=>h v σ' H' ow' (g.trans k) e
 |.bk _,h=>λσ' H' ow' k e=>h σ' H' ow' (g.trans k) e
 |.ct _,h=>λσ' H' ow' k e=>h σ' H' ow' (g.trans k) e
 |.ex,h=>λσ' H' ow' ρ' k e=>h σ' H' ow' ρ' (g.trans k) e
section
variable{X:Cx}{e:Expr}{es:List Expr}{st:Stmt}{sts:List Stmt}
def PE.imp{t t':TE}(h:PE X e t)(i:∀σ H Q,t' σ H Q->t σ H Q):PE X e t':=λpins s σ H Q I q=>h pins s σ H Q I (i _ _ _ q)
variable{t':TT}
def PT.imp{t:TT}(h:PT X e t)(i:∀σ H Q,t' σ H Q->t σ H Q):PT X e t':=λpins s σ H Q I q=>h pins s σ H Q I (i _ _ _ q)
def PW.imp{t:TT}(h:PW X e t)(i:∀σ H Q,t' σ H Q->t σ H Q):PW X e t':=λw pins s σ H Q I q=>h w pins s σ H Q I (i _ _ _ q)
def PA.imp{t t':TA}(h:PA X es t)(i:∀σ H Q,t' σ H Q->t σ H Q):PA X es t':=λpos pins s σ H Q I q=>h pos pins s σ H Q I (i _ _ _ q)
variable{t':TS}
def PS.imp{t:TS}(h:PS X st t)(i:∀D σ H,t' D σ H->t D σ H):PS X st t':=λpins s σ H D I q=>h pins s σ H D I (i _ _ _ q)
def PSs.imp{t:TS}(h:PSs X sts t)(i:∀D σ H,t' D σ H->t D σ H):PSs X sts t':=λpins s σ H D I q=>h pins s σ H D I (i _ _ _ q)
end
section
variable{b:Bx}{O:Addr->Prop}{σ:St}{H H':Hp}{Q:VK}{f:En->Option Dt}{d:Dt}{v:V}{p:Addr}
def Gd.new(n:H p=none)(g:SD b O H H'):Gd O H (λa=>O a∨a=p) H':=⟨g.tu,λa o h no=>⟨g.st a o h no,λz=>z.elim no λe=>by rw[e,n] at h;cases h⟩⟩
def Gd.upd(n:H p=none)(o:HO):Gd O H O (L2.upd H p o):=⟨λa xs h=>j5 n o a _ h,λa u h no=>⟨.inl (j5 n o a _ h),no⟩⟩
def Gd.newU(n:H p=none)(o:HO):Gd O H (λa=>O a∨a=p) (L2.upd H p o):=⟨λa xs h=>j5 n o a _ h,λa u h no=>⟨.inl (j5 n o a _ h),λz=>z.elim no λe=>by rw[e,n] at h;cases h⟩⟩
def Gd.less{p:Addr}:Gd (λa=>O a∨a=p) H O H:=⟨λ_ _ h=>h,λa o h n=>⟨.inl h,λz=>n (.inl z)⟩⟩
theorem RpM.of(r:Rp b O H d v):∀{m:Bool},RpM m b O H d v
 |true=>RpT.of r
 |false=>r
theorem RpM.t:∀{m:Bool},RpM m b O H d v->RpT b O H d v
 |true,r=>r
 |false,r=>RpT.of r
def dF_M{m:Bool}(h:dM b m f σ H Q):dF b f σ H Q:=by
 obtain⟨B,π,ow,ρ,d,E,e,q⟩:=h;refine⟨B,π,ow,ρ,d,E,e,λp H' g n r=>q _ H' g (.of ?_)⟩;exact Rp.top (r.less.imp (λ_ z=>z) (λ_ _ z=>z) (λ_ _ z=>z) λ_ _ z=>Rps.go .less _ _ z) (E.apart n)
end
section
variable{bx:Bx}{O:Addr->Prop}{H:Hp}
theorem Rps.len:∀{ds:List Dt}{xs:List V},Rps bx O H ds xs->ds.length=xs.length
 |[],xs,h=>by rw[Rps] at h;rw[h];rfl
 |d::ds,xs,h=>by rw[Rps] at h;obtain⟨x,r,rfl,_,q⟩:=h;rw[pH,pH,q.len]
theorem Rps.get:∀{ds:List Dt}{xs:List V}{i:Nat}{d:Dt},Rps bx O H ds xs->ds[i]?=some d->∃x,xs[i]?=some x/\Rp bx O H d x
 |[],xs,i,d,h,e=>by simp at e
 |d'::ds,xs,0,d,h,e=>by
  rw[Rps] at h;obtain⟨x,r,rfl,q,_⟩:=h
  simp at e;subst e;exact⟨x,rfl,q⟩
 |d'::ds,xs,i+1,d,h,e=>by
  rw[Rps] at h;obtain⟨x,r,rfl,_,q⟩:=h;obtain⟨y,e1,e2⟩:=q.get (i:=i) (d:=d) (by simpa using e)
  exact⟨y,by simpa using e1,e2⟩
theorem Rps.at{ds:List Dt}{xs:List V}{i:Int}{d:Dt}(h:Rps bx O H ds xs)(e:atI ds i=some d):∃x,atI xs i=some x/\Rp bx O H d x:=by
 unfold atI at e⊢;rw[←h.len]
 cases q:ixN ds.length i with
 |none=>rw[q] at e;cases e
 |some j=>rw[q] at e;exact h.get e
def Rps.nil:Rps bx O H [] []:=by rw[Rps]
def Rps.cons{d:Dt}{x:V}{ds:List Dt}{xs:List V}(h:Rp bx O H d x)(q:Rps bx O H ds xs):Rps bx O H (d::ds) (x::xs):=by rw[Rps];exact⟨x,xs,rfl,h,q⟩
theorem Rps.app:∀{ds es:List Dt}{xs ys:List V},Rps bx O H ds xs->Rps bx O H es ys->Rps bx O H (ds++es) (xs++ys)
 |[],es,xs,ys,h,q=>by rw[Rps] at h;subst h;exact q
 |d::ds,es,xs,ys,h,q=>by rw[Rps] at h;obtain⟨x,r,rfl,h1,h2⟩:=h;exact .cons h1 (h2.app q)
theorem Rps.take:∀{ds:List Dt}{xs:List V}(n:Nat),Rps bx O H ds xs->Rps bx O H (ds.take n) (xs.take n)
 |_,_,0,_=>by rw[Ay,Ay];exact .nil
 |[],xs,n+1,h=>by rw[Rps] at h;subst h;exact .nil
 |d::ds,xs,n+1,h=>by rw[Rps] at h;obtain⟨x,r,rfl,h1,h2⟩:=h;exact .cons h1 (h2.take n)
theorem Rps.drop:∀{ds:List Dt}{xs:List V}(n:Nat),Rps bx O H ds xs->Rps bx O H (ds.drop n) (xs.drop n)
 |_,_,0,h=>h
 |[],xs,n+1,h=>by rw[Rps] at h;subst h;exact .nil
 |d::ds,xs,n+1,h=>by rw[Rps] at h;obtain⟨x,r,rfl,h1,h2⟩:=h;exact h2.drop n
def RpT.lst{ds:List Dt}{v:V}(h:RpT bx O H (.list ds) v):∃p xs,v=.ref p/\H p=some (.lst xs)/\xs.length<=sizeLine/\Rps bx O H ds xs:=let⟨p,e,xs,r⟩:=h.top rfl;⟨p,xs,e,r⟩
def RpT.tup{ds:List Dt}{v:V}(h:RpT bx O H (.tuple ds) v):∃p xs,v=.ref p/\¬O p/\H p=some (.tup xs)/\xs.length<=sizeLine/\Rps bx O H ds xs:=by have h:=h.rp rfl;rw[Rp] at h;exact h
def RpT.int{i:Int}{v:V}(h:RpT bx O H (.int i) v):v=.int i:=by have h:=h.rp rfl;rw[Rp] at h;exact h
def RpT.bl{b:Bool}{v:V}(h:RpT bx O H (.bool b) v):v=.bl b:=by have h:=h.rp rfl;rw[Rp] at h;exact h
def RpT.str{x:Str}{v:V}(h:RpT bx O H (.str x) v):v=.str x:=by have h:=h.rp rfl;rw[Rp] at h;exact h
def Rp.int{i:Int}:Rp bx O H (.int i) (.int i):=by rw[Rp]
def Rp.bl{b:Bool}:Rp bx O H (.bool b) (.bl b):=by rw[Rp]
def Rp.str{x:Str}:Rp bx O H (.str x) (.str x):=by rw[Rp]
def Rp.non:Rp bx O H .none .non:=by rw[Rp]
mutual
def toP:Dt->Option Ao
 |.none=>some .none
 |.bool c=>some (.bool c)
 |.int i=>some (.int i)
 |.str x=>some (.str x)
 |.list ds=>(xx ds).bind λps=>some (.list ps)
 |.tuple ds=>(xx ds).bind λps=>some (.tuple ps)
 |.scr _=>none
 |.dK _ _=>none
 |.dT _ _=>none
 |.dN _ _=>none
 |.ins _ _=>none
def xx:List Dt->Option (List Ao)
 |[]=>some []
 |d::ds=>(toP d).bind λp=>(xx ds).bind λps=>some (p::ps)
end
mutual
theorem Rp.rdD{K:kF}:∀(d:Dt)(v:V)(y:Ao),toP d=some y->Rp bx O H d v->RdD K H y v
 |.none,v,y,e,h=>by rw[toP] at e;cases e;rw[Rp] at h;rw[RdD];exact h
 |.bool b,v,y,e,h=>by rw[toP] at e;cases e;rw[Rp] at h;rw[RdD];exact h
 |.int i,v,y,e,h=>by rw[toP] at e;cases e;rw[Rp] at h;rw[RdD];exact h
 |.str x,v,y,e,h=>by rw[toP] at e;cases e;rw[Rp] at h;rw[RdD];exact h
 |.list ds,v,y,e,h=>by
  rw[toP] at e;obtain⟨ps,q,e⟩:=kA.mp e;cases e;rw[Rp] at h;obtain⟨p,xs,e,_,r,_,q'⟩:=h;rw[RdD];exact⟨p,xs,e,.of r,Rps.rdD ds xs ps q q'⟩
 |.tuple ds,v,y,e,h=>by
  rw[toP] at e;obtain⟨ps,q,e⟩:=kA.mp e;cases e;rw[Rp] at h;obtain⟨p,xs,e,_,r,_,q'⟩:=h;rw[RdD];exact⟨p,xs,e,.of r,Rps.rdD ds xs ps q q'⟩
 |.scr _,v,y,e,h=>by rw[toP] at e;cases e
 |.dK _ _,v,y,e,h=>by rw[toP] at e;cases e
 |.dT _ _,v,y,e,h=>by rw[toP] at e;cases e
 |.dN _ _,v,y,e,h=>by rw[toP] at e;cases e
 |.ins _ _,v,y,e,h=>by rw[toP] at e;cases e
theorem Rps.rdD{K:kF}:∀(ds:List Dt)(xs:List V)(ps:List Ao),xx ds=some ps->Rps bx O H ds xs->wt K H ps xs
 |[],xs,ps,e,h=>by rw[xx] at e;cases e;rw[Rps] at h;rw[wt];exact h
 |d::ds,xs,ps,e,h=>by
  rw[xx] at e;obtain⟨p,q1,e⟩:=kA.mp e;obtain⟨ps',q2,e⟩:=kA.mp e;cases e;rw[Rps] at h;obtain⟨x,r,rfl,h1,h2⟩:=h;rw[wt];exact⟨x,r,rfl,Rp.rdD _ _ _ q1 h1,Rps.rdD _ _ _ q2 h2⟩
end
theorem RpT.rdD{K:kF}{d:Dt}{v:V}{y:Ao}(e:toP d=some y)(h:RpT bx O H d v):RdD K H y v:=by
 rcases h with h|⟨p,rfl,h⟩
 ·exact Rp.rdD _ _ _ e h
 ·cases d with
  |list ds=>
   rw[toP] at e;obtain⟨ps,q,e⟩:=kA.mp e;cases e;obtain⟨xs,r,_,q'⟩:=h;rw[RdD];exact⟨p,xs,rfl,.of r,Rps.rdD _ _ _ q q'⟩
  |dK _ _=>rw[toP] at e;cases e
  |dT _ _=>rw[toP] at e;cases e
  |dN _ _=>rw[toP] at e;cases e
  |scr _=>rw[toP] at e;cases e
  |_=>exact h.elim
end
def sF:Sl->Option Dt
 |.fz d=>some d
 |_=>none
def sR:Sl->Option Dt
 |.fz d=>some d
 |.ow _ 1 d=>some d
 |.rd d=>some d
 |_=>none
def At.rd{H:Hp}{p:Addr}(h:At false H p u):Rd H p u:=h.elim .inl λz=>.inr z.2
def dV(i:Nat):En->Option Dt:=λρ=>(ρ[i]?).bind sF
def dVr(i:Nat):En->Option Dt:=λρ=>(ρ[i]?).bind sR
def dC(d:Dt):En->Option Dt:=λ_=>some d
def d1(k:Dt->Option Dt)(f:En->Option Dt):En->Option Dt:=λρ=>(f ρ).bind k
def d2(k:Dt->Dt->Option Dt)(f g:En->Option Dt):En->Option Dt:=λρ=>(f ρ).bind λa=>(g ρ).bind (k a)
def zb:En->Option (List Dt):=λ_=>some []
def za(f:En->Option Dt)(g:En->Option (List Dt)):En->Option (List Dt):=λρ=>(f ρ).bind λa=>(g ρ).bind λas=>some (a::as)
def zx(g:En->Option (List Dt)):En->Option Dt:=λρ=>(g ρ).bind λas=>if as.length<=sizeLine then some (.tuple as) else none
def zC(g:En->Option (List Dt)):En->Option Dt:=λρ=>(g ρ).bind λas=>if as.length<=sizeLine then some (.list as) else none
def dCl(F:List Dt->Option Dt)(g:En->Option (List Dt)):En->Option Dt:=λρ=>(g ρ).bind F
def asB:Dt->Option Bool
 |.bool b=>some b
 |_=>none
def dB(f:En->Option Dt):En->Option Bool:=λρ=>(f ρ).bind asB
def bAnd(c d:En->Option Bool):En->Option Bool:=λρ=>(c ρ).bind λb=>if b=true then d ρ else some false
def bOr(c d:En->Option Bool):En->Option Bool:=λρ=>(c ρ).bind λb=>if b=true then some true else d ρ
def xc(c:En->Option Bool):En->Option Bool:=λρ=>(c ρ).bind λb=>some (!b)
def dIf(c:En->Option Bool)(f g:En->Option Dt):En->Option Dt:=λρ=>(c ρ).bind λb=>if b=true then f ρ else g ρ
variable{Q:VK}{r:R2}
section
variable{X:Cx}{bx:Bx}{m:Bool}{a b e:Expr}{es:List Expr}{f g:En->Option Dt}{pos:Pos}
theorem dv(i:Nat){x:Str}(hN:X.N[i]?=some x:=by rfl)(hv:Vis X.env.scope x:=by first|exact QZ rfl|exact uU (QZ rfl)|exact uU (uU rfl))(hd:(x==("__debug__":Str))=false:=by decide)
  (hcd:(x==("__classdict__":Str))=false:=by decide):PE X (.Name x pos) (dM bx m (dV i)):=(yX hN hv hd hcd).imp λσ H Q⟨B,π,ow,ρ,d,E,q,k⟩=>by
 unfold dV at q
 cases z:ρ[i]? with
 |none=>rw[z] at q;cases q
 |some s=>
  rw[z] at q
  cases s with
  |fz d'=>cases q;obtain⟨v,e,r⟩:=E.frz i _ z;exact⟨v,e,k v H (.refl _ _) (.of r)⟩
  |_=>cases q
theorem dvr(i:Nat){x:Str}(hN:X.N[i]?=some x:=by rfl)(hv:Vis X.env.scope x:=by first|exact QZ rfl|exact uU (QZ rfl)|exact uU (uU rfl))(hd:(x==("__debug__":Str))=false:=by decide)
  (hcd:(x==("__classdict__":Str))=false:=by decide):PE X (.Name x pos) (dM bx true (dVr i)):=(yX hN hv hd hcd).imp λσ H Q⟨B,π,ow,ρ,d,E,q,k⟩=>by
 unfold dVr at q
 cases z:ρ[i]? with
 |none=>rw[z] at q;cases q
 |some s=>
  rw[z] at q
  cases s with
  |fz d'=>cases q;obtain⟨v,e,r⟩:=E.frz i _ z;exact⟨v,e,k v H (.refl _ _) (.of r)⟩
  |ow io n d'=>
   cases n with
   |zero=>cases q
   |succ n=>
    cases n with
    |zero=>cases q;obtain⟨p,e,_,r⟩:=E.own i _ _ _ z;exact⟨_,e,k _ H (.refl _ _) (.inr ⟨p,rfl,r.2.less⟩)⟩
    |succ _=>cases q
  |rd d'=>cases q;obtain⟨v,e,r,_⟩:=E.red i _ z;exact⟨v,e,k v H (.refl _ _) r⟩
  |un=>cases q
def zd{i j}:PE X (.Constant (.int i) j pos) (dM bx m (dC (.int i))):=wZ.imp λσ H Q⟨B,π,ow,ρ,d,E,q,k⟩=>by cases q;exact k _ H (.refl _ _) (.of .int)
def qV{b j}:PE X (.Constant (.bool b) j pos) (dM bx m (dC (.bool b))):=pe_bl.imp λσ H Q⟨B,π,ow,ρ,d,E,q,k⟩=>by cases q;exact k _ H (.refl _ _) (.of .bl)
def vY{j}:PE X (.Constant .none j pos) (dM bx m (dC .none)):=pe_non.imp λσ H Q⟨B,π,ow,ρ,d,E,q,k⟩=>by cases q;exact k _ H (.refl _ _) (.of .non)
def xz{x j}:PE X (.Constant (.str x) j pos) (dM bx m (dC (.str x))):=pe_str.imp λσ H Q⟨B,π,ow,ρ,d,E,q,k⟩=>by cases q;exact k _ H (.refl _ _) (.of .str)
def fe(h:PE X e (dF bx f)):PE X e (dM bx m f):=h.imp λ_ _ _=>dF_M
def Z2(r:R2)(k:Dt->Dt->Option Dt):Prop:=∀(bx:Bx)(O:Addr->Prop)(H:Hp)(a b d:Dt)(v w:V)(Q:VK),k a b=some d->RpT bx O H a v->RpT bx O H b w->(∀u H',SD bx O H H'->Rp bx O H' d u->Q u H')->r v w H Q
def Z1(r:V->Hp->VK->Prop)(k:Dt->Option Dt):Prop:=∀(bx:Bx)(O:Addr->Prop)(H:Hp)(a d:Dt)(v:V)(Q:VK),k a=some d->RpT bx O H a v->(∀u H',SD bx O H H'->Rp bx O H' d u->Q u H')->r v H Q
variable{k:Dt->Dt->Option Dt}
def t2(hk:Z2 r k){σ:St}{H:Hp}(h:dM bx m (d2 k f g) σ H Q):tOp r (dM bx true f) (dM bx true g) σ H Q:=by
 obtain⟨B,π,ow,ρ,d,E,q,z⟩:=h;obtain⟨a,qa,q⟩:=kA.mp q;obtain⟨b,qb,q⟩:=kA.mp q;exact⟨B,π,ow,ρ,a,E,qa,λv H1 g1 r1=>⟨B,π,ow,ρ,b,E.sd g1,qb,λw H2 g2 r2=>hk _ _ _ _ _ _ _ _ _ q (RpT.sd g2 r1) r2 λu H3 g3 r3=>z u H3 (g1.trans (g2.trans g3)) (.of r3)⟩⟩
def o2{op:Operator}(ho:OpR X (Uv op) r)(hk:Z2 r k)(ha:PE X a (dM bx true f))(hb:PE X b (dM bx true g)):PE X (.BinOp a op b pos) (dM bx m (d2 k f g)):=(wv ho ha hb).imp λ_ _ _ h=>t2 hk h
def c2{op:CmpOp}(ho:OpR X (ug op) r)(hk:Z2 r k)(ha:PE X a (dM bx true f))(hb:PE X b (dM bx true g))(hm:um op b=false):PE X (.Compare a [op] [b] pos) (dM bx m (d2 k f g)):=(pe_cmpR ho ha hb hm).imp λ_ _ _ h=>t2 hk h
theorem ct2{op:CmpOp}(ho:OpR X (ug op) r)(hk:Z2 r k)(ha:PE X a (dM bx true f))(hb:PE X b (dM bx true g))(hm:um op b=false):PT X (.Compare a [op] [b] pos) (dT bx (dB (d2 k f g))):=(XG ho ha hb hm).imp λσ H Q⟨B,π,ow,ρ,d,E,q,z⟩=>by
 obtain⟨x,q1,q2⟩:=kA.mp q;refine t2 (m:=true) hk ⟨B,π,ow,ρ,x,E,q1,λv H1 g1 r1=>?_⟩
 cases x with
 |bool y=>cases q2;exact⟨_,(RpM.t r1).bl,z H1 g1⟩
 |_=>cases q2
def u1{op:UnaryOp}{r:V->Hp->VK->Prop}{k:Dt->Option Dt}(ho:UnR X (unaryOp op) r)(hk:Z1 r k)(ha:PE X a (dM bx true f)):PE X (.UnaryOp op a pos) (dM bx m (d1 k f)):=(pe_un ho ha).imp λσ H Q⟨B,π,ow,ρ,d,E,q,z⟩=>by
 obtain⟨x,q1,q2⟩:=kA.mp q;exact⟨B,π,ow,ρ,x,E,q1,λv H1 g1 r1=>hk _ _ _ _ _ _ _ q2 r1 λu H3 g3 r3=>z u H3 (g1.trans g3) (.of r3)⟩
def i2(h:IxR X r)(hk:Z2 r k)(ha:PE X a (dM bx true f))(hb:PE X b (dM bx true g))(hp:jh b:=by exact λ_ _=>rfl):PE X (.Subscript a b pos) (dM bx m (d2 k f g)):=(Wr h ha hb hp).imp λ_ _ _ h=>t2 hk h
end
instance{i j:Int}:Decidable (jG i j):=inferInstanceAs (Decidable (_/\_))
instance{i j:Int}:Decidable (qX i j):=inferInstanceAs (Decidable (_/\_))
def kI(C:Int->Int->Prop)[∀i j,Decidable (C i j)](g:Int->Int->Int):Dt->Dt->Option Dt
 |.int i,.int j=>if C i j then some (.int (g i j)) else none
 |_,_=>none
def kI0(g:Int->Int->Int):Dt->Dt->Option Dt
 |.int i,.int j=>some (.int (g i j))
 |_,_=>none
def kP(p:Int->Int->Bool):Dt->Dt->Option Dt
 |.int i,.int j=>some (.bool (p i j))
 |_,_=>none
def kU(g:Int->Int):Dt->Option Dt
 |.int i=>some (.int (g i))
 |_=>none
theorem Z2.rI{C:Int->Int->Prop}[∀i j,Decidable (C i j)]{g:Int->Int->Int}:Z2 (rI C λi j=>.int (g i j)) (kI C g):=λbx O H a b d v w Q q ra rb z=>by
 unfold kI at q
 split at q
 ·split at q
  ·cases q;rw[ra.int,rb.int];exact⟨_,_,rfl,rfl,‹_›,z _ H (.refl _ _) .int⟩
  ·cases q
 ·cases q
theorem Z2.rI0{g:Int->Int->Int}:Z2 (rI0 λi j=>.int (g i j)) (kI0 g):=λbx O H a b d v w Q q ra rb z=>by
 unfold kI0 at q
 split at q
 ·cases q;rw[ra.int,rb.int];exact⟨_,_,rfl,rfl,z _ H (.refl _ _) .int⟩
 ·cases q
def Z2.rP{p:Int->Int->Bool}:Z2 (L2.rI0 λi j=>.bl (p i j)) (kP p):=λbx O H a b d v w Q q ra rb z=>by
 unfold kP at q
 split at q
 ·cases q;rw[ra.int,rb.int];exact⟨_,_,rfl,rfl,z _ H (.refl _ _) .bl⟩
 ·cases q
theorem Z1.rU{g:Int->Int}:Z1 (rU λi=>.int (g i)) (kU g):=λbx O H a d v Q q ra z=>by
 unfold kU at q
 split at q
 ·cases q;rw[ra.int];exact⟨_,rfl,z _ H (.refl _ _) .int⟩
 ·cases q
def yD:=kI0 (·+·)
def x6:=kI0 (·-·)
def zU:=kI jG (·*·)
def zS:=kI qX Int.fdiv
def zK:=kI (λ_ j=>j≠0) Int.fmod
def jc:=kU λi=> -i
def kLt:=kP λi j=>decide (i<j)
def kLe:=kP λi j=>decide (i<=j)
def kGt:=kP λi j=>decide (j<i)
def kGe:=kP λi j=>decide (j<=i)
def yn:Dt->Dt->Option Dt:=kP λi j=>decide (i=j)
def j6:Dt->Dt->Option Dt:=kP λi j=> !decide (i=j)
def kEq(a b:Dt):Option Dt:=(toP a).bind λx=>(toP b).bind λy=>if ut x=true/\ut y=true then some (.bool (QE x y)) else none
def kNe(a b:Dt):Option Dt:=(toP a).bind λx=>(toP b).bind λy=>if ut x=true/\ut y=true then some (.bool (!PyData.eqv x y)) else none
theorem Z2.eqI:Z2 rEq yn:=λbx O H a b d v w Q q ra rb z=>by
 unfold yn kP at q
 split at q
 ·cases q;rw[ra.int,rb.int];refine⟨rfl,?_⟩
  rename_i i j
  rw[show decide (V.int i=V.int j)=decide (i=j) by simp]
  exact z _ H (.refl _ _) .bl
 ·cases q
theorem Z2.neI:Z2 rNe j6:=λbx O H a b d v w Q q ra rb z=>by
 unfold j6 kP at q
 split at q
 ·cases q;rw[ra.int,rb.int];refine⟨rfl,?_⟩
  rename_i i j
  rw[show decide (V.int i=V.int j)=decide (i=j) by simp]
  exact z _ H (.refl _ _) .bl
 ·cases q
variable{K:kF}
def Z2.eq:Z2 (rEqD K) kEq:=λbx O H a b d v w Q q ra rb z=>by
 obtain⟨x,e1,q⟩:=kA.mp q;obtain⟨y,e2,q⟩:=kA.mp q
 by_cases c:ut x=true/\ut y=true
 ·rw[if_pos c] at q;cases q;exact⟨x,y,ra.rdD e1,rb.rdD e2,c.1,c.2,z _ H (.refl _ _) .bl⟩
 ·rw[if_neg c] at q;cases q
def Z2.ne:Z2 (rNeD K) kNe:=λbx O H a b d v w Q q ra rb z=>by
 obtain⟨x,e1,q⟩:=kA.mp q;obtain⟨y,e2,q⟩:=kA.mp q
 by_cases c:ut x=true/\ut y=true
 ·rw[if_pos c] at q;cases q;exact⟨x,y,ra.rdD e1,rb.rdD e2,c.1,c.2,z _ H (.refl _ _) .bl⟩
 ·rw[if_neg c] at q;cases q
def kIsN:Dt->Dt->Option Dt
 |.none,.none=>some (.bool true)
 |_,.none=>some (.bool false)
 |_,_=>none
theorem Z2.isN:Z2 (λx y H Q=>y=.non/\Q (.bl (decide (x=.non))) H) kIsN:=λbx O H a b d v w Q q ra rb z=>by
 cases b with
 |none=>
  have rb:=rb.rp rfl;rw[Rp] at rb;refine⟨rb,?_⟩;have k:∀{c},d=.bool c->decide (v=.non)=c->Q (.bl (decide (v=.non))) H:=λe1 e2=>by subst e1;rw[e2];exact z _ H (.refl _ _) .bl
  cases a with
  |none=>cases q;have ra:=ra.rp rfl;rw[Rp] at ra;exact k rfl (by rw[ra];rfl)
  |bool _=>cases q;exact k rfl (by rw[ra.bl];rfl)
  |int _=>cases q;exact k rfl (by rw[ra.int];rfl)
  |str _=>cases q;exact k rfl (by rw[ra.str];rfl)
  |list _=>cases q;obtain⟨p,xs,e,_⟩:=ra.lst;exact k rfl (by rw[e];rfl)
  |tuple _=>cases q;obtain⟨p,xs,e,_⟩:=ra.tup;exact k rfl (by rw[e];rfl)
  |scr _=>cases q;have ra:=ra.rp rfl;rw[Rp] at ra;obtain⟨p,o,e,_⟩:=ra;exact k rfl (by rw[e];rfl)
  |dK _ _=>cases q;obtain⟨p,e,_⟩:=ra.top rfl;exact k rfl (by rw[e];rfl)
  |dT _ _=>cases q;obtain⟨p,e,_⟩:=ra.top rfl;exact k rfl (by rw[e];rfl)
  |dN _ _=>cases q;obtain⟨p,e,_⟩:=ra.top rfl;exact k rfl (by rw[e];rfl)
  |ins _ _=>cases q;have ra:=ra.rp rfl;rw[Rp] at ra;obtain⟨p,_,_,e,_⟩:=ra;exact k rfl (by rw[e];rfl)
 |_=>cases a<;>cases q
def kIx:Dt->Dt->Option Dt
 |.list ds,.int i=>atI ds i
 |.tuple ds,.int i=>atI ds i
 |.scr ns,.int i=>(atI ns i).bind λn=>some (.int n)
 |.str z,.int i=>if z.length<=sizeLine then(atI z.cps.toList i).bind λc=>some (.str ⟨#[c]⟩) else none
 |_,_=>none
theorem Z2.ix:Z2 (rIx K) kIx:=λbx O H a b d v w Q q ra rb z=>by
 cases b with
 |int i=>
  rw[rb.int]
  cases a with
  |list ds=>obtain⟨p,xs,rfl,r,_,rs⟩:=ra.lst;obtain⟨x,e,rx⟩:=rs.at q;exact .inl ⟨p,xs,i,x,rfl,rfl,.of r,e,z _ H (.refl _ _) rx⟩
  |scr ns=>
   have ra:=ra.rp rfl;rw[Rp] at ra;obtain⟨p,o,rfl,_,r,_⟩:=ra;obtain⟨n,e,q⟩:=kA.mp q
   cases q;refine .inl ⟨p,_,i,.int n,rfl,rfl,.inl (.inr ⟨o,r⟩),?_,z _ H (.refl _ _) .int⟩;unfold atI at e⊢;rw[kL]
   cases q:ixN ns.length i with
   |none=>rw[q] at e;cases e
   |some j=>rw[q] at e;show(ns.map V.int)[j]?=_;rw[kg];rw[show ns[j]?=some n from e];rfl
  |tuple ds=>obtain⟨p,xs,rfl,_,r,_,rs⟩:=ra.tup;obtain⟨x,e,rx⟩:=rs.at q;exact .inr (.inl ⟨p,xs,i,x,rfl,rfl,.of r,e,z _ H (.refl _ _) rx⟩)
  |str y=>
   have q:(if y.length<=sizeLine then(atI y.cps.toList i).bind λc=>some (Dt.str ⟨#[c]⟩) else none)=some d:=q
   by_cases h:y.length<=sizeLine
   ·rw[if_pos h] at q;obtain⟨c,e,q⟩:=kA.mp q
    cases q;exact .inr (.inr ⟨y,i,c,ra.str,rfl,h,e,z _ H (.refl _ _) .str⟩)
   ·rw[if_neg h] at q;cases q
  |_=>cases q
 |_=>cases a<;>cases q
section
variable{X:Cx}{bx:Bx}{m:Bool}{a b e:Expr}{es:List Expr}{f g:En->Option Dt}{pos:Pos}
def wD(ha:PE X a (dM bx true f))(hb:PE X b (dM bx true g)):PE X (.BinOp a .Add b pos) (dM bx m (d2 yD f g)):=o2 jv .rI0 ha hb
def x9(ha:PE X a (dM bx true f))(hb:PE X b (dM bx true g)):PE X (.BinOp a .Sub b pos) (dM bx m (d2 x6 f g)):=o2 op_sub .rI0 ha hb
def yh(ha:PE X a (dM bx true f))(hb:PE X b (dM bx true g)):PE X (.BinOp a .Mult b pos) (dM bx m (d2 zU f g)):=o2 op_mulB .rI ha hb
def xL(ha:PE X a (dM bx true f))(hb:PE X b (dM bx true g)):PE X (.BinOp a .FloorDiv b pos) (dM bx m (d2 zS f g)):=o2 za4 .rI ha hb
def we(ha:PE X a (dM bx true f))(hb:PE X b (dM bx true g)):PE X (.BinOp a .Mod b pos) (dM bx m (d2 zK f g)):=o2 op_modN .rI ha hb
def jp(ha:PE X a (dM bx true f)):PE X (.UnaryOp .USub a pos) (dM bx m (d1 jc f)):=u1 un_neg .rU ha
def Wa(ha:PE X a (dM bx true f))(hb:PE X b (dM bx true g)):PE X (.Compare a [.Lt] [b] pos) (dM bx m (d2 kLt f g)):=c2 qc .rP ha hb (nomark _)
def de_le(ha:PE X a (dM bx true f))(hb:PE X b (dM bx true g)):PE X (.Compare a [.LtE] [b] pos) (dM bx m (d2 kLe f g)):=c2 op_le .rP ha hb (nomark _)
def de_eqI(ha:PE X a (dM bx true f))(hb:PE X b (dM bx true g)):PE X (.Compare a [.Eq] [b] pos) (dM bx m (d2 yn f g)):=c2 op_eq .eqI ha hb (nomark _)
def de_eq(hu:X.A.units+64<cLine)(ha:PE X a (dM bx true f))(hb:PE X b (dM bx true g)):PE X (.Compare a [.Eq] [b] pos) (dM bx m (d2 kEq f g)):=c2 (JV hu) .eq ha hb (nomark _)
def vC(ha:PE X a (dM bx true f))(hb:PE X b (dM bx true g)):PT X (.Compare a [.Lt] [b] pos) (dT bx (dB (d2 kLt f g))):=ct2 qc .rP ha hb (nomark _)
def dt_le(ha:PE X a (dM bx true f))(hb:PE X b (dM bx true g)):PT X (.Compare a [.LtE] [b] pos) (dT bx (dB (d2 kLe f g))):=ct2 op_le .rP ha hb (nomark _)
def dt_gt(ha:PE X a (dM bx true f))(hb:PE X b (dM bx true g)):PT X (.Compare a [.Gt] [b] pos) (dT bx (dB (d2 kGt f g))):=ct2 op_gt .rP ha hb (nomark _)
def dt_ge(ha:PE X a (dM bx true f))(hb:PE X b (dM bx true g)):PT X (.Compare a [.GtE] [b] pos) (dT bx (dB (d2 kGe f g))):=ct2 op_ge .rP ha hb (nomark _)
def xI(ha:PE X a (dM bx true f))(hb:PE X b (dM bx true g)):PT X (.Compare a [.Eq] [b] pos) (dT bx (dB (d2 yn f g))):=ct2 op_eq .eqI ha hb (nomark _)
def ZF(ha:PE X a (dM bx true f))(hb:PE X b (dM bx true g)):PT X (.Compare a [.NotEq] [b] pos) (dT bx (dB (d2 j6 f g))):=ct2 op_ne .neI ha hb (nomark _)
def wG(hu:X.A.units+64<cLine)(ha:PE X a (dM bx true f))(hb:PE X b (dM bx true g)):PT X (.Compare a [.Eq] [b] pos) (dT bx (dB (d2 kEq f g))):=ct2 (JV hu) .eq ha hb (nomark _)
def dt_ne(hu:X.A.units+64<cLine)(ha:PE X a (dM bx true f))(hb:PE X b (dM bx true g)):PT X (.Compare a [.NotEq] [b] pos) (dT bx (dB (d2 kNe f g))):=ct2 (op_neD hu) .ne ha hb (nomark _)
def dt_isN(ha:PE X a (dM bx true f))(hb:PE X b (dM bx true g)):PT X (.Compare a [.Is] [b] pos) (dT bx (dB (d2 kIsN f g))):=ct2 op_isN .isN ha hb (nomark _)
def zh(ha:PE X a (dM bx true f))(hb:PE X b (dM bx true g))(hp:jh b:=by exact λ_ _=>rfl):PE X (.Subscript a b pos) (dM bx m (d2 kIx f g)):=i2 We .ix ha hb hp
def ze:PA X [] (dA bx zb):=Yd.imp λσ H Q⟨B,π,ow,ρ,d,E,q,z⟩=>by cases q;exact z _ H (.refl _ _) .nil
variable{ga:En->Option (List Dt)}
def zc(ha:PE X e (dM bx false f))(n:NS e)(hr:PA X es (dA bx ga)):PA X (e::es) (dA bx (za f ga)):=(vP ha hr (n _ _)).imp λσ H Q⟨B,π,ow,ρ,d,E,q,z⟩=>by
 obtain⟨a,qa,q⟩:=kA.mp q;obtain⟨as,qb,q⟩:=kA.mp q
 cases q;exact⟨B,π,ow,ρ,a,E,qa,λv H1 g1 r1=>⟨B,π,ow,ρ,as,E.sd g1,qb,λvs H2 g2 r2=>z _ H2 (g1.trans g2) (.cons (Rp.go g2.gd _ _ r1) r2)⟩⟩
def zL{x1}(h:PA X es (dA bx ga)):PE X (.Tuple es x1 pos) (dM bx m (zx ga)):=(pe_tup h).imp λσ H Q⟨B,π,ow,ρ,d,E,q,z⟩=>by
 obtain⟨as,qa,q⟩:=kA.mp q
 by_cases l:as.length<=sizeLine
 ·rw[if_pos l] at q
  cases q;refine⟨B,π,ow,ρ,as,E,qa,λvs H1 g1 r1=>⟨by rw[←r1.len];exact l,λp n=>z _ _ (g1.trans (.new n _)) (.of ?_)⟩⟩
  rw[Rp];exact⟨p,vs,rfl,(E.sd g1).apart n,zM,by rw[←r1.len];exact l,Rps.go (Gd.upd n _) _ _ r1⟩
 ·rw[if_neg l] at q;cases q
def zZ(h:PA X es (dA bx ga)):PE X (.List es pos) (dF bx (zC ga)):=(pe_lst h).imp λσ H Q⟨B,π,ow,ρ,d,E,q,z⟩=>by
 obtain⟨as,qa,q⟩:=kA.mp q
 by_cases l:as.length<=sizeLine
 ·rw[if_pos l] at q
  cases q;refine⟨B,π,ow,ρ,as,E,qa,λvs H1 g1 r1=>⟨by rw[←r1.len];exact l,λp n=>z p _ (g1.trans (.new n _)) (g1.free n) ?_⟩⟩
  exact⟨vs,zM,by rw[←r1.len];exact l,Rps.go (Gd.newU n _) _ _ r1⟩
 ·rw[if_neg l] at q;cases q
theorem xK{c:En->Option Dt}(h:PE X e (dM bx true c))(he:∀whole,isTrue e X.env whole=(do let v ←whole;Ec e.pos;holding [v] (truthy v)):=by intro _;rfl):PT X e (dT bx (dB c)):=(Xb h he).imp λσ H Q⟨B,π,ow,ρ,d,E,q,z⟩=>by
 obtain⟨x,q1,q2⟩:=kA.mp q;refine⟨B,π,ow,ρ,x,E,q1,λv H1 g1 r1=>?_⟩
 cases x with
 |bool y=>cases q2;exact⟨_,(RpM.t r1).bl,z H1 g1⟩
 |_=>cases q2
variable{c d:En->Option Bool}{rest:List Expr}
variable{σ:St}{H:Hp}
theorem tA{Q:Bool->Hp->Prop}(h:dT bx (bAnd c d) σ H Q):tAnd (dT bx c) (dT bx d) σ H Q:=by
 obtain⟨B,π,ow,ρ,b,E,q,z⟩:=h;obtain⟨x,q1,q2⟩:=kA.mp q;refine⟨B,π,ow,ρ,x,E,q1,λH1 g1=>?_⟩
 cases x with
 |true=>exact xX ⟨B,π,ow,ρ,b,E.sd g1,q2,λH2 g2=>z H2 (g1.trans g2)⟩
 |false=>cases q2;exact wy (z H1 g1)
theorem tO{Q:Bool->Hp->Prop}(h:dT bx (bOr c d) σ H Q):tOr (dT bx c) (dT bx d) σ H Q:=by
 obtain⟨B,π,ow,ρ,b,E,q,z⟩:=h;obtain⟨x,q1,q2⟩:=kA.mp q;refine⟨B,π,ow,ρ,x,E,q1,λH1 g1=>?_⟩
 cases x with
 |false=>exact wy ⟨B,π,ow,ρ,b,E.sd g1,q2,λH2 g2=>z H2 (g1.trans g2)⟩
 |true=>cases q2;exact xX (z H1 g1)
def Zl(ha:PT X a (dT bx c)):PW X (.BoolOp .And [a] pos) (dT bx c):=pw_and1 ha
def qM(ha:PT X a (dT bx c)):PW X (.BoolOp .Or [a] pos) (dT bx c):=pw_or1 ha
def Vh(ha:PT X a (dT bx c))(hb:PW X (.BoolOp .And (b::rest) pos) (dT bx d)):PW X (.BoolOp .And (a::b::rest) pos) (dT bx (bAnd c d)):=(pw_and ha hb).imp λ_ _ _ h=>tA h
def jm(ha:PT X a (dT bx c))(hb:PW X (.BoolOp .Or (b::rest) pos) (dT bx d)):PW X (.BoolOp .Or (a::b::rest) pos) (dT bx (bOr c d)):=(pw_or ha hb).imp λ_ _ _ h=>tO h
def wX(ha:PT X a (dT bx c)):PT X (.UnaryOp .Not a pos) (dT bx (xc c)):=(pt_not ha).imp λσ H Q⟨B,π,ow,ρ,b,E,q,z⟩=>by
 obtain⟨x,q1,q2⟩:=kA.mp q
 cases q2;exact⟨B,π,ow,ρ,x,E,q1,z⟩
def vX(f g:En->Option Dt):En->Option Dt:=λρ=>(dB f ρ).bind λb=>if b=true then g ρ else some (.bool false)
theorem tB'{k:Bool->En->Option Dt}(h:dM bx m (λρ=>(dB f ρ).bind λb=>k b ρ) σ H Q):dM bx true f σ H λx H1=>∃c,x=.bl c/\dM bx m (k c) σ H1 Q:=by
 obtain⟨B,π,ow,ρ,d,E,q,z⟩:=h;obtain⟨b,q1,q⟩:=kA.mp q;obtain⟨x,q1,q2⟩:=kA.mp q1;refine⟨B,π,ow,ρ,x,E,q1,λv H1 g1 r1=>?_⟩
 cases x with
 |bool y=>cases q2;exact⟨_,(RpM.t r1).bl,B,π,ow,ρ,d,E.sd g1,q,λu H2 g2 r2=>z u H2 (g1.trans g2) r2⟩
 |_=>cases q2
def k_bl{b:Bool}(h:dM bx m (λ_=>some (.bool b)) σ H Q):Q (.bl b) H:=by
 obtain⟨B,π,ow,ρ,d,E,q,z⟩:=h
 cases q;exact z _ H (.refl _ _) (.of .bl)
def Jd{op}(h:PE X a (dM bx m f)):PE X (.BoolOp op [a] pos) (dM bx m f):=Zp h
theorem Ju(ha:PE X a (dM bx true f))(hb:PE X (.BoolOp .And (b::rest) pos) (dM bx m g)):PE X (.BoolOp .And (a::b::rest) pos) (dM bx m (vX f g)):=(WU ha hb).imp λσ H Q h=>by
 obtain⟨B,π,ow,ρ,d,E,q,z⟩:=tB' (k:=λb ρ=>if b=true then g ρ else some (.bool false)) h;refine⟨B,π,ow,ρ,d,E,q,λv H1 g1 r1=>?_⟩;obtain⟨c,e,h⟩:=z v H1 g1 r1;refine⟨c,e,?_⟩
 cases c with
 |true=>exact xX h
 |false=>exact wy (k_bl h)
def kNot:Dt->Option Dt
 |.bool b=>some (.bool (!b))
 |_=>none
theorem WF(ha:PE X a (dM bx true f)):PE X (.UnaryOp .Not a pos) (dM bx m (d1 kNot f)):=(pe_not ha).imp λσ H Q⟨B,π,ow,ρ,d,E,q,z⟩=>by
 obtain⟨x,q1,q2⟩:=kA.mp q;refine⟨B,π,ow,ρ,x,E,q1,λv H1 g1 r1=>?_⟩
 cases x with
 |bool y=>cases q2;exact⟨_,(RpM.t r1).bl,z _ H1 g1 (.of .bl)⟩
 |_=>cases q2
theorem XR{t:Expr}(hc:PT X t (dT bx c))(ha:PE X a (dM bx m f))(hb:PE X b (dM bx m g)):PE X (.IfExp t a b pos) (dM bx m (dIf c f g)):=(zbl hc ha hb).imp λσ H Q⟨B,π,ow,ρ,d,E,q,z⟩=>by
 obtain⟨x,q1,q2⟩:=kA.mp q;refine⟨B,π,ow,ρ,x,E,q1,λH1 g1=>?_⟩
 cases x with
 |true=>exact xX ⟨B,π,ow,ρ,d,E.sd g1,q2,λv H2 g2 r=>z v H2 (g1.trans g2) r⟩
 |false=>exact wy ⟨B,π,ow,ρ,d,E.sd g1,q2,λv H2 g2 r=>z v H2 (g1.trans g2) r⟩
end
def spD(bx:Bx)(F:List Dt->Option Dt):Sp:=λvs H Q _=>∃(B:Addr->Prop)(ds:List Dt)(d:Dt),(∀a,B a->∃o,H a=some o/\Okc a o)/\bx.lt H/\Rps bx B H ds vs/\F ds=some d/\∀v H',SD bx B H H'->Rp bx B H' d v->Q v H'
variable{ps:List Str}{F:List Dt->Option Dt}
section
variable{X:Cx}{bx:Bx}{m:Bool}{e:Expr}{es:List Expr}{pos p:Pos}{ga:En->Option (List Dt)}
def sp_dA{σ:St}{H:Hp}{E:XK}(h:dM bx m (dCl F ga) σ H Q):dA bx ga σ H λvs H1=>spD bx F (vs++[]) H1 Q E:=by
 obtain⟨B,π,ow,ρ,d,E,q,z⟩:=h;obtain⟨ds,q1,q2⟩:=kA.mp q;exact⟨B,π,ow,ρ,ds,E,q1,λvs H1 g1 r1=>⟨Ow B ow,ds,d,(E.sd g1).has,(E.sd g1).tbs,by rw[uo];exact r1,q2,λv H2 g2 r2=>z v H2 (g1.trans g2) (.of r2)⟩⟩
def zu{k k':Nat}{f:Addr}{x:Str}{st:Stmt}(ok:zw X.prog X.w X.K X.mg X.base CX0 k f fd ps (spD bx F))(T:zG X.K X.mg x st ps f fd)(hr:zD k' X.A)(ha:PA X (e::es) (dA bx ga))(hk:k<=k':=by decide)(hg:Gl X x:=by rfl)(hdb:(x==("__debug__":Str))=false:=by decide)(he:kJ (e::es) X.env=(false,eval e X.env)::kJ es X.env:=by rfl)(hpl:(pX pos (kJ es X.env)).any (·.1)=false:=by rfl):
  PE X (.Call (.Name x p) (e::es) [] pos) (dM bx m (dCl F ga)):=(ZP ok T hr ha hk hg hdb he hpl).imp λ_ _ _ h=>sp_dA h
end
variable{n:Nat}{io:Bool}{d0:Dt}
section
variable{bx:Bx}{B S:Addr->Prop}{π:Nat->Addr}{H H':Hp}{σ:St}{ρ:En}{ow:Os}{i:Nat}{d:Dt}{v:V}{p:Addr}
def owP(ow:Os)(i:Nat)(S:Addr->Prop):Os:=λj a=>(j=i/\S a)∨(j≠i/\ow j a)
def noA:Addr->Prop:=λ_=>False
variable{j:Nat}
def JA{a:Addr}(h:owP ow i noA j a):j≠i/\ow j a:=h.elim (λz=>z.2.elim) id
def Jk(h:j≠i):owP ow i S j=ow j:=by
 funext a
 exact propext ⟨λz=>z.elim (λz=>absurd z.1 h) (·.2),λz=>.inr ⟨h,z⟩⟩
def Xl:owP ow i S i=S:=by
 funext a
 exact propext ⟨λz=>z.elim (·.2) λz=>absurd rfl z.1,λz=>.inl ⟨rfl,z⟩⟩
def Stp.drop:Stp B ow H (owP ow i noA) H:=⟨λ_ _ h=>h,λa o h n=>⟨⟨λ_=>h,.inl h⟩,λ⟨j,z⟩=>n ⟨j,(JA z).2⟩⟩⟩
def w5{α:Type}{l:List α}{i:Nat}{x y:α}(h:(l.set i x)[j]?=some y):(j=i/\y=x/\i<l.length)∨(j≠i/\l[j]?=some y):=by
 rw[Ut] at h
 by_cases e:i=j
 ·subst e;rw[if_pos rfl] at h
  by_cases l':i<l.length
  ·rw[if_pos l'] at h;cases h;exact .inl ⟨rfl,rfl,l'⟩
  ·rw[if_neg l'] at h;cases h
 ·rw[if_neg e] at h;exact .inr ⟨λz=>e z.symm,h⟩
def RpT.go{O O':Addr->Prop}(g:Gd O H O' H')(e:∀p o,v=.ref p->H p=some o->Nw p o (H' p))(h:RpT bx O H d v):RpT bx O' H' d v:=h.elim (λh=>.inl (Rp.go g _ _ h)) λ⟨p,e0,t⟩=>.inr ⟨p,e0,t.imp (λ_ z=>(e p _ e0 z).lst) (λu n z=>Nw.at n (λo q=>e p o e0 q) z) g.tu λ_ _ q=>Rps.go g _ _ q⟩
theorem zk.atG(E:zk bx B π H σ ρ ow)(i:Nat){S:Addr->Prop}{σ':St}{s:Sl}(len:σ'.length=σ.length)(sg:∀j,j≠i->σ'[j]?=σ[j]?)(new:∀a,S a->ow i a∨H a=none)(keep:∀a o,H a=some o->Ow B ow a->¬ow i a->H' a=some o)(nw:∀a o,H a=some o->¬ow i a->Nw a o (H' a))(tu:∀a xs,H a=some (.tup xs)->H' a=some (.tup xs))(lt:bx.lt H')(ex:∀a,S a->∃o,H' a=some o/\Okc a o)
  (hs:i<ρ.length->match s with
   |.un=>True
   |.fz d=>∃v,σ'[i]?=some (some v)/\Rp bx (Ow B (owP ow i S)) H' d v
   |.ow io n d=>∃p,σ'[i]?=some (some (.ref p))/\(io=true->p=π i)/\RpW bx (Ow B (owP ow i S)) H' S n d p
   |.rd _=>False):zk bx B π H' σ' (ρ.set i s) (owP ow i S)/\Stp B ow H (owP ow i S) H':=by
 have nS:∀{a o},H a=some o->¬Own ow a->¬Own (owP ow i S) a:=λ{a o} h n⟨j,z⟩=>by
  rcases z with⟨rfl,z⟩|⟨_,z⟩
  ·rcases new a z with z|z
   ·exact n ⟨_,z⟩
   ·rw[h] at z;cases z
  ·exact n ⟨j,z⟩
 have keep:∀{a o},H a=some o->(Ow B ow a)->¬ow i a->H' a=some o:=λ{a o}=>keep a o;have nw:∀{a o},H a=some o->¬ow i a->Nw a o (H' a):=λ{a o}=>nw a o;have step:Stp B ow H (owP ow i S) H':=⟨tu,λa o h n=>⟨⟨λm=>keep h (.inl m) λz=>n ⟨i,z⟩,nw h λz=>n ⟨i,z⟩⟩,nS h n⟩⟩;have g:=step.gd;refine⟨⟨by rw[Ui,E.len,len],λa h=>?_,λa m=>?_,λj d' h=>?_,λj io n d' h=>?_,λj d' h=>?_,λj k a h1 h2=>?_,λj a h=>?_⟩,step⟩
 ·exact lt a h
 ·obtain⟨o,z,n⟩:=E.bd a m;exact⟨o,keep z (.inl m) λq=>(E.ex i a q).2 m,n⟩
 ·rcases w5 h with⟨rfl,e,l⟩|⟨n,h⟩
  ·subst e;exact hs l
  ·obtain⟨u,e,q⟩:=E.frz j d' h;exact⟨u,by rw[sg j n];exact e,Rp.go g _ _ q⟩
 ·rcases w5 h with⟨rfl,e,l⟩|⟨nj,h⟩
  ·subst e;rw[Xl];exact hs l
  ·obtain⟨u,e,e2,q⟩:=E.own j io n d' h;rw[Jk nj];exact⟨u,by rw[sg j nj];exact e,e2,q.go g λa o s z=>keep z (.inr ⟨j,s⟩) λy=>nj (E.inj j i a s y)⟩
 ·rcases w5 h with⟨rfl,e,l⟩|⟨n,h⟩
  ·subst e;exact(hs l).elim
  ·obtain⟨u,e,q,nn⟩:=E.red j d' h;have no:∀{x p},(∃o,H p=some o)->u=.ref p->¬owP ow i S x p:=λ{x p} ho e z=>by
    rcases z with⟨_,z⟩|⟨_,z⟩
    ·rcases new p z with z|z
     ·exact nn p e ⟨i,z⟩
     ·obtain⟨o,ho⟩:=ho;rw[ho] at z;cases z
    ·exact nn p e ⟨_,z⟩
   refine⟨u,by rw[sg j n];exact e,q.go g λp o e0 y=>nw y λm=>nn p e0 ⟨i,m⟩,λp e⟨x,z⟩=>?_⟩
   rcases q with q|⟨p',e',q⟩
   ·cases d' with
    |none=>rw[Rp] at q;rw[q] at e;cases e
    |bool _=>rw[Rp] at q;rw[q] at e;cases e
    |int _=>rw[Rp] at q;rw[q] at e;cases e
    |str _=>rw[Rp] at q;rw[q] at e;cases e
    |tuple _=>rw[Rp] at q;obtain⟨p',xs,e',_,h',_⟩:=q;rw[e] at e';cases e';exact no ⟨_,h'⟩ e z
    |scr _=>rw[Rp] at q;obtain⟨p',o,e',_,h',_⟩:=q;rw[e] at e';cases e';exact no ⟨_,h'⟩ e z
    |ins _ _=>rw[Rp] at q;obtain⟨p',o,_,e',_,h',_⟩:=q;rw[e] at e';cases e';exact no ⟨_,h'⟩ e z
    |list _=>obtain⟨p',e',_,xs,h',_⟩:=q.of_top rfl;rw[e] at e';cases e';exact no ⟨_,h'⟩ e z
    |dK _ _=>obtain⟨p',e',_,xs,h',_⟩:=q.of_top rfl;rw[e] at e';cases e';exact no (h'.elim (λy=>⟨_,y⟩) λy=>let⟨_,y⟩:=y.2;⟨_,y⟩) e z
    |dT _ _=>obtain⟨p',e',_,xs,h',_⟩:=q.of_top rfl;rw[e] at e';cases e';exact no (h'.elim (λy=>⟨_,y⟩) λy=>let⟨_,y⟩:=y.2;⟨_,y⟩) e z
    |dN _ _=>obtain⟨p',e',_,bs,xs,h',_⟩:=q.of_top rfl;rw[e] at e';cases e';exact no (h'.elim (λy=>⟨_,y⟩) λy=>let⟨_,y⟩:=y.2;⟨_,y⟩) e z
   ·rw[e] at e';cases e';have:∃o,H p=some o:=by
     cases d' with
     |list _=>obtain⟨xs,h',_⟩:=q;exact⟨_,h'⟩
     |dK _ _=>obtain⟨xs,h',_⟩:=q;exact h'.elim (λy=>⟨_,y⟩) λy=>let⟨_,y⟩:=y.2;⟨_,y⟩
     |dT _ _=>obtain⟨xs,h',_⟩:=q;exact h'.elim (λy=>⟨_,y⟩) λy=>let⟨_,y⟩:=y.2;⟨_,y⟩
     |dN _ _=>obtain⟨bs,xs,h',_⟩:=q;exact h'.elim (λy=>⟨_,y⟩) λy=>let⟨_,y⟩:=y.2;⟨_,y⟩
     |_=>exact q.elim
    exact no this e z
 ·rcases h1 with⟨e1,z1⟩|⟨e1,z1⟩<;>rcases h2 with⟨e2,z2⟩|⟨e2,z2⟩
  ·rw[e1,e2]
  ·rcases new a z1 with y|y
   ·exact absurd (E.inj k i a z2 y) e2
   ·obtain⟨⟨o,q,_⟩,_⟩:=E.ex k a z2;rw[y] at q;cases q
  ·rcases new a z2 with y|y
   ·exact absurd (E.inj j i a z1 y) e1
   ·obtain⟨⟨o,q,_⟩,_⟩:=E.ex j a z1;rw[y] at q;cases q
  ·exact E.inj j k a z1 z2
 ·rcases h with⟨_,z⟩|⟨nj,z⟩
  ·refine⟨ex a z,λm=>?_⟩;rcases new a z with y|y
   ·exact(E.ex i a y).2 m
   ·obtain⟨o,q,_⟩:=E.bd a m;rw[y] at q;cases q
  ·obtain⟨⟨o,y,n⟩,nb⟩:=E.ex j a z;exact⟨⟨o,keep y (.inr ⟨j,z⟩) λq=>nj (E.inj j i a z q),n⟩,nb⟩
theorem zk.at(E:zk bx B π H σ ρ ow)(i:Nat){S:Addr->Prop}{σ':St}{s:Sl}(len:σ'.length=σ.length)(sg:∀j,j≠i->σ'[j]?=σ[j]?)(new:∀a,S a->ow i a∨H a=none)(st:SD bx (λa=>Ow B ow a/\¬ow i a) H H'∨((∀a o,H a=some o->¬ow i a->H' a=some o)/\∀a xs,H a=some (.tup xs)->H' a=some (.tup xs)))(ex:∀a,S a->∃o,H' a=some o/\Okc a o)
  (hs:i<ρ.length->match s with
   |.un=>True
   |.fz d=>∃v,σ'[i]?=some (some v)/\Rp bx (Ow B (owP ow i S)) H' d v
   |.ow io n d=>∃p,σ'[i]?=some (some (.ref p))/\(io=true->p=π i)/\RpW bx (Ow B (owP ow i S)) H' S n d p
   |.rd _=>False):zk bx B π H' σ' (ρ.set i s) (owP ow i S)/\Stp B ow H (owP ow i S) H':=by
 have lt:bx.lt H':=by
  rcases st with st|st
  ·exact st.lt E.tbs
  ·intro a h;obtain⟨ps,e,tr,z⟩:=E.tbs a h;refine⟨ps,st.1 _ _ e λm=>?_,tr,z.imp id λ⟨c,e1,hc⟩=>⟨c,e1,st.1 _ _ hc λm=>?_⟩⟩
   ·obtain⟨⟨o,y,n⟩,_⟩:=E.ex i _ m;rw[e] at y;cases y;exact n.1 _ rfl
   ·obtain⟨⟨o,y,n⟩,_⟩:=E.ex i _ m;rw[hc] at y;cases y;exact n.2.2 _ rfl
 refine E.atG i len sg new (λa o h m n=>?_) (λa o h n=>?_) (st.elim (·.tu) (·.2)) lt ex hs
 ·rcases st with st|st
  ·exact st.ow a o h ⟨m,n⟩
  ·exact st.1 a o h n
 ·rcases st with st|st
  ·exact st.nw h
  ·exact .inl (st.1 a o h n)
def Xd:SD bx (λa=>Ow B ow a/\¬ow i a) H H∨((∀a o,H a=some o->¬ow i a->H a=some o)/\∀a xs,H a=some (.tup xs)->H a=some (.tup xs)):=.inr ⟨λ_ _ h _=>h,λ_ _ h=>h⟩
def zk.set(E:zk bx B π H σ ρ ow)(r:Rp bx (Ow B ow) H d v):zk bx B π H (σ.set i (some v)) (ρ.set i (.fz d)) (owP ow i noA):=
 (E.at i (s:=.fz d) (Ui) (λj n=>Qg (QM n)) (λa z=>z.elim) Xd (λa z=>z.elim) λl=>⟨v,QN (by rw[←E.len];exact l),Rp.go Stp.drop.gd _ _ r⟩).1
def zk.forget(E:zk bx B π H σ ρ ow)(i:Nat):zk bx B π H σ (ρ.set i .un) (owP ow i noA):=
 (E.at i (s:=.un) rfl (λj n=>rfl) (λa z=>z.elim) Xd (λa z=>z.elim) λl=>Ud).1
def zk.setO(E:zk bx B π H σ ρ ow)(g:SD bx (Ow B ow) H H')(n:H p=none)(r:Top bx true H' (Rps bx (λa=>Ow B ow a∨a=p) H') d p)(hp:∃o,H' p=some o/\Okc p o):zk bx B π H' (σ.set i (some (.ref p))) (ρ.set i (.ow false 1 d)) (owP ow i λa=>a=p)/\Stp B ow H (owP ow i λa=>a=p) H':=
 E.at i (s:=.ow false 1 d) (Ui) (λj n=>Qg (QM n)) (λa z=>.inr (z▸n)) (.inl (g.less λa z=>z.1)) (λa z=>z▸hp) λl=>by
  refine⟨p,QN (by rw[←E.len];exact l),(λz=>by cases z),λa=>FL,r.imp (λ_ z=>z) (λu _ z=>z) (λ_ _ h=>h) λ_ _ q=>Rps.go ⟨λ_ _ h=>h,λa o h no=>⟨.inl h,λz=>no ?_⟩⟩ _ _ q⟩
  rcases z with z|⟨j,⟨_,z⟩|⟨_,z⟩⟩
  ·exact .inl (.inl z)
  ·exact .inr z
  ·exact .inl (.inr ⟨j,z⟩)
def zk.put(E:zk bx B π H σ ρ ow){n0:Nat}(hi:ρ[i]?=some (.ow io n0 d0))(hp:σ[i]?=some (some (.ref p)))(new:∀a,S a->ow i a∨H a=none)(st:∀a o,H a=some o->¬ow i a->H' a=some o)(tu:∀a xs,H a=some (.tup xs)->H' a=some (.tup xs))(ex:∀a,S a->∃o,H' a=some o/\Okc a o)(w:RpW bx (Ow B (owP ow i S)) H' S n d p):
  zk bx B π H' σ (ρ.set i (.ow io n d)) (owP ow i S)/\Stp B ow H (owP ow i S) H':=
 E.at i (s:=.ow io n d) rfl (λj n=>rfl) new (.inr ⟨st,tu⟩) ex λl=>by
  obtain⟨p',e1,e2,_⟩:=E.own i io n0 d0 hi;rw[hp] at e1;cases e1;exact⟨p,hp,e2,w⟩
def frz1:Sl->Sl
 |.ow _ _ d=>.fz d
 |s=>s
theorem Chd.rps{O O':Addr->Prop}(g:Gd O H O' H):∀{qs:List Addr}{ds:List Dt}{xs:List V},Chd bx O H qs ds xs->(∀a∈qs,¬O' a)->Rps bx O' H ds xs
 |[],[],_,⟨e,_,_⟩,_=>by subst e;exact .nil
 |[],_::_,_,⟨_,e,_⟩,_=>nomatch e
 |_::_,[],_,⟨_,e,_⟩,_=>nomatch e
 |a::qs,d::ds,_,⟨e1,e2,q⟩,n=>by
  subst e1;exact .cons (Rp.top ((q 0 d a rfl rfl).less.imp (λ_ z=>z) (λ_ _ z=>z) (λ_ _ z=>z) λ_ _ q=>Rps.go g _ _ q) (n a (by simp))) (Chd.rps g (qs:=qs) ⟨rfl,by simpa using e2,λi d q' h1 h2=>q (i+1) d q' (by simpa using h1) (by simpa using h2)⟩ λa m=>n a (by simp[m]))
theorem RpW.rp{O O':Addr->Prop}(g:Gd O H O' H)(no:∀a,S a->¬O' a):∀{n:Nat},RpW bx O H S n d p->Rp bx O' H d (.ref p)
 |1,h=>Rp.top (h.2.less.imp (λ_ z=>z) (λ_ _ z=>z) (λ_ _ z=>z) λ_ _ q=>Rps.go g _ _ q) (no p ((h.1 p).mpr rfl))
 |2,⟨qs,h,nd,t⟩=>Rp.top (t.less.imp (λ_ z=>z) (λ_ _ z=>z) (λ_ _ z=>z) λds xs c=>c.rps g λa m=>no a ((h a).mpr (.inr m))) (no p ((h p).mpr (.inl rfl)))
theorem zk.freeze(E:zk bx B π H σ ρ ow)(i:Nat):∃ow',zk bx B π H σ (ρ.modify i frz1) ow'/\Stp B ow H ow' H:=by
 cases h:ρ[i]? with
 |none=>
  rw[List.modify_eq_self (by rw[List.getElem?_eq_none_iff] at h;exact h)]
  exact⟨ow,E,.refl⟩
 |some s=>
  have e:ρ.modify i frz1=ρ.set i (frz1 s):=by
   apply QT
   intro j;rw[List.getElem?_modify,Ut]
   by_cases q:i=j
   ·subst q;have l:=(kM.mp h).1;rw[h,if_pos rfl,if_pos l];show some (if i=i then frz1 s else s)=_;rw[if_pos rfl]
   ·rw[if_neg q]
    cases z:ρ[j]? with
    |none=>rfl
    |some y=>show some (if i=j then frz1 y else y)=_;rw[if_neg q]
  rw[e]
  cases s with
  |ow io n d=>
   obtain⟨p,e1,_,r⟩:=E.own i io n d h;exact⟨_,E.at i (s:=.fz d) rfl (λj n=>rfl) (λa z=>z.elim) Xd (λa(z:noA a)=>z.elim) λl=>⟨_,e1,r.rp Stp.drop.gd λa s z=>by
    rcases z with z|⟨j,z⟩
    ·exact(E.ex i a s).2 z
    ·obtain⟨n,z⟩:=JA z;exact n (E.inj j i a z s)⟩⟩
  |un=>rw[show ρ.set i (frz1 .un)=ρ from by rw[show frz1 .un=Sl.un from rfl];apply QT;intro j;rw[Ut];split;subst_vars;split;exact h.symm;rename_i n;exact absurd (kM.mp h).1 n;rfl];exact⟨ow,E,.refl⟩
  |fz d=>rw[show ρ.set i (frz1 (.fz d))=ρ from by rw[show frz1 (.fz d)=Sl.fz d from rfl];apply QT;intro j;rw[Ut];split;subst_vars;split;exact h.symm;rename_i n;exact absurd (kM.mp h).1 n;rfl];exact⟨ow,E,.refl⟩
  |rd d=>rw[show ρ.set i (frz1 (.rd d))=ρ from by rw[show frz1 (.rd d)=Sl.rd d from rfl];apply QT;intro j;rw[Ut];split;subst_vars;split;exact h.symm;rename_i n;exact absurd (kM.mp h).1 n;rfl];exact⟨ow,E,.refl⟩
end
def zy(i:Nat)(f:En->Option Dt):En->Option Ou:=λρ=>(f ρ).bind λd=>some (.nx (ρ.set i (.fz d)))
def dSo(i:Nat)(f:En->Option Dt):En->Option Ou:=λρ=>(f ρ).bind λd=>some (.nx (ρ.set i (.ow false 1 d)))
def thn1(g:En->Option Ou):Ou->Option Ou
 |.nx ρ=>g ρ
 |o=>some o
def dSq(f g:En->Option Ou):En->Option Ou:=λρ=>(f ρ).bind (thn1 g)
def dNx:En->Option Ou:=λρ=>some (.nx ρ)
def dRt(f:En->Option Dt):En->Option Ou:=λρ=>(f ρ).bind λd=>some (.rt d ρ)
def zE(c:En->Option Bool)(f g:En->Option Ou):En->Option Ou:=λρ=>(c ρ).bind λb=>if b=true then f ρ else g ρ
def dFz(i:Nat)(f:En->Option Ou):En->Option Ou:=λρ=>f (ρ.modify i frz1)
def yY:En->Option Ou:=λ_=>none
def ofL:Dt->Option (List Dt)
 |.list ds=>some ds
 |_=>none
def ofO:Sl->Option (Bool×List Dt)
 |.ow io 1 (.list ds)=>some (io,ds)
 |_=>none
def dAp(i:Nat)(f:En->Option Dt):En->Option Ou:=λρ=>(f ρ).bind λd=>((ρ[i]?).bind ofO).bind λx=>if x.2.length<sizeLine then some (.nx (ρ.set i (.ow x.1 1 (.list (x.2++[d]))))) else none
variable{xs:List V}
def wY{a:Addr}:Okc a (.lst xs):=⟨(by intro q z;cases z),(by intro q z;cases z),(by intro q z;cases z)⟩
theorem Top.obj{bx:Bx}{H:Hp}{d:Dt}{p:Addr}(h:Top bx true H R d p):∃o,H p=some o/\Okc p o:=by
 have k:∀{u},Okc p u->At true H p u->∃o,H p=some o/\Okc p o:=λn z=>z.elim (λz=>⟨_,z,n⟩) λz=>nomatch z.1
 cases d with
 |list _=>obtain⟨xs,h,_⟩:=h;exact⟨_,h,wY⟩
 |dK _ _=>obtain⟨xs,h,_⟩:=h;exact k ⟨(by intro q z;cases z),(by intro q z;cases z),(by intro q z;cases z)⟩ h
 |dT _ _=>obtain⟨xs,h,_⟩:=h;exact k ⟨(by intro q z;cases z),(by intro q z;cases z),(by intro q z;cases z)⟩ h
 |dN _ _=>obtain⟨bs,xs,h,_⟩:=h;exact k ⟨qN,(by intro q z;cases z),λ_=>JM⟩ h
 |_=>exact h.elim
variable{σ:St}
section
variable{X:Cx}{bx:Bx}{pos:Pos}{e:Expr}{f:En->Option Dt}{fs gs:En->Option Ou}{st:Stmt}{rest:List Stmt}{i:Nat}
theorem zF(i:Nat){x:Str}(hN:X.N.Nodup)(he:PE X e (dM bx false f))(hi:X.N[i]?=some x:=by rfl)(hx:Loc X.env.scope x:=by first|exact .inl rfl|exact .inr rfl)(hs:uh e (some (.Name x pos')) pos.line X.env=pure false:=by rfl)(hf:X.fn x=true∨X.env.scope.names.lookup x=some .local:=by first|exact .inl rfl|exact .inr rfl|assumption):
  PS X (.Assign [.Name x pos'] e pos) (dS bx (zy i f)):=(YZ hN hi hx he hs hf).imp λD σ H⟨B,π,ow,ρ,o,E,q,z⟩=>by
 obtain⟨d,q1,q2⟩:=kA.mp q
 cases q2;exact⟨B,π,ow,ρ,d,E,q1,λv H1 g1 r1=>z _ H1 _ ((Stp.of g1).trans .drop) ((E.sd g1).set r1)⟩
theorem yg(i:Nat){x:Str}(hN:X.N.Nodup)(he:PE X e (dF bx f))(hi:X.N[i]?=some x:=by rfl)(hx:Loc X.env.scope x:=by first|exact .inl rfl|exact .inr rfl)(hs:uh e (some (.Name x pos')) pos.line X.env=pure false:=by rfl)(hf:X.fn x=true∨X.env.scope.names.lookup x=some .local:=by first|exact .inl rfl|exact .inr rfl|assumption):
  PS X (.Assign [.Name x pos'] e pos) (dS bx (dSo i f)):=(YZ hN hi hx he hs hf).imp λD σ H⟨B,π,ow,ρ,o,E,q,z⟩=>by
 obtain⟨d,q1,q2⟩:=kA.mp q
 cases q2;exact⟨B,π,ow,ρ,d,E,q1,λp H1 g1 n r1=>let⟨E',s'⟩:=E.setO g1 n r1 r1.obj;z _ H1 _ s' E'⟩
def zQ:PSs X [] (dS bx dNx):=pss_nil.imp λD σ H⟨B,π,ow,ρ,o,E,q,z⟩=>by cases q;exact z σ H ow .refl E
theorem sq{D:Ends}{H:Hp}(h:dS bx (dSq fs gs) D σ H):xP (dS bx fs) (dS bx gs) D σ H:=by
 obtain⟨B,π,ow,ρ,o,E,q,z⟩:=h;obtain⟨o1,q1,q2⟩:=kA.mp q;refine⟨B,π,ow,ρ,o1,E,q1,?_⟩
 cases o1 with
 |nx ρ1=>exact λσ1 H1 ow1 s1 E1=>⟨B,π,ow1,ρ1,o,E1,q2,z.step s1⟩
 |rt d ρ1=>cases q2;exact z
 |bk ρ1=>cases q2;exact z
 |ct ρ1=>cases q2;exact z
 |ex=>cases q2;exact z
def zj(h1:PS X st (dS bx fs))(h2:PSs X rest (dS bx gs)):PSs X (st::rest) (dS bx (dSq fs gs)):=(yI h1 h2).imp λ_ _ _ h=>sq h
def zm(h1:PS X st (dS bx fs)):PSs X [st] (dS bx fs):=xh h1
def zB(he:PE X e (dM bx false f)):PS X (.Return (some e) pos) (dS bx (dRt f)):=(jr he).imp λD σ H⟨B,π,ow,ρ,o,E,q,z⟩=>by
 obtain⟨d,q1,q2⟩:=kA.mp q
 cases q2;exact⟨B,π,ow,ρ,d,E,q1,λv H1 g1 r1=>z _ _ H1 _ (.of g1) (E.sd g1) r1⟩
theorem zO{t:Expr}{a b:List Stmt}{c:En->Option Bool}(hc:PT X t (dT bx c))(ha:PSs X a (dS bx fs))(hb:PSs X b (dS bx gs)):PS X (.If t a b pos) (dS bx (zE c fs gs)):=(Xn hc ha hb).imp λD σ H⟨B,π,ow,ρ,o,E,q,z⟩=>by
 obtain⟨x,q1,q2⟩:=kA.mp q;refine⟨B,π,ow,ρ,x,E,q1,λH1 g1=>?_⟩
 cases x with
 |true=>exact xX ⟨B,π,ow,ρ,o,E.sd g1,q2,z.step (.of g1)⟩
 |false=>exact wy ⟨B,π,ow,ρ,o,E.sd g1,q2,z.step (.of g1)⟩
def yw(i:Nat)(h:PS X st (dS bx fs)):PS X st (dS bx (dFz i fs)):=h.imp λD σ H⟨B,π,ow,ρ,o,E,q,z⟩=>let⟨ow',E',s'⟩:=E.freeze i;⟨B,π,ow',_,o,E',q,z.step s'⟩
def wa:PS X st (dS bx yY):=λ_ _ _ _ _ _⟨_,_,_,_,_,_,q,_⟩=>nomatch q
end
def Wlk(bx:Bx)(J:It)(O:Addr->Prop)(H:Hp)(ds:List Dt):Prop:=ds.length<=sizeLine/\∀(O':Addr->Prop)(H':Hp),Gd O H O' H'->(∀a,O' a->∃o,H' a=some o/\Okc a o)->
 (∀i d,ds[i]?=some d->J.go i H'/\∀x H2,J.yld i H' x H2->SD bx O' H' H2/\Rp bx O' H2 d x)/\J.stop ds.length H'
def dI(bx:Bx)(f:En->Option (List Dt)):TI:=λσ H R=>∃B π ow ρ ds,zk bx B π H σ ρ ow/\f ρ=some ds/\∀J H',SD bx (Ow B ow) H H'->Wlk bx J (Ow B ow) H' ds->R J H'
def dG(bx:Bx)(h:Dt->En->Option En):TG:=λv σ H Q=>∃B π ow ρ d ρ',zk bx B π H σ ρ ow/\Rp bx (Ow B ow) H d v/\h d ρ=some ρ'/\∀σ' H' ow',Stp B ow H ow' H'->zk bx B π H' σ' ρ' ow'->Q σ' H'
def dGs(bx:Bx)(h:List Dt->En->Option En):TGs:=λvs σ H Q=>∃B π ow ρ ds ρ',zk bx B π H σ ρ ow/\Rps bx (Ow B ow) H ds vs/\h ds ρ=some ρ'/\∀σ' H' ow',Stp B ow H ow' H'->zk bx B π H' σ' ρ' ow'->Q σ' H'
def ofT:Dt->Option (List Dt)
 |.tuple ds=>some ds
 |_=>none
def iL(f:En->Option Dt):En->Option (List Dt):=λρ=>(f ρ).bind ofL
def iT(f:En->Option Dt):En->Option (List Dt):=λρ=>(f ρ).bind ofT
def rng1:List Dt->Option (List Dt)
 |[.int j]=>if-(2^62)<=j/\j<2^62/\j.toNat<=sizeLine then some ((pe j.toNat).map λk:Nat=>.int k) else none
 |_=>none
def rng2:List Dt->Option (List Dt)
 |[.int i,.int j]=>if(-(2^62)<=i/\i<2^62/\ -(2^62)<=j/\j<2^62)/\(j-i).toNat<=sizeLine then some ((pe (j-i).toNat).map λk:Nat=>.int (i+k)) else none
 |_=>none
def zip2T:List Dt->Option (List Dt)
 |[.tuple xs,.tuple ys]=>if xs.length=ys.length then some (Bo (λa b=>.tuple [a,b]) xs ys) else none
 |_=>none
def enu1:List Dt->Option (List Dt)
 |[.list xs]=>some ((pe xs.length).zipWith (λ(k:Nat) x=>.tuple [.int k,x]) xs)
 |_=>none
def iC(k:List Dt->Option (List Dt))(g:En->Option (List Dt)):En->Option (List Dt):=λρ=>(g ρ).bind k
variable{vs:List V}
section
variable{X:Cx}{bx:Bx}{tg e a b:Expr}{es:List Expr}{f:En->Option Dt}{ga:En->Option (List Dt)}{pos p tpos:Pos}
def PI.imp{t t':TI}{iter:Expr}(h:PI X tg iter t)(i:∀σ H Q,t' σ H Q->t σ H Q):PI X tg iter t':=λpins s σ H Q I q=>h pins s σ H Q I (i _ _ _ q)
def PG.imp{t t':TG}(h:PG X tg t)(i:∀v σ H Q,t' v σ H Q->t v σ H Q):PG X tg t':=λpins s σ H v u Q I r q=>h pins s σ H v u Q I r (i _ _ _ _ q)
def PGs.imp{t t':TGs}(h:PGs X es t)(i:∀v σ H Q,t' v σ H Q->t v σ H Q):PGs X es t':=λpins s σ H v u Q I r q=>h pins s σ H v u Q I r (i _ _ _ _ q)
variable{O:Addr->Prop}{H:Hp}{ds:List Dt}
def Rp.lstE{bx:Bx}{v:V}(h:Rp bx O H (.list ds) v):∃p xs,v=.ref p/\¬O p/\H p=some (.lst xs)/\xs.length<=sizeLine/\Rps bx O H ds xs:=by rw[Rp] at h;exact h
def Rp.tupE{bx:Bx}{v:V}(h:Rp bx O H (.tuple ds) v):∃p xs,v=.ref p/\¬O p/\H p=some (.tup xs)/\xs.length<=sizeLine/\Rps bx O H ds xs:=by rw[Rp] at h;exact h
theorem zR(h:PE X e (dM bx false f)):PI X tg e (dI bx (iL f)):=(JW h).imp λσ H R⟨B,π,ow,ρ,ds,E,q,z⟩=>by
 obtain⟨d,q1,q2⟩:=kA.mp q
 cases d with
 |list _=>
  cases q2;refine⟨B,π,ow,ρ,_,E,q1,λv H1 g1 r1=>?_⟩;obtain⟨p,xs,rfl,n,rd,l,rs⟩:=Rp.lstE (O:=Ow B ow) (H:=H1) r1;refine⟨p,rfl,⟨xs,.of rd⟩,z _ H1 g1 ⟨by rw[rs.len];exact l,λO' H' g _=>?_⟩⟩
  have sq:SqL X.K H' p xs:=.of (g.st p _ rd n).1.lst;have rs':=Rps.go g _ _ rs;refine⟨λi d e=>?_,⟨xs,sq,by rw[rs.len];exact kN _⟩⟩
  obtain⟨x,ex,rx⟩:=rs'.get e;exact⟨⟨xs,x,sq,ex⟩,λy H2⟨e1,e2⟩=>by subst e1;have:=e2 xs sq;rw[ex] at this;cases this;exact⟨.refl _ _,rx⟩⟩
 |_=>cases q2
theorem YA(h:PE X e (dM bx false f)):PI X tg e (dI bx (iT f)):=(pi_tup h).imp λσ H R⟨B,π,ow,ρ,ds,E,q,z⟩=>by
 obtain⟨d,q1,q2⟩:=kA.mp q
 cases d with
 |tuple _=>
  cases q2;refine⟨B,π,ow,ρ,_,E,q1,λv H1 g1 r1=>?_⟩;obtain⟨p,xs,rfl,n,rd,l,rs⟩:=Rp.tupE (O:=Ow B ow) (H:=H1) r1;refine⟨p,rfl,⟨xs,.of rd⟩,z _ H1 g1 ⟨by rw[rs.len];exact l,λO' H' g _=>?_⟩⟩
  have sq:SqT X.K H' p xs:=.of (g.tu _ _ rd);have rs':=Rps.go g _ _ rs;refine⟨λi d e=>?_,⟨xs,sq,by rw[rs.len];exact kN _⟩⟩
  obtain⟨x,ex,rx⟩:=rs'.get e;exact⟨⟨xs,x,sq,ex⟩,λy H2⟨e1,e2⟩=>by subst e1;have:=e2 xs sq;rw[ex] at this;cases this;exact⟨.refl _ _,rx⟩⟩
 |_=>cases q2
theorem Zk{bx:Bx}{lo:Int}(l:n<=sizeLine)(e:ds=(pe n).map λk:Nat=>.int (lo+k)):Wlk bx (Itr lo n) O H ds:=by
 subst e;refine⟨by rw[kL,uO];exact l,λO' H' _ _=>⟨λi d e=>?_,by rw[kL,uO];exact kN n⟩⟩
 rw[kg] at e
 by_cases c:i<n
 ·rw[UU c] at e;cases e;exact⟨c,λx H2⟨e1,e2⟩=>by subst e1 e2;exact⟨.refl _ _,.int⟩⟩
 ·rw[UE (by rw[uO];omega)] at e;cases e
def Xo:∀{ds:List Dt}{vs:List V}{O:Addr->Prop}{H:Hp}{i:Int},Rps bx O H (.int i::ds) vs->∃r,vs=.int i::r/\Rps bx O H ds r:=λh=>by
 rw[Rps] at h;obtain⟨x,r,rfl,h1,h2⟩:=h;rw[Rp] at h1;exact⟨r,by rw[h1],h2⟩
theorem VP(hg:Gl X "range")(hm:X.mg "range"=none)(ha:PA X [a] (dA bx ga))(hs:kJ [a] X.env=[(false,eval a X.env)]:=by rfl):PI X tg (.Call (.Name "range" p) [a] [] pos) (dI bx (iC rng1 ga)):=(zc4 hg hm ha hs).imp λσ H R⟨B,π,ow,ρ,ds,E,q,z⟩=>by
 obtain⟨as,q1,q2⟩:=kA.mp q;unfold rng1 at q2
 split at q2
 ·split at q2
  ·rename_i j c
   cases q2;refine⟨B,π,ow,ρ,_,E,q1,λvs H1 g1 r1=>?_⟩;obtain⟨r,rfl,r2⟩:=Xo r1;rw[Rps] at r2;subst r2;exact⟨j,rfl,c.1,c.2.1,z _ H1 g1 (Zk c.2.2 (by simp))⟩
  ·cases q2
 ·cases q2
theorem di_rng2(hg:Gl X "range")(hm:X.mg "range"=none)(ha:PA X [a,b] (dA bx ga))(hs:kJ [a,b] X.env=[(false,eval a X.env),(false,eval b X.env)]:=by rfl)(hs2:kJ [b] X.env=[(false,eval b X.env)]:=by rfl):PI X tg (.Call (.Name "range" p) [a,b] [] pos) (dI bx (iC rng2 ga)):=(zau hg hm ha hs hs2).imp λσ H R⟨B,π,ow,ρ,ds,E,q,z⟩=>by
 obtain⟨as,q1,q2⟩:=kA.mp q;unfold rng2 at q2
 split at q2
 ·split at q2
  ·rename_i i j c
   cases q2;refine⟨B,π,ow,ρ,_,E,q1,λvs H1 g1 r1=>?_⟩;obtain⟨r,rfl,r2⟩:=Xo r1;obtain⟨r',rfl,r3⟩:=Xo r2;rw[Rps] at r3;subst r3;exact⟨i,j,rfl,c.1,z _ H1 g1 (Zk c.2 rfl)⟩
  ·cases q2
 ·cases q2
variable{bx:Bx}{a:Dt}
def Vo{b:Dt}{x y:V}{T:Addr}(no:∀a,O a->∃o,H a=some o/\Okc a o)(n:H T=none)(ra:Rp bx O H a x)(rb:Rp bx O H b y):Rp bx O (upd H T (.tup [x,y])) (.tuple [a,b]) (.ref T):=by
 rw[Rp];exact⟨T,_,rfl,(λz=>by obtain⟨o,h,_⟩:=no T z;rw[n] at h;cases h),zM,(by decide:2<=sizeLine),Rps.go (Gd.upd n _) _ _ (.cons ra (.cons rb .nil))⟩
def JK{b:Dt}(h:Rps bx O H [a,b] vs):∃x y,vs=[x,y]/\Rp bx O H a x/\Rp bx O H b y:=by
 rw[Rps] at h;obtain⟨x,r,rfl,h1,h2⟩:=h;rw[Rps] at h2;obtain⟨y,r',rfl,h3,h4⟩:=h2;rw[Rps] at h4;subst h4;exact⟨x,y,rfl,h1,h3⟩
def Xj(h:Rps bx O H [a] vs):∃x,vs=[x]/\Rp bx O H a x:=by
 rw[Rps] at h;obtain⟨x,r,rfl,h1,h2⟩:=h;rw[Rps] at h2;subst h2;exact⟨x,rfl,h1⟩
end
def gN(i:Nat):Dt->En->Option En:=λd ρ=>some (ρ.set i (.fz d))
def gs0:List Dt->En->Option En
 |[],ρ=>some ρ
 |_,_=>none
def gsC(h:Dt->En->Option En)(hs:List Dt->En->Option En):List Dt->En->Option En
 |d::ds,ρ=>(h d ρ).bind (hs ds)
 |[],_=>none
def gT(n:Nat)(hs:List Dt->En->Option En):Dt->En->Option En:=λd ρ=>(ofT d).bind λds=>if ds.length=n then hs ds ρ else none
def fgt(fg:List Nat)(ρ:En):En:=fg.foldl (λρ i=>ρ.set i .un) ρ
def yC(h:Dt->En->Option En)(b:En->Option Ou)(fg:List Nat):List Dt->En->Option Ou
 |[],ρ=>some (.nx ρ)
 |d::ds,ρ=>(h d ρ).bind λρ1=>(b ρ1).bind λo=>match o with
  |.nx ρ2=>yC h b fg ds (fgt fg ρ2)
  |.ct ρ2=>yC h b fg ds (fgt fg ρ2)
  |.bk ρ2=>some (.nx ρ2)
  |.rt d ρ'=>some (.rt d ρ')
  |.ex=>some .ex
def yb(fg:List Nat)(it:En->Option (List Dt))(h:Dt->En->Option En)(b:En->Option Ou):En->Option Ou:=λρ=>(it ρ).bind λds=>yC h b fg ds ρ
theorem zk.fgt{bx:Bx}{B:Addr->Prop}{π:Nat->Addr}{H:Hp}{σ:St}:∀(fg:List Nat){ρ:En}{ow:Os},zk bx B π H σ ρ ow->∃ow',zk bx B π H σ (fgt fg ρ) ow'/\Stp B ow H ow' H
 |[],ρ,ow,E=>⟨ow,E,.refl⟩
 |i::fg,ρ,ow,E=>let⟨ow',E',s⟩:=zk.fgt fg (E.forget i);⟨ow',E',Stp.drop.trans s⟩
variable{body:List Stmt}
section
variable{X:Cx}{bx:Bx}{tg:Expr}{es:List Expr}{pos:Pos}{h:Dt->En->Option En}{hs:List Dt->En->Option En}
theorem zv(i:Nat){x:Str}(hN:X.N.Nodup)(hi:X.N[i]?=some x:=by rfl)(hx:Loc X.env.scope x:=by first|exact .inl rfl|exact .inr rfl)(hf:X.fn x=true∨X.env.scope.names.lookup x=some .local:=by first|exact .inl rfl|exact .inr rfl|assumption):PG X (.Name x pos) (dG bx (gN i)):=(pg_name hN hi hx hf).imp λv σ H Q⟨B,π,ow,ρ,d,ρ',E,r,q,z⟩=>by
 cases q;exact z _ H _ .drop (E.set r)
theorem xb:PGs X [] (dGs bx gs0):=pgs_nil.imp λv σ H Q⟨B,π,ow,ρ,ds,ρ',E,r,q,z⟩=>by
 cases ds with
 |nil=>cases q;rw[Rps] at r;exact⟨r,z σ H ow .refl E⟩
 |cons _ _=>cases q
theorem zW{e:Expr}(h1:PG X e (dG bx h))(h2:PGs X es (dGs bx hs))(he:(Uu (e::es) X.env).map (·.2)=assign e X.env::(Uu es X.env).map (·.2):=by rfl):PGs X (e::es) (dGs bx (gsC h hs)):=(zc8 h1 h2 he).imp λv σ H Q⟨B,π,ow,ρ,ds,ρ',E,r,q,z⟩=>by
 cases ds with
 |nil=>cases q
 |cons d ds=>
  obtain⟨ρ1,q1,q2⟩:=kA.mp q;rw[Rps] at r;obtain⟨x,vr,rfl,r1,r2⟩:=r;exact⟨x,vr,rfl,B,π,ow,ρ,d,ρ1,E,r1,q1,λσ1 H1 ow1 s1 E1=>⟨B,π,ow1,ρ1,ds,ρ',E1,Rps.go s1.gd _ _ r2,q2,λσ2 H2 ow2 s2 E2=>z σ2 H2 ow2 (s1.trans s2) E2⟩⟩
theorem xg(n:Nat){k:Nat}(hc:X.calm=true)(g:PGs X es (dGs bx hs))(hn:(Uu es X.env).length=n:=by rfl)(hst:(Uu es X.env).findIdx? (·.1)=none:=by rfl):PG X (.Tuple es k pos) (dG bx (gT n hs)):=(pg_tup hc g hn hst).imp λv σ H Q⟨B,π,ow,ρ,d,ρ',E,r,q,z⟩=>by
 obtain⟨ds,q1,q2⟩:=kA.mp q
 cases d with
 |tuple ds'=>
  cases q1
  by_cases l:ds.length=n
  ·rw[if_pos l] at q2;obtain⟨p,xs,rfl,_,rd,_,rs⟩:=r.tupE;exact⟨p,xs,rfl,.of rd,by rw[←rs.len];exact l,B,π,ow,ρ,ds,ρ',E,rs,q2,z⟩
  ·rw[if_neg l] at q2;cases q2
 |_=>cases q1
theorem yo(fg:List Nat){iter:Expr}{it:En->Option (List Dt)}{bs:En->Option Ou}(hp:Do (model X.prog X.w) X.A X.env X.xe)(hc:X.calm=true)(hi:PI X tg iter (dI bx it))(hg:PG X tg (dG bx h))(hb:PSs X body (dS bx bs))
  (hf:∀x,uY iter X.env x=pure x:=by intro _;rfl):PS X (.For tg iter body [] pos) (dS bx (yb fg it h bs)):=(ps_for hp hc hi hg hb hf).imp λD σ H⟨B,π,ow,ρ,o,E,q,z⟩=>by
 obtain⟨ds,q1,q2⟩:=kA.mp q;refine⟨B,π,ow,ρ,ds,E,q1,λJ H1 g1 wk=>?_⟩;refine⟨λi m σ' H'=>m=ds.length-i/\i<=ds.length/\∃ow' ρ',Stp B ow H1 ow' H'/\zk bx B π H' σ' ρ' ow'/\yC h bs fg (ds.drop i) ρ'=some o,⟨_,rfl,uF _,ow,ρ,.refl,E.sd g1,q2⟩,?_⟩;rintro i m σ' H' ⟨rfl,hi,ow',ρ',s',E',q'⟩;obtain⟨go,stop⟩:=wk.2 (Ow B ow') H' s'.gd E'.has;have z':=z.step ((Stp.of g1).trans s')
 by_cases lt:i<ds.length
 ·rw[QV lt,yC] at q';obtain⟨ρ1,q1,q'⟩:=kA.mp q';obtain⟨o1,q3,q'⟩:=kA.mp q';obtain⟨g,y⟩:=go i ds[i] (kK lt);refine .inr ⟨g,λσ2 H2=>ds.length-(i+1)=ds.length-(i+1)/\i+1<=ds.length/\∃ow' ρ',Stp B ow H1 ow' H2/\zk bx B π H2 σ2 ρ' ow'/\yC h bs fg (ds.drop (i+1)) ρ'=some o,λσ2 H2 w=>⟨ds.length-(i+1),by omega,w⟩,λx H2 yl=>?_⟩
  obtain⟨g2,r2⟩:=y x H2 yl;refine⟨B,π,ow',ρ',ds[i],ρ1,E'.sd g2,r2,q1,λσ3 H3 ow3 s3 E3=>⟨B,π,ow3,ρ1,o1,E3,q3,?_⟩⟩;have s13:=(Stp.of g2).trans s3
  cases o1 with
  |nx ρ2=>exact λσ4 H4 ow4 s4 E4=>let⟨ow5,E5,s5⟩:=E4.fgt fg;⟨rfl,lt,ow5,_,s'.trans (s13.trans (s4.trans s5)),E5,q'⟩
  |ct ρ2=>exact λσ4 H4 ow4 s4 E4=>let⟨ow5,E5,s5⟩:=E4.fgt fg;⟨rfl,lt,ow5,_,s'.trans (s13.trans (s4.trans s5)),E5,q'⟩
  |bk ρ2=>cases q';exact z'.step s13
  |rt d ρ2=>cases q';exact z'.step s13
  |ex=>cases q';exact z'.step s13
 ·have e:i=ds.length:=by omega
  subst e;rw[Bb,yC] at q'
  cases q';exact .inl ⟨stop,z' σ' H' ow' .refl E'⟩
end
def yU:Sl->Sl
 |.ow _ n d=>if n=1 then .rd d else .un
 |s=>s
def inn(k:Nat)(ix:List Nat)(ρ:En):En:=uC k .un++ix.map λi=>((ρ[i]?).map yU).getD .un
def yV(f:Dt->Option (Option Dt)):List Dt->Option (List Dt)
 |[]=>some []
 |d::ds=>(f d).bind λo=>(yV f ds).bind λr=>some (o.toList++r)
def zI(k:Nat)(ix:List Nat)(it:En->Option (List Dt))(h:Dt->En->Option En)(c:En->Option Bool)(e:En->Option Dt):En->Option Dt:=λρ=>(it ρ).bind λds=>
 (yV (λd=>(h d (inn k ix ρ)).bind λρ1=>(c ρ1).bind λb=>if b=true then(e ρ1).bind λy=>some (some y) else some none) ds).bind λr=>some (.list r)
def WlkC(bx:Bx)(J:It)(O:Addr->Prop)(H:Hp)(ds:List Dt):Prop:=ds.length<=sizeLine/\∀(O':Addr->Prop)(H':Hp),Gd O H O' H'->(∀a,O' a->∃o,H' a=some o/\Okc a o)->(∀a o,H a=some o->O a->H' a=some o)->
 (∀i d,ds[i]?=some d->J.go i H'/\∀x H2,J.yld i H' x H2->SD bx O' H' H2/\Rp bx O' H2 d x)/\J.stop ds.length H'
def dIc(bx:Bx)(f:En->Option (List Dt)):TI:=λσ H R=>∃B π ow ρ ds,zk bx B π H σ ρ ow/\f ρ=some ds/\∀J H',SD bx (Ow B ow) H H'->WlkC bx J (Ow B ow) H' ds->R J H'
def ic{X:Cx}{bx:Bx}{tg e:Expr}{f:En->Option (List Dt)}(h:PI X tg e (dI bx f)):PI X tg e (dIc bx f):=h.imp λσ H R⟨B,π,ow,ρ,ds,E,q,z⟩=>⟨B,π,ow,ρ,ds,E,q,λJ H' g wk=>z J H' g ⟨wk.1,λO' H' g no _=>wk.2 O' H' g no⟩⟩
theorem v4{X:Cx}{bx:Bx}{tg e:Expr}{f:En->Option Dt}(h:PE X e (dM bx true f)):PI X tg e (dIc bx (iL f)):=(JW h).imp λσ H R⟨B,π,ow,ρ,ds,E,q,z⟩=>by
 obtain⟨d,q1,q2⟩:=kA.mp q
 cases d with
 |list _=>
  cases q2;refine⟨B,π,ow,ρ,_,E,q1,λv H1 g1 r1=>?_⟩;obtain⟨p,xs,rfl,rd,l,rs⟩:=RpT.lst (O:=Ow B ow) (H:=H1) r1;refine⟨p,rfl,⟨xs,.of rd⟩,z _ H1 g1 ⟨by rw[rs.len];exact l,λO' H' g _ kp=>?_⟩⟩
  have sq:SqL X.K H' p xs:=by
   by_cases o:Ow B ow p
   ·exact .of (kp p _ rd o)
   ·exact .of (g.st p _ rd o).1.lst
  have rs':=Rps.go g _ _ rs;refine⟨λi d e=>?_,⟨xs,sq,by rw[rs.len];exact kN _⟩⟩
  obtain⟨x,ex,rx⟩:=rs'.get e;exact⟨⟨xs,x,sq,ex⟩,λy H2⟨e1,e2⟩=>by subst e1;have:=e2 xs sq;rw[ex] at this;cases this;exact⟨.refl _ _,rx⟩⟩
 |_=>cases q2
def noO:Os:=λ_ _=>False
theorem zk.inn{bx:Bx}{B:Addr->Prop}{π:Nat->Addr}{H H':Hp}{σ:St}{ρ:En}{ow:Os}(E:zk bx B π H σ ρ ow)(k:Nat)(ix:List Nat){D:Addr}(n:H D=none)(g:SD bx (Ow B ow) H H')(hD:∃o,H' D=some o/\Okc D o):
  zk bx (λa=>Ow B ow a∨a=D) π H' (yq k ix σ) (inn k ix ρ) noO:=by
 have gd:Gd (Ow B ow) H (Ow (λa=>Ow B ow a∨a=D) noO) H':=(Gd.new n g).trans ⟨λ_ _ h=>h,λa o h no=>⟨.inl h,λz=>z.elim no λ⟨_,z⟩=>z.elim⟩⟩;have sl:∀{j s},(L2.inn k ix ρ)[j]?=some s->s≠.un->∃i s0,ρ[i]?=some s0/\s=yU s0/\(yq k ix σ)[j]?=some (σ[i]?).join:=λ{j s} h nu=>by
  unfold L2.inn at h
  by_cases l:j<k
  ·rw[pW (by rw[pQ];exact l),ul,if_pos l] at h
   cases h;exact absurd rfl nu
  ·rw[pJ (by rw[pQ];omega),pQ,kg] at h
   cases q:ix[j-k]? with
   |none=>rw[q] at h;cases h
   |some i=>
    rw[q] at h;have h:((ρ[i]?).map yU).getD .un=s:=pL h
    cases e:ρ[i]? with
    |none=>rw[e] at h;exact absurd h.symm nu
    |some s0=>
     rw[e] at h;refine⟨i,s0,e,h.symm,?_⟩;unfold yq;rw[pJ (by rw[pQ];omega),pQ,kg,q]
     rfl
 have E':=E.sd g;refine⟨by unfold L2.inn yq;simp,E'.tbs,λa h=>?_,λj d h=>?_,λj io m d h=>?_,λj d h=>?_,λi j a h=>h.elim,λi a h=>h.elim⟩
 ·rcases h with h|rfl
  ·exact E'.has a h
  ·exact hD
 ·obtain⟨i,s0,e,e1,e2⟩:=sl h (by intro z;cases z)
  cases s0 with
  |fz d'=>cases e1;obtain⟨v,ev,r⟩:=E.frz i _ e;exact⟨v,by rw[e2,ev];rfl,Rp.go gd _ _ r⟩
  |ow io m d'=>unfold yU at e1;dsimp only at e1;split at e1<;>cases e1
  |_=>cases e1
 ·obtain⟨i,s0,e,e1,e2⟩:=sl h (by intro z;cases z)
  cases s0 with
  |ow io m d'=>
   unfold yU at e1;dsimp only at e1;split at e1<;>cases e1
  |_=>cases e1
 ·obtain⟨i,s0,e,e1,e2⟩:=sl h (by intro z;cases z)
  cases s0 with
  |ow io m d'=>
   unfold yU at e1;dsimp only at e1
   split at e1
   ·rename_i z;subst z;cases e1
    obtain⟨p,ev,_,r⟩:=E.own i _ _ _ e;exact⟨_,by rw[e2,ev];rfl,RpT.go gd (λ_ _ _ z=>g.nw z) (.inr ⟨p,rfl,r.2.less⟩),λ_ _⟨_,z⟩=>z.elim⟩
   ·cases e1
  |rd d'=>cases e1;obtain⟨v,ev,r,_⟩:=E.red i _ e;exact⟨_,by rw[e2,ev];rfl,r.go gd λ_ _ _ z=>g.nw z,λ_ _⟨_,z⟩=>z.elim⟩
  |_=>cases e1
def JX{H:Hp}{D:Addr}{ys:List V}{P:Addr}{pos:Pos}{q:Str}(h:H D=some (.lst ys))(l:xm H P pos q):xm (upd H D u) P pos q:=by
 obtain⟨ps,e,t,z⟩:=l;refine⟨ps,by rw[zp λy=>by subst y;rw[h] at e;cases e];exact e,t,z.imp id λ⟨c,e1,hc⟩=>⟨c,e1,by rw[zp λy=>by subst y;rw[h] at hc;cases hc];exact hc⟩⟩
variable{ix:List Nat}
theorem tC'{bx:Bx}{k:Nat}{it:En->Option (List Dt)}{h:Dt->En->Option En}{c:En->Option Bool}{e:En->Option Dt}{H:Hp}(hq:dF bx (zI k ix it h c e) σ H Q):va k ix (dIc bx it) (dG bx h) (dT bx c) (dM bx false e) σ H Q:=by
 obtain⟨B,π,ow,ρ,d,E,q,z⟩:=hq;obtain⟨ds,q1,q⟩:=kA.mp q;obtain⟨r,q2,q⟩:=kA.mp q
 cases q;refine⟨B,π,ow,ρ,ds,E,q1,λJ H1 g1 wk D nD=>?_⟩;have E1:=E.sd g1;generalize hf:(λd=>(h d (inn k ix ρ)).bind λρ1=>(c ρ1).bind λb=>if b=true then(e ρ1).bind λy=>some (some y) else some none)=f at q2;have gD:∀{H2:Hp},SD bx (Ow B ow) H1 H2->Gd (Ow B ow) H1 (λa=>Ow B ow a∨a=D) H2:=λg=>Gd.new nD g;refine⟨λi m H2=>m=ds.length-i/\i<=ds.length/\∃ys out rs,SD bx (Ow B ow) H1 H2/\H2 D=some (.lst ys)/\Rps bx (λa=>Ow B ow a∨a=D) H2 out ys/\out.length<=i/\yV f (ds.drop i)=some rs/\out++rs=r,
  ⟨_,rfl,uF _,[],[],r,.new nD _,zM,.nil,kN _,q2,rfl⟩,?_⟩
 rintro i m H2 ⟨rfl,hi,ys,out,rs,g2,hD,ry,lo,qr,er⟩;have E2:=E1.inn k ix nD g2 ⟨_,hD,wY⟩;have gd:Gd (Ow B ow) H1 (Ow (λa=>Ow B ow a∨a=D) noO) H2:=(gD g2).trans ⟨λ_ _ h=>h,λa o h no=>⟨.inl h,λz=>z.elim no λ⟨_,z⟩=>z.elim⟩⟩;obtain⟨go,stop⟩:=wk.2 _ H2 gd E2.has λa o h m=>g2.ow a o h m
 by_cases lt:i<ds.length
 ·rw[QV lt,yV] at qr;obtain⟨o,q3,qr⟩:=kA.mp qr;obtain⟨rs',q4,qr⟩:=kA.mp qr
  cases qr;rw[←hf] at q3;obtain⟨ρ1,q5,q3⟩:=kA.mp q3;obtain⟨b,q6,q3⟩:=kA.mp q3;obtain⟨g,y⟩:=go i ds[i] (kK lt);refine .inr ⟨g,λx H3 yl=>?_⟩;obtain⟨g3,r3⟩:=y x H3 yl;refine⟨_,_,_,_,ds[i],ρ1,E2.sd g3,r3,q5,λσ4 H4 ow4 s4 E4=>⟨_,_,ow4,ρ1,b,E4,q6,λH5 g5=>?_⟩⟩;have sd4:∀{H':Hp},SD bx (Ow (λa=>Ow B ow a∨a=D) ow4) H4 H'->SD bx (λa=>Ow B ow a∨a=D) H2 H':=λg=>by
   have k:SD bx (λa=>Ow B ow a∨a=D) H3 H4:=⟨λ_=>E4.tbs,s4.tu,λa o h m=>(s4.st a o h λ⟨_,z⟩=>z.elim).1.1 m,λa o h _=>(s4.st a o h λ⟨_,z⟩=>z.elim).1.2⟩;exact(g3.less λa z=>.inl z).trans (k.trans (g.less λa z=>.inl z))
  have ls:∀{H':Hp},SD bx (λa=>Ow B ow a∨a=D) H2 H'->H' D=some (.lst ys):=λg=>g.ow D _ hD (.inr rfl);have lt':ys.length<sizeLine:=by have:=wk.1;have:=ry.len;omega
  cases b with
  |true=>
   rw[if_pos rfl] at q3;obtain⟨y',q7,q3⟩:=kA.mp q3
   cases q3;refine xX ⟨_,_,ow4,ρ1,y',E4.sd g5,q7,λv H6 g6 r6=>⟨ys,ls (sd4 (g5.trans g6)),lt',ds.length-(i+1),by omega,rfl,lt,ys++[v],out++[y'],rs',?_,zM,?_,by rw[kO,QX];omega,q4,by rw[←er,UN];rfl⟩⟩
   ·have g6':=(g2.trans ((sd4 (g5.trans g6)).less λa z=>.inl z));have ne:∀{a o},H1 a=some o->upd H6 D (.lst (ys++[v])) a=H6 a:=λha=>zp (yK ha nD);exact⟨λz t m=>JX (ls (sd4 (g5.trans g6))) (g6'.lt z t m),λa xs ha=>by rw[ne ha];exact g6'.tu a xs ha,λa o ha m=>by rw[ne ha];exact g6'.ow a o ha m,λa o ha m=>by rw[ne ha];exact g6'.st a o ha m⟩
   ·have hD6:=ls (sd4 (g5.trans g6));have ga:∀{O':Addr->Prop},(∀a,(Ow B ow a∨a=D)->O' a)->Gd O' H6 (λa=>Ow B ow a∨a=D) (upd H6 D (.lst (ys++[v]))):=λim=>⟨λa xs ha=>by rw[zp λz=>by subst z;rw[hD6] at ha;cases ha];exact ha,λa o ha no=>⟨.inl (by rw[zp λz=>no (im a (.inr z))];exact ha),λz=>no (im a z)⟩⟩
    exact(Rps.go ((sd4 (g5.trans g6)).gd.trans (ga λ_ z=>z)) _ _ ry).app (.cons (Rp.go (ga λ_ z=>.inl z) _ _ r6) .nil)
  |false=>
   rw[if_neg kZ] at q3
   cases q3;exact wy ⟨ds.length-(i+1),by omega,rfl,lt,ys,out,rs',g2.trans ((sd4 g5).less λa z=>.inl z),ls (sd4 g5),Rps.go (sd4 g5).gd _ _ ry,by omega,q4,er⟩
 ·have e:i=ds.length:=by omega
  subst e;rw[Bb,yV] at qr
  cases qr;rw[uo] at er;subst er;refine .inl ⟨stop,z D H2 (g1.trans g2) (g1.free nD) ⟨ys,hD,by have:=wk.1;have:=ry.len;omega,ry⟩⟩
section
variable{X:Cx}{bx:Bx}{pos:Pos}{scope dsc:Scope}{tg iter elt:Expr}{ifs:List Expr}{N P:List Str}{it:En->Option (List Dt)}{h:Dt->En->Option En}{c:En->Option Bool}{e:En->Option Dt}
def zY:En->Option Bool:=λ_=>some true
def yB:PIf X [] (dT bx zY):=λpins s σ H Q I⟨B,π,ow,ρ,b,E,q,z⟩=>pif_nil pins s σ H Q I (by cases q;exact z H (.refl _ _))
def wq{t:Expr}(h:PT X t (dT bx c)):PIf X [t] (dT bx c):=pif_one h
def yM(S:zA N P dsc)(own:List Str)(ix:List Nat)(hi:PI X tg iter (dIc bx it))(hb:wu X scope own ix tg ifs elt (dG bx h) (dT bx c) (dM bx false e))(S':xw dsc N scope own ix:=by exact jk rfl (by decide+kernel))(hc:X.calm=true:=by rfl)(hd:X.env.scope=dsc:=by rfl)(hN:X.N=N:=by rfl)
  (hs:∀x,uY iter X.env x=pure x:=by intro _;rfl):PE X (.ListComp elt [⟨tg,iter,ifs,0⟩] scope pos) (dF bx (zI own.length ix it h c e)):=(pe_cps S own ix hi hb S' hc hd hN hs).imp λ_ _ _ h=>tC' h
def VD{N:List Str}(hc:X.calm=true)(hd:X.env.scope=dsc)(hN:X.N=N){own:List Str}(S':xw dsc N scope own ix)(hi:PI X tg iter (dIc bx it))(hb:wu X scope own ix tg ifs elt (dG bx h) (dT bx c) (dM bx false e))(hs:∀x,uY iter X.env x=pure x:=by intro _;rfl):PE X (.ListComp elt [⟨tg,iter,ifs,0⟩] scope pos) (dF bx (zI own.length ix it h c e)):=(ZA hc hd hN S' hi hb hs).imp λ_ _ _ h=>tC' h
theorem wH(i:Nat){x:Str}(S:zA N P dsc)(own:List Str)(ix:List Nat)(hi:PI X tg iter (dIc bx it))(hb:wu X scope own ix tg ifs elt (dG bx h) (dT bx c) (dM bx false e))(S':xw dsc N scope own ix:=by exact jk rfl (by decide+kernel))(hc:X.calm=true:=by rfl)(hd:X.env.scope=dsc:=by rfl)(hN':X.N=N:=by rfl)(hx0:X.N[i]?=some x:=by rfl)(hx:Loc X.env.scope x:=by first|exact .inl rfl|exact .inr rfl)
  (hsw:uh (.ListComp elt [⟨tg,iter,ifs,0⟩] scope pos) (some (.Name x pos')) pos1.line X.env=pure true:=by rfl) (hf:X.fn x=true∨X.env.scope.names.lookup x=some .local:=by first|exact .inl rfl|exact .inr rfl|assumption)
  (hs:∀x,uY iter X.env x=pure x:=by intro _;rfl):PS X (.Assign [.Name x pos'] (.ListComp elt [⟨tg,iter,ifs,0⟩] scope pos) pos1) (dS bx (dSo i (zI own.length ix it h c e))):=(VS i S own ix hi hb S' hc hd hN' hx0 hx hsw hf hs).imp λD σ H⟨B,π,ow,ρ,o,E,q,z⟩=>by
 obtain⟨d,q1,q2⟩:=kA.mp q
 cases q2;exact tC' ⟨B,π,ow,ρ,d,E,q1,λp H1 g1 n r1=>let⟨E',s'⟩:=E.setO g1 n r1 r1.obj;z _ H1 _ s' E'⟩
end
def wE:Ou->Option Dt
 |.rt d _=>some d
 |.nx _=>some .none
 |_=>none
def dFn(n k:Nat)(f:En->Option Ou):List Dt->Option Dt:=λds=>if ds.length=k then(f (ds.map Sl.fz++uC (n-k) .un)).bind wE else none
variable{N:List Str}{B:Addr->Prop}{π:Nat->Addr}
theorem zk.init{bx:Bx}{H:Hp}{ds:List Dt}(bd:∀a,B a->∃o,H a=some o/\Okc a o)(ht:bx.lt H)(r:Rps bx B H ds vs):zk bx B π H (start N vs) (ds.map Sl.fz++uC (N.length-ds.length) .un) noO:=by
 have gd:Gd B H (Ow B noO) H:=⟨λ_ _ h=>h,λa o h no=>⟨.inl h,λz=>z.elim no λ⟨_,z⟩=>z.elim⟩⟩;have sl:∀{j s},(ds.map Sl.fz++uC (N.length-ds.length) Sl.un)[j]?=some s->s≠Sl.un->∃d,s=Sl.fz d/\ds[j]?=some d:=λ{j s} h nu=>by
  by_cases l:j<ds.length
  ·rw[pW (by rw[kL];exact l),kg,kK l] at h
   cases h;exact⟨_,rfl,kK l⟩
  ·rw[pJ (by rw[kL];omega),ul] at h
   split at h<;>cases h
   exact absurd rfl nu
 refine⟨by unfold start;simp[r.len],ht,bd,λj d h=>?_,λj io n d h=>?_,λj d h=>?_,λi j a h=>h.elim,λi a h=>h.elim⟩
 ·obtain⟨d',e,q⟩:=sl h (by intro z;cases z)
  cases e;obtain⟨x,ex,rx⟩:=r.get q;refine⟨x,?_,Rp.go gd _ _ rx⟩;unfold start;rw[pW (by rw[kL];exact(kM.mp ex).1),kg,ex]
  rfl
 ·obtain⟨d',e,q⟩:=sl h (by intro z;cases z);cases e
 ·obtain⟨d',e,q⟩:=sl h (by intro z;cases z);cases e
theorem qI{bx:Bx}{k:Nat}{f:En->Option Ou}{H:Hp}{E:XK}(h:spD bx (dFn N.length k f) vs H Q E):vs.length=k/\dS bx f {nx:=λ_ H'=>Q .non H',rt:=Q} (start N vs) H:=by
 obtain⟨B,ds,d,bd,ht,r,q,z⟩:=h;unfold dFn at q
 by_cases l:ds.length=k
 ·rw[if_pos l] at q;obtain⟨o,q1,q2⟩:=kA.mp q;refine⟨by rw[←r.len];exact l,B,λ_=>0,_,_,o,zk.init bd ht r,by rw[l];exact q1,?_⟩
  have fin:∀{H' ow' d' v},bx.lt H'->Stp B noO H ow' H'->Rp bx (Ow B ow') H' d' v->d'=d->Q v H':=λ{H' ow' d' v} lt s r e=>by
   subst e;exact z v H' ⟨λ_=>lt,s.tu,λa o h m=>(s.st a o h λ⟨_,z⟩=>z.elim).1.1 m,λa o h _=>(s.st a o h λ⟨_,z⟩=>z.elim).1.2⟩ (Rp.go ⟨λ_ _ h=>h,λa o h no=>⟨.inl h,λz=>no (.inl z)⟩⟩ _ _ r)
  cases o with
  |nx ρ'=>cases q2;exact λσ' H' ow' s E=>fin (ow':=ow') E.tbs s .non rfl
  |rt d' ρ'=>cases q2;exact λv σ' H' ow' s E r=>fin E.tbs s r rfl
  |_=>cases q2
 ·rw[if_neg l] at q;cases q
def Fun.okD{P:kW}{w:kq}{mg:Str->Option kC}{base:Heap}{bx:Bx}{x:Str}{st:Stmt}{f:Addr}{k:Nat}{fs:En->Option Ou}(F:Fun K x qual st f fd)(S:zA N ps (zo st))
  (hb:∀(cdv:kC)(A:pI)(outer:List Env)(s:kE)(H:Hp)(E:XK),zD k (A.deeper (QL qual (zo st) s.heap.objs.size f cdv))->PSs (ym CX0 P w K mg base N qual (zo st) f cdv A outer s H E).nox (ya st) (dS bx fs)):
  zw P w K mg base CX0 (k+1) f fd ps (spD bx (dFn N.length ps.length fs)):=
 F.ok S (λvs H Q E h=>(qI h).1) λcdv A outer s H vs Q E hr h=>⟨_,hb cdv A outer s H E hr,(qI h).2⟩
def vN(bx:Bx)(O:Addr->Prop)(H:Hp):List Dt->List V->Prop
 |[],xs=>xs=[]
 |d::ds,xs=>∃x r,xs=x::r/\RpT bx O H d x/\vN bx O H ds r
def dAr(bx:Bx)(f:En->Option (List Dt)):TA:=λσ H Q=>∃B π ow ρ ds,zk bx B π H σ ρ ow/\f ρ=some ds/\∀vs H',SD bx (Ow B ow) H H'->vN bx (Ow B ow) H' ds vs->Q vs H'
variable{r:List V->Hp->VK->Prop}{ρ:En}{ow:Os}
section
variable{X:Cx}{bx:Bx}{m:Bool}{e a b:Expr}{es:List Expr}{f g:En->Option Dt}{ga:En->Option (List Dt)}{pos p:Pos}
def yk:PA X [] (dAr bx zb):=Yd.imp λσ H Q⟨B,π,ow,ρ,d,E,q,z⟩=>by cases q;exact z _ H (.refl _ _) rfl
def yj(ha:PE X e (dM bx true f))(n:NS e)(hr:PA X es (dAr bx ga)):PA X (e::es) (dAr bx (za f ga)):=(vP ha hr (n _ _)).imp λσ H Q⟨B,π,ow,ρ,d,E,q,z⟩=>by
 obtain⟨a,qa,q⟩:=kA.mp q;obtain⟨as,qb,q⟩:=kA.mp q
 cases q;exact⟨B,π,ow,ρ,a,E,qa,λv H1 g1 r1=>⟨B,π,ow,ρ,as,E.sd g1,qb,λvs H2 g2 r2=>z _ H2 (g1.trans g2) ⟨v,vs,rfl,RpT.sd g2 r1,r2⟩⟩⟩
def Zn(r:List V->Hp->VK->Prop)(k:List Dt->Option Dt):Prop:=∀(bx:Bx)(O:Addr->Prop)(H:Hp)(ds:List Dt)(d:Dt)(vs:List V)(Q:VK),(∀a,O a->∃o,H a=some o/\Okc a o)->k ds=some d->vN bx O H ds vs->(∀u H',SD bx O H H'->Rp bx O H' d u->Q u H')->r vs H Q
def Zf(r:List V->Hp->VK->Prop)(k:List Dt->Option Dt):Prop:=∀(bx:Bx)(O:Addr->Prop)(H:Hp)(ds:List Dt)(d:Dt)(vs:List V)(Q:VK),(∀a,O a->∃o,H a=some o/\Okc a o)->k ds=some d->vN bx O H ds vs->(∀p H',SD bx O H H'->H p=none->Top bx true H' (Rps bx (λa=>O a∨a=p) H') d p->Q (.ref p) H')->r vs H Q
variable{k:List Dt->Option Dt}{H:Hp}
def zn(hk:Zn r k)(h:dM bx m (dCl k ga) σ H Q):tCB r (dAr bx ga) σ H Q:=by
 obtain⟨B,π,ow,ρ,d,E,q,z⟩:=h;obtain⟨ds,q1,q2⟩:=kA.mp q;exact⟨B,π,ow,ρ,ds,E,q1,λvs H1 g1 r1=>hk _ _ _ _ _ _ _ (E.sd g1).has q2 r1 λu H2 g2 r2=>z u H2 (g1.trans g2) (.of r2)⟩
def zf(hk:Zf r k)(h:dF bx (dCl k ga) σ H Q):tCB r (dAr bx ga) σ H Q:=by
 obtain⟨B,π,ow,ρ,d,E,q,z⟩:=h;obtain⟨ds,q1,q2⟩:=kA.mp q;exact⟨B,π,ow,ρ,ds,E,q1,λvs H1 g1 r1=>hk _ _ _ _ _ _ _ (E.sd g1).has q2 r1 λu H2 g2 n r2=>z u H2 (g1.trans g2) (g1.free n) r2⟩
variable{O:Addr->Prop}
def xu{bx:Bx}{a:Dt}(h:vN bx O H [a] vs):∃x,vs=[x]/\RpT bx O H a x:=by
 obtain⟨x,r,rfl,h1,h2⟩:=h
 cases h2;exact⟨x,rfl,h1⟩
def rt_two{bx:Bx}{a b:Dt}(h:vN bx O H [a,b] vs):∃x y,vs=[x,y]/\RpT bx O H a x/\RpT bx O H b y:=by
 obtain⟨x,r,rfl,h1,h2⟩:=h;obtain⟨y,rfl,h3⟩:=xu h2;exact⟨x,y,rfl,h1,h3⟩
def yN:List Dt->Option Dt
 |[.scr ns]=>some (.int ns.length)
 |[.list ds]=>some (.int ds.length)
 |[.tuple ds]=>some (.int ds.length)
 |_=>none
def kAbs:List Dt->Option Dt
 |[.int i]=>some (.int (if i<0 then-i else i))
 |_=>none
def vR(g:Int->Int->Int):List Dt->Option Dt
 |[.int i,.int j]=>some (.int (g i j))
 |_=>none
def jV:List Dt->Option Dt
 |[.list ds]=>some (.list ds)
 |[.tuple ds]=>some (.list ds)
 |_=>none
def wm(hg:Gl X "len")(hm:X.mg "len"=none)(ha:PA X (e::es) (dAr bx ga))(he:kJ (e::es) X.env=(false,eval e X.env)::kJ es X.env:=by rfl)(hpl:(pX pos (kJ es X.env)).any (·.1)=false:=by rfl):PE X (.Call (.Name "len" p) (e::es) [] pos) (dM bx m (dCl yN ga)):=(xS ze5 hg hm Zq ha (he:=he) (hpl:=hpl)).imp λ_ _ _ h=>zn (λbx O H ds d vs Q _ q r z=>by
  unfold yN at q
  split at q
  ·cases q;obtain⟨x,rfl,r'⟩:=xu r;have r':=r'.rp rfl;rw[Rp] at r';obtain⟨p,o,rfl,_,h,_⟩:=r';exact⟨p,_,rfl,.inl (.inl (.inr ⟨o,h⟩)),by rw[kL];exact z _ H (.refl _ _) .int⟩
  ·cases q;obtain⟨x,rfl,r'⟩:=xu r;obtain⟨p,xs,rfl,rd,_,rs⟩:=r'.lst;exact⟨p,xs,rfl,.inl (.of rd),by rw[←rs.len];exact z _ H (.refl _ _) .int⟩
  ·cases q;obtain⟨x,rfl,r'⟩:=xu r;obtain⟨p,xs,rfl,_,rd,_,rs⟩:=r'.tup;exact⟨p,xs,rfl,.inr (.of rd),by rw[←rs.len];exact z _ H (.refl _ _) .int⟩
  ·cases q) h
def WJ(hg:Gl X "abs")(hm:X.mg "abs"=none)(ha:PA X (e::es) (dAr bx ga))(he:kJ (e::es) X.env=(false,eval e X.env)::kJ es X.env:=by rfl)(hpl:(pX pos (kJ es X.env)).any (·.1)=false:=by rfl):PE X (.Call (.Name "abs" p) (e::es) [] pos) (dM bx m (dCl kAbs ga)):=(xS zcl hg hm bt_abs ha (he:=he) (hpl:=hpl)).imp λ_ _ _ h=>zn (λbx O H ds d vs Q _ q r z=>by
  unfold kAbs at q
  split at q
  ·cases q;obtain⟨x,rfl,r'⟩:=xu r;rw[r'.int];exact⟨_,rfl,z _ H (.refl _ _) .int⟩
  ·cases q) h
def zI22{g:Int->Int->Int}:Zn (λxs H Q=>∃i j,xs=[.int i,.int j]/\Q (.int (g i j)) H) (vR g):=λbx O H ds d vs Q _ q r z=>by
 unfold vR at q
 split at q
 ·cases q;obtain⟨x,y,rfl,r1,r2⟩:=rt_two r;rw[r1.int,r2.int];exact⟨_,_,rfl,z _ H (.refl _ _) .int⟩
 ·cases q
def de_max2(hc:X.calm=true)(hg:Gl X "max")(hm:X.mg "max"=none)(ha:PA X (e::es) (dAr bx ga))(he:kJ (e::es) X.env=(false,eval e X.env)::kJ es X.env:=by rfl)(hpl:(pX pos (kJ es X.env)).any (·.1)=false:=by rfl):PE X (.Call (.Name "max" p) (e::es) [] pos) (dM bx m (dCl (vR λi j=>if j>i then j else i) ga)):=(xS (zct hc) hg hm Zi ha (he:=he) (hpl:=hpl)).imp λ_ _ _ h=>zn zI22 h
def de_min2(hc:X.calm=true)(hg:Gl X "min")(hm:X.mg "min"=none)(ha:PA X (e::es) (dAr bx ga))(he:kJ (e::es) X.env=(false,eval e X.env)::kJ es X.env:=by rfl)(hpl:(pX pos (kJ es X.env)).any (·.1)=false:=by rfl):PE X (.Call (.Name "min" p) (e::es) [] pos) (dM bx m (dCl (vR λi j=>if j<i then j else i) ga)):=(xS (zf3 hc) hg hm bt_min ha (he:=he) (hpl:=hpl)).imp λ_ _ _ h=>zn zI22 h
variable{ds:List Dt}
def xD{bx:Bx}{p:Addr}(n:H p=none)(l:xs.length<=sizeLine)(r:Rps bx O H ds xs):Top bx true (upd H p (.lst xs)) (Rps bx (λa=>O a∨a=p) (upd H p (.lst xs))) (.list ds) p:=⟨xs,zM,l,Rps.go (Gd.newU n _) _ _ r⟩
def W9(hg:Gl X "list")(hm:X.mg "list"=none)(ha:PA X (e::es) (dAr bx ga))(he:kJ (e::es) X.env=(false,eval e X.env)::kJ es X.env:=by rfl)(hpl:(pX pos (kJ es X.env)).any (·.1)=false:=by rfl):PE X (.Call (.Name "list" p) (e::es) [] pos) (dF bx (dCl jV ga)):=(jo ze2 hg hm j4 ha (he:=he) (hpl:=hpl)).imp λ_ _ _ h=>zf (λbx O H ds d vs Q _ q r z=>by
  unfold jV at q
  split at q
  ·cases q;obtain⟨x,rfl,r'⟩:=xu r;obtain⟨p,xs,rfl,rd,l,rs⟩:=r'.lst;exact⟨p,xs,rfl,.inl (.of rd),λq n=>z q _ (.new n _) n (xD n l rs)⟩
  ·cases q;obtain⟨x,rfl,r'⟩:=xu r;obtain⟨p,xs,rfl,_,rd,l,rs⟩:=r'.tup;exact⟨p,xs,rfl,.inr (.of rd),λq n=>z q _ (.new n _) n (xD n l rs)⟩
  ·cases q) h
def rCatR:R2:=λx y H Q=>∃l b xs zs,x=.ref l/\y=.ref b/\Rd H l (.lst xs)/\Rd H b (.lst zs)/\xs.length+zs.length<=sizeLine/\∀p,H p=none->Q (.ref p) (upd H p (.lst (xs++zs)))
theorem op_catR:OpR X (Uv .Add) rCatR:=by
 intro pins s σ H x y v u Q I rx ry h;obtain⟨l,b,xs,zs,rfl,rfl,hH,hB,hz,q⟩:=h
 cases rx
 cases ry;obtain⟨z,its,n,r,e⟩:=hH.ok I.hok;obtain⟨z2,its2,n2,r2,e2⟩:=hB.ok I.hok;have hl:=r.length;have hl2:=r2.length;refine PySem.P.add_list e e2 ?_ (by rw[kh,kh];omega)
 have ea:its.toArray++its2.toArray=(its++its2).toArray:=by simp
 rw[ea];exact⟨.ref _,_,I.lnew (t':=s.toks) (r.append r2) (by rw[kO];omega),rfl,q _ I.fresh⟩
def yu:Dt->Dt->Option Dt
 |.list xs,.list ys=>if xs.length+ys.length<=sizeLine then some (.list (xs++ys)) else none
 |_,_=>none
def qC:Dt->Dt->Option Dt
 |.tuple (x::xs),.tuple ys=>if(x::xs).length+ys.length<=sizeLine then some (.tuple (x::xs++ys)) else none
 |_,_=>none
theorem ww(ha:PE X a (dM bx true f))(hb:PE X b (dM bx true g)):PE X (.BinOp a .Add b pos) (dF bx (d2 yu f g)):=(wv op_catR ha hb).imp λσ H Q⟨B,π,ow,ρ,d,E,q,z⟩=>by
 obtain⟨a,qa,q⟩:=kA.mp q;obtain⟨b,qb,q⟩:=kA.mp q;unfold yu at q
 split at q
 ·split at q
  ·rename_i l
   cases q;refine⟨B,π,ow,ρ,_,E,qa,λv H1 g1 r1=>⟨B,π,ow,ρ,_,E.sd g1,qb,λw H2 g2 r2=>?_⟩⟩;obtain⟨p,xs,rfl,rd,_,rs⟩:=((RpM.t r1).sd g2).lst;obtain⟨p',xs',rfl,rd',_,rs'⟩:=(RpM.t r2).lst;have l':xs.length+xs'.length<=sizeLine:=by rw[←rs.len,←rs'.len];exact l
   exact⟨p,p',xs,xs',rfl,rfl,.of rd,.of rd',l',λq n=>z q _ (g1.trans (g2.trans (.new n _))) (g1.free (g2.free n)) (xD n (by rw[kO];exact l') (rs.app rs'))⟩
  ·cases q
 ·cases q
theorem JL(ha:PE X a (dM bx true f))(hb:PE X b (dM bx true g)):PE X (.BinOp a .Add b pos) (dM bx m (d2 qC f g)):=(wv op_catT ha hb).imp λσ H Q⟨B,π,ow,ρ,d,E,q,z⟩=>by
 obtain⟨a,qa,q⟩:=kA.mp q;obtain⟨b,qb,q⟩:=kA.mp q;unfold qC at q
 split at q
 ·split at q
  ·rename_i x0 xs0 _ l
   cases q;refine⟨B,π,ow,ρ,_,E,qa,λv H1 g1 r1=>⟨B,π,ow,ρ,_,E.sd g1,qb,λw H2 g2 r2=>?_⟩⟩;obtain⟨p,xs,rfl,np,rd,lx,rs⟩:=((RpM.t r1).sd g2).tup;obtain⟨p',xs',rfl,_,rd',_,rs'⟩:=(RpM.t r2).tup;have l':xs.length+xs'.length<=sizeLine:=by rw[←rs.len,←rs'.len];exact l
   have ne:xs≠[]:=by rintro rfl;have:=rs.len;cases this
   refine⟨p,p',xs,xs',rfl,rfl,.of rd,.of rd',ne,l',λe=>z _ _ (g1.trans g2) (.of ?_),λ_ q n=>z _ _ (g1.trans (g2.trans (.new n _))) (.of ?_)⟩
   ·subst e;have:xs0=[]:=Ub (by rw[rs'.len];rfl)
    subst this;rw[uo,Rp];exact⟨p,xs,rfl,np,rd,lx,rs⟩
   ·rw[Rp];exact⟨q,_,rfl,(E.sd (g1.trans g2)).apart n,zM,by rw[kO];exact l',Rps.go (Gd.upd n _) _ _ (rs.app rs')⟩
  ·cases q
 ·cases q
def vd{α:Type}(xs:List α)(lo hi:Option Int):List α:=(xs.drop (HT.sIx xs.length 0 lo)).take (HT.sIx xs.length xs.length hi-HT.sIx xs.length 0 lo)
def dO(bx:Bx)(f:En->Option (Option Int)):TO:=λσ H Q=>∃B π ow ρ o,zk bx B π H σ ρ ow/\f ρ=some o/\∀H',SD bx (Ow B ow) H H'->Q o H'
def oN:En->Option (Option Int):=λ_=>some none
def asI:Dt->Option (Option Int)
 |.int i=>some (some i)
 |_=>none
def oS(f:En->Option Dt):En->Option (Option Int):=λρ=>(f ρ).bind asI
def PO.imp{t t':TO}{x:Option Expr}(h:PO X x t)(i:∀σ H Q,t' σ H Q->t σ H Q):PO X x t':=λpins s σ H Q I q=>h pins s σ H Q I (i _ _ _ q)
def jw:PO X none (dO bx oN):=po_none.imp λσ H Q⟨B,π,ow,ρ,o,E,q,z⟩=>by cases q;exact z H (.refl _ _)
theorem vp(h:PE X e (dM bx true f)):PO X (some e) (dO bx (oS f)):=(po_some h).imp λσ H Q⟨B,π,ow,ρ,o,E,q,z⟩=>by
 obtain⟨x,q1,q2⟩:=kA.mp q;refine⟨B,π,ow,ρ,x,E,q1,λv H1 g1 r1=>?_⟩
 cases x with
 |int y=>cases q2;exact⟨_,(RpM.t r1).int,z H1 g1⟩
 |_=>cases q2
def dSl(f:En->Option Dt)(lo hi:En->Option (Option Int)):En->Option Dt:=λρ=>(f ρ).bind λd=>(lo ρ).bind λl=>(hi ρ).bind λu=>(ofL d).bind λds=>some (.list (vd ds l u))
theorem vS{lo hi:Option Expr}{fl fh:En->Option (Option Int)}{p2:Pos}(he:PE X e (dM bx true f))(hl:PO X lo (dO bx fl))(hu:PO X hi (dO bx fh)):PE X (.Subscript e (.Slice lo hi none p2) pos) (dF bx (dSl f fl fh)):=(zex sl_list he hl hu).imp λσ H Q⟨B,π,ow,ρ,d,E,q,z⟩=>by
 obtain⟨d0,q1,q⟩:=kA.mp q;obtain⟨l,q2,q⟩:=kA.mp q;obtain⟨u,q3,q⟩:=kA.mp q;obtain⟨ds,q4,q⟩:=kA.mp q
 cases q
 cases d0 with
 |list ds'=>
  cases q4;refine⟨B,π,ow,ρ,_,E,q1,λv H1 g1 r1=>⟨B,π,ow,ρ,l,E.sd g1,q2,λH2 g2=>⟨B,π,ow,ρ,u,E.sd (g1.trans g2),q3,λH3 g3=>?_⟩⟩⟩;obtain⟨p,xs,rfl,rd,lx,rs⟩:=((RpM.t r1).sd (g2.trans g3)).lst;refine⟨p,xs,rfl,.of rd,λq n=>z q _ (g1.trans (g2.trans (g3.trans (.new n _)))) (g1.free (g2.free (g3.free n))) (xD n ?_ ?_)⟩
  ·unfold vG;rw[Qx,Qz];omega
  ·unfold vd vG;rw[rs.len];exact(rs.drop _).take _
 |_=>cases q4
def Ww{s:Sl}{o:Option Sl}(h:ofO s=some (io,ds))(e:o=some s):o=some (.ow io 1 (.list ds)):=by
 unfold ofO at h
 split at h<;>cases h
 exact e
variable{zs:List Dt}
def zk.lst{bx:Bx}{i:Nat}{ys:List V}{p:Addr}(E:zk bx B π H σ ρ ow)(h:ρ[i]?=some (.ow io 1 (.list ds)))(es:σ[i]?=some (some (.ref p)))(l:ys.length<=sizeLine)(r:Rps bx (Ow B ow) H zs ys):
  ∃xs,H p=some (.lst xs)/\Rps bx (Ow B ow) H ds xs/\∃ow',zk bx B π (upd H p (.lst ys)) σ (ρ.set i (.ow io 1 (.list zs))) ow'/\Stp B ow H ow' (upd H p (.lst ys)):=by
 obtain⟨p',e1,_,S,xs,hp,lx,rs⟩:=E.own i _ _ _ h;rw[es] at e1;cases e1;have np:∀{a o},H a=some o->¬ow i a->upd H p (.lst ys) a=some o:=λ{a o} ha n=>by rw[zp λz=>n ((S a).mpr z)];exact ha
 have tu:∀a xs,H a=some (.tup xs)->upd H p (.lst ys) a=some (.tup xs):=λa xs ha=>by rw[zp λz=>by subst z;rw[hp] at ha;cases ha];exact ha
 refine⟨xs,hp,rs,_,E.put (S:=λa=>a=p) h es (λa z=>.inl ((S a).mpr z)) (λa o=>np) tu (λa z=>by subst z;exact⟨_,zM,wY⟩) ⟨λa=>FL,ys,zM,l,Rps.go ⟨tu,λa o ha no=>⟨.inl (np ha λz=>no (.inr ⟨i,z⟩)),λz=>no ?_⟩⟩ _ _ r⟩⟩
 rcases z with z|⟨j,⟨_,z⟩|⟨_,z⟩⟩
 ·exact .inl z
 ·exact .inr ⟨i,(S a).mpr z⟩
 ·exact .inr ⟨j,z⟩
def zk.lstPut{bx:Bx}{i:Nat}{us:List V}{p:Addr}(E:zk bx B π H σ ρ ow)(h:ρ[i]?=some (.ow io 1 (.list ds)))(es:σ[i]?=some (some (.ref p)))(l:ds.length+zs.length<=sizeLine)(r:Rps bx (Ow B ow) H zs us):
  ∃xs,H p=some (.lst xs)/\xs.length+us.length<=sizeLine/\∃ow',zk bx B π (upd H p (.lst (xs++us))) σ (ρ.set i (.ow io 1 (.list (ds++zs)))) ow'/\Stp B ow H ow' (upd H p (.lst (xs++us))):=by
 obtain⟨p',e1,_,S,xs,hp,lx,rs⟩:=E.own i _ _ _ h;rw[es] at e1;cases e1;have l':xs.length+us.length<=sizeLine:=by rw[←rs.len,←r.len];exact l
 obtain⟨xs',hp',_,q⟩:=E.lst h es (ys:=xs++us) (zs:=ds++zs) (by rw[kO];exact l') (rs.app r)
 have:xs'=xs:=by rw[hp'] at hp;cases hp;rfl
 subst this;exact⟨xs',hp',l',q⟩
theorem qS(i:Nat){x:Str}{xp apos cpos:Pos}(hN:X.N[i]?=some x:=by rfl)(hv:Vis X.env.scope x:=by first|exact QZ rfl|exact uU (QZ rfl)|exact uU (uU rfl))(he:PE X e (dM bx false f))(n:NS e)(hd:(x==("__debug__":Str))=false:=by decide)(hcd:(x==("__classdict__":Str))=false:=by decide)
  (hbase:UO (.Name x xp) "append" X.env (eval (.Name x xp) X.env)=eval (.Name x xp) X.env:=by rfl)
  (hfew:((pX cpos (kJ (e::[]) X.env)).all (λx=> !x.1)&&(UL cpos (ux [] X.env)).all (λx=>x.1.isSome)
   &&decide ((e::([]:List Expr)).length+([]:List gI).length+(if([]:List gI).isEmpty then 0 else 1)<30))=true:=by rfl)
  (hline:(apos.endLine==cpos.line)=true:=by rfl) (hs:kJ (e::[]) X.env=(false,eval e X.env)::kJ [] X.env:=by rfl) (hplain:(pX cpos (kJ [] X.env)).any (·.1)=false:=by rfl)
  (hsw:uh (.Call (.Attribute (.Name x xp) "append" apos) [e] [] cpos) none pos.line X.env=pure false:=by rfl):
  PS X (.Expr (.Call (.Attribute (.Name x xp) "append" apos) [e] [] cpos) pos) (dS bx (dAp i f)):=
 (wz (jO Qj gF gG qK (yX hN hv hd hcd) (pa1 he n) hbase hfew hline hs hplain) hsw).imp λD σ H⟨B,π,ow,ρ,o,E,q,z⟩=>by
 obtain⟨d,q1,q⟩:=kA.mp q;obtain⟨⟨io,ds⟩,q2,q⟩:=kA.mp q;obtain⟨s,q3,q2⟩:=kA.mp q2;have q3:=Ww q2 q3
 by_cases l:ds.length<sizeLine
 ·rw[if_pos l] at q
  cases q;obtain⟨p,es,_,r⟩:=E.own i _ _ _ q3;obtain⟨_,xs,hp,_,_⟩:=id r;refine⟨.ref p,es,.inl ⟨rfl,xs,.of hp⟩,B,π,ow,ρ,d,E,q1,λv H1 g1 r1=>?_⟩;obtain⟨xs',hp',l',ow',E2,s2⟩:=(E.sd g1).lstPut (zs:=[d]) (us:=[v]) q3 es (by rw[QX];omega) (.cons r1 .nil)
  exact⟨p,xs',v,rfl,rfl,hp',by rw[QX] at l';omega,z _ _ _ ((Stp.of g1).trans s2) E2⟩
 ·rw[if_neg l] at q;cases q
end
def whD(fg:List Nat)(c:En->Option Bool)(b:En->Option Ou):Nat->En->Option Ou
 |0,_=>none
 |n+1,ρ=>(c ρ).bind λt=>if t=true then(b ρ).bind λo=>match o with
   |.nx ρ2=>whD fg c b n (fgt fg ρ2)
   |.ct ρ2=>whD fg c b n (fgt fg ρ2)
   |.bk ρ2=>some (.nx ρ2)
   |.rt d ρ'=>some (.rt d ρ')
   |.ex=>some .ex
  else some (.nx ρ)
theorem YY{fg:List Nat}{c:En->Option Bool}{b:En->Option Ou}:∀{n:Nat}{ρ:En}{o:Ou},whD fg c b n ρ=some o->whD fg c b (n+1) ρ=some o
 |0,ρ,o,h=>by cases h
 |n+1,ρ,o,h=>by
  rw[whD] at h⊢;obtain⟨t,q1,h⟩:=kA.mp h;rw[q1];show(if t=true then _ else _)=_
  cases t with
  |false=>exact h
  |true=>
   rw[if_pos rfl] at h⊢;obtain⟨o1,q2,h⟩:=kA.mp h;rw[q2]
   cases o1 with
   |nx ρ2=>exact YY h
   |ct ρ2=>exact YY h
   |bk ρ2=>exact h
   |rt d _=>exact h
   |ex=>exact h
theorem X1{fg:List Nat}{c:En->Option Bool}{b:En->Option Ou}{ρ:En}{o:Ou}{n:Nat}(h:whD fg c b n ρ=some o):∀k,whD fg c b (n+k) ρ=some o
 |0=>h
 |k+1=>YY (X1 h k)
open Classical in
noncomputable def vw(fg:List Nat)(c:En->Option Bool)(b:En->Option Ou):En->Option Ou:=λρ=>if h:∃n o,whD fg c b n ρ=some o then some h.choose_spec.choose else none
variable{b:En->Option Ou}{c:En->Option Bool}{fg:List Nat}
def zf1{o:Ou}(h:whD fg c b n ρ=some o):vw fg c b ρ=some o:=by
 have e:∃n o,whD fg c b n ρ=some o:=⟨n,o,h⟩;unfold vw;rw[dif_pos e];have h2:=e.choose_spec.choose_spec;have h3:=X1 h e.choose;have h4:=X1 h2 n;rw[FK,h3] at h4;exact h4.symm
theorem zb0{o:Ou}(h:vw fg c b ρ=some o):∃n,whD fg c b n ρ=some o:=by
 unfold vw at h
 split at h
 ·rename_i e;cases h;exact⟨_,e.choose_spec.choose_spec⟩
 ·cases h
section
variable{X:Cx}{bx:Bx}{pos:Pos}{e a b:Expr}{es:List Expr}{f g:En->Option Dt}{ga:En->Option (List Dt)}{fs gs:En->Option Ou}{i:Nat}
theorem zd0(fg:List Nat){t:Expr}(hp:Do (model X.prog X.w) X.A X.env X.xe)(hc:PT X t (dT bx c))(hb:PSs X body (dS bx fs)):PS X (.While t body [] pos) (dS bx (vw fg c fs)):=(Wp hp hc hb).imp λD σ H⟨B,π,ow,ρ,o,E,q,z⟩=>by
 obtain⟨n,q⟩:=zb0 q;refine⟨λm σ' H'=>∃ow' ρ',Stp B ow H ow' H'/\zk bx B π H' σ' ρ' ow'/\whD fg c fs m ρ'=some o,⟨n,ow,ρ,.refl,E,q⟩,?_⟩;rintro m σ' H' ⟨ow',ρ',s',E',q'⟩
 cases m with
 |zero=>cases q'
 |succ m=>
  rw[whD] at q';obtain⟨t,q1,q'⟩:=kA.mp q';refine⟨B,π,ow',ρ',t,E',q1,λH1 g1=>?_⟩;have z1:=z.step (s'.trans (.of g1));have E1:=E'.sd g1
  cases t with
  |false=>
   rw[if_neg kZ] at q'
   cases q';exact wy (z1 σ' H1 ow' .refl E1)
  |true=>
   rw[if_pos rfl] at q';obtain⟨o1,q2,q'⟩:=kA.mp q';refine xX ⟨λσ2 H2=>∃ow' ρ',Stp B ow H ow' H2/\zk bx B π H2 σ2 ρ' ow'/\whD fg c fs m ρ'=some o,λσ2 H2 w=>⟨m,hV _,w⟩,B,π,ow',ρ',o1,E1,q2,?_⟩;have s1:=s'.trans (Stp.of g1)
   cases o1 with
   |nx ρ2=>exact λσ4 H4 ow4 s4 E4=>let⟨ow5,E5,s5⟩:=E4.fgt fg;⟨ow5,_,s1.trans (s4.trans s5),E5,q'⟩
   |ct ρ2=>exact λσ4 H4 ow4 s4 E4=>let⟨ow5,E5,s5⟩:=E4.fgt fg;⟨ow5,_,s1.trans (s4.trans s5),E5,q'⟩
   |bk ρ2=>cases q';exact z1
   |rt d _=>cases q';exact z1
   |ex=>cases q';exact z1
structure Mt1(X:Cx)(x:Str)(name:Str)(e:Expr)(xp apos cpos pos:Pos):Prop where
 vis:Vis X.env.scope x
 dbg:(x==("__debug__":Str))=false
 cls:(x==("__classdict__":Str))=false
 base:UO (.Name x xp) name X.env (eval (.Name x xp) X.env)=eval (.Name x xp) X.env
 few:((pX cpos (kJ (e::[]) X.env)).all (λx=> !x.1)&&(UL cpos (ux [] X.env)).all (λx=>x.1.isSome)
   &&decide ((e::([]:List Expr)).length+([]:List gI).length+(if([]:List gI).isEmpty then 0 else 1)<30))=true
 line:(apos.endLine==cpos.line)=true
 star:kJ (e::[]) X.env=(false,eval e X.env)::kJ [] X.env
 plain:(pX cpos (kJ [] X.env)).any (·.1)=false
 swaps:uh (.Call (.Attribute (.Name x xp) name apos) [e] [] cpos) none pos.line X.env=pure false
def dEx(i:Nat)(g:En->Option (List Dt)):En->Option Ou:=λρ=>(g ρ).bind λzs=>((ρ[i]?).bind ofO).bind λx=>if x.2.length+zs.length<=sizeLine then some (.nx (ρ.set i (.ow x.1 1 (.list (x.2++zs))))) else none
def rExtR:V->List V->Hp->VK->Prop:=λx vs H Q=>∃l b xs zs,x=.ref l/\vs=[.ref b]/\H l=some (.lst xs)/\Rd H b (.lst zs)/\xs.length+zs.length<=sizeLine/\Q .non (upd H l (.lst (xs++zs)))
theorem mt_extR:MtM X "list.extend" rExtR:=by
 intro pins s σ H x vs v us Q I rx rv h;obtain⟨l,b,xs,zs,rfl,rfl,hH,hB,hz,q⟩:=h
 cases rx;obtain⟨u,rfl,ru⟩:=rv.one
 cases ru;obtain⟨z,its,n,r,hl,e⟩:=I.lstM hH;obtain⟨z2,its2,n2,r2,e2⟩:=hB.ok I.hok;have hl2:=r2.length;have hsz:its.toArray.size+its2.toArray.size<=sizeLine:=by rw[kh,kh];omega
 have hlong:¬(!its.toArray.isEmpty&&Qd (its.toArray.size+its2.toArray.size))=true:=by
  rw[VV hsz,CN];exact kZ
 refine DF F.slot_list_extend ⟨_,e,rfl⟩ F.entry_list_extend (F.args_list_extend_2 _ _)
  (AutoSeq1.list_extend_list_list_0 l its.toArray n b its2.toArray n2 hlong (by rw[kh];omega) (by omega)) ⟨e,e2,?_⟩
 refine⟨.non,_,I.lset (its':=its++its2) hH e (by simp) (r.append r2) ?_,rfl,q⟩
 rw[kO];omega
def ext{r:V->List V->Hp->VK->Prop}{D:Ends}{H:Hp}{of:Dt->Option (List Dt)}(hr:∀{O H l d zs xs v Q},of d=some zs->RpT bx O H d v->H l=some (.lst xs)->xs.length+zs.length<=sizeLine->(∀us,Rps bx O H zs us->Q V.non (upd H l (.lst (xs++us))))->r (.ref l) [v] H Q)
  (h:dS bx (dEx i λρ=>(f ρ).bind of) D σ H):X4 (tBM X.K "list" r (yW i) (wA (dM bx true f) vm)) D σ H:=by
 obtain⟨B,π,ow,ρ,o,E,q,z⟩:=h;obtain⟨zs,q1,q⟩:=kA.mp q;obtain⟨d,q1,q4⟩:=kA.mp q1;obtain⟨⟨io,ds⟩,q2,q⟩:=kA.mp q;obtain⟨s,q3,q2⟩:=kA.mp q2;have q3:=Ww q2 q3
 by_cases l:ds.length+zs.length<=sizeLine
 ·rw[if_pos l] at q
  cases q;obtain⟨p,es,_,r⟩:=E.own i _ _ _ q3;obtain⟨_,xs,hp,_,_⟩:=id r;refine⟨.ref p,es,.inl ⟨rfl,xs,.of hp⟩,B,π,ow,ρ,d,E,q1,λv H1 g1 r1=>?_⟩;have E1:=E.sd g1;obtain⟨p',e1,_,_,xs',hp',_,rs⟩:=E1.own i _ _ _ q3;rw[es] at e1;cases e1;refine hr q4 (RpM.t r1) hp' (by rw[←rs.len];exact l) λus ru=>?_
  obtain⟨xs2,hp2,_,ow',E2,s2⟩:=E1.lstPut (zs:=zs) (us:=us) q3 es l ru;rw[hp'] at hp2;cases hp2;exact z _ _ _ ((Stp.of g1).trans s2) E2
 ·rw[if_neg l] at q;cases q
variable{apos cpos:Pos}
theorem X7(i:Nat){x:Str}{xp:Pos}(he:PE X e (dM bx true f))(n:NS e)(hN:X.N[i]?=some x:=by rfl)(m:Mt1 X x "extend" e xp apos cpos pos:=by exact⟨by first|exact .inl rfl|exact .inr (.inl rfl)|exact .inr (.inr rfl),by decide,by decide,rfl,rfl,rfl,rfl,rfl,rfl⟩):PS X (.Expr (.Call (.Attribute (.Name x xp) "extend" apos) [e] [] cpos) pos) (dS bx (dEx i (iL f))):=
 (wz (jO Qj gE BN mt_extR (yX hN m.vis m.dbg m.cls) (pa1 he n) m.base m.few m.line m.star m.plain) m.swaps).imp λD σ H h=>ext (of:=ofL) (λ{O H l d zs xs v Q} q r hl lz z=>by
  cases d with
  |list ds=>cases q;obtain⟨p,us,rfl,rd,_,rs⟩:=r.lst;exact⟨l,p,xs,us,rfl,rfl,hl,.of rd,by rw[←rs.len];exact lz,z us rs⟩
  |_=>cases q) h
theorem Vd(i:Nat){x:Str}{xp:Pos}(he:PE X e (dM bx true f))(n:NS e)(hN:X.N[i]?=some x:=by rfl)(m:Mt1 X x "extend" e xp apos cpos pos:=by exact⟨by first|exact .inl rfl|exact .inr (.inl rfl)|exact .inr (.inr rfl),by decide,by decide,rfl,rfl,rfl,rfl,rfl,rfl⟩):PS X (.Expr (.Call (.Attribute (.Name x xp) "extend" apos) [e] [] cpos) pos) (dS bx (dEx i (iT f))):=
 (wz (jO Qj gE BN mt_extT (yX hN m.vis m.dbg m.cls) (pa1 he n) m.base m.few m.line m.star m.plain) m.swaps).imp λD σ H h=>ext (of:=ofT) (λ{O H l d zs xs v Q} q r hl lz z=>by
  cases d with
  |tuple ds=>
   cases q;obtain⟨p,us,rfl,_,rd,_,rs⟩:=r.tup;exact⟨l,p,xs,us,rfl,rfl,hl,rd,by rw[←rs.len];exact lz,z us rs⟩
  |_=>cases q) h
end
def vL:Dt->Option Key
 |.int i=>some (.inl i)
 |.str x=>some (.inr x)
 |_=>none
def keyL:List Dt->Option (List Key)
 |[]=>some []
 |d::ds=>(vL d).bind λk=>(keyL ds).bind λks=>some (k::ks)
def vi:Dt->Option (List Key)
 |.tuple ds=>keyL ds
 |_=>none
def YI:List Dt->Option K2
 |[]=>some []
 |d::ds=>(vi d).bind λk=>(YI ds).bind λks=>some (k::ks)
def nKey:Dt->Option K2
 |.tuple ds=>YI ds
 |_=>none
def kD:Key->Dt
 |.inl i=>.int i
 |.inr x=>.str x
def tkD(k:List Key):Dt:=.tuple (k.map kD)
section
variable{bx:Bx}{O:Addr->Prop}{H:Hp}{d:Dt}{v:V}
theorem je{k:Key}(e:vL d=some k)(r:RpT bx O H d v):v=kV k:=by
 cases d with
 |int i=>cases e;exact r.int
 |str x=>cases e;exact r.str
 |_=>cases e
theorem WL:∀{ds:List Dt}{xs:List V}{k:List Key},keyL ds=some k->Rps bx O H ds xs->xs=k.map kV
 |[],xs,k,e,r=>by cases e;rw[Rps] at r;exact r
 |d::ds,xs,k,e,r=>by
  obtain⟨k1,q1,e⟩:=kA.mp e;obtain⟨k2,q2,e⟩:=kA.mp e
  cases e;rw[Rps] at r;obtain⟨x,r',rfl,h1,h2⟩:=r;rw[je q1 (.of h1),WL q2 h2];rfl
theorem vg{k:List Key}(e:vi d=some k)(r:RpT bx O H d v):∃b,v=.ref b/\H b=some (.tup (k.map kV)):=by
 cases d with
 |tuple ds=>obtain⟨p,xs,rfl,_,h,_,rs⟩:=r.tup;exact⟨p,rfl,by rw[←WL e rs];exact h⟩
 |_=>cases e
theorem qQ:∀{k:List Key},Rps bx O H (k.map kD) (k.map kV)
 |[]=>.nil
 |.inl i::k=>.cons .int qQ
 |.inr x::k=>.cons .str qQ
def ZY{b:Addr}{k:List Key}(no:∀a,O a->∃o,H a=some o/\Okc a o)(h:H b=some (.tup (k.map kV)))(l:k.length<=sizeLine):Rp bx O H (tkD k) (.ref b):=by
 unfold tkD;rw[Rp];refine⟨b,_,rfl,λz=>?_,h,by rw[kL];exact l,qQ⟩
 obtain⟨o,e,n⟩:=no b z;rw[h] at e;cases e;exact n.2.1 _ rfl
end
variable{v:V}
section
variable{κ α:Type}[DecidableEq κ]
def lkp:List κ->List α->κ->Option α
 |k'::ks,a::as,k=>if k'=k then some a else lkp ks as k
 |_,_,_=>none
def wN(ks:List κ)(k:κ):Bool:=decide (k∈ks)
def pK(ks:List κ)(k:κ):List κ:=if k∈ks then ks else ks++[k]
def pV(ks:List κ)(as:List α)(k:κ)(a:α):List α:=if k∈ks then Bo (λk' b=>if k'=k then a else b) ks as else as++[a]
theorem wI:∀{ks:List κ}{xs:List V}{k:κ},xl (ks.zip xs) k=lkp ks xs k
 |[],xs,k=>by rw[BC];rfl
 |k'::ks,[],k=>by rw[Ar];rfl
 |k'::ks,x::xs,k=>by
  rw[uc,lkp];unfold xl;rw[ur]
  by_cases e:k'=k
  ·rw[if_pos e];simp[e]
  ·rw[if_neg e,←wI];simp[e,xl]
theorem qg:∀{ks:List κ}{as:List α}{k:κ},ks.length=as.length->(lkp ks as k).isSome=decide (k∈ks)
 |[],[],k,_=>rfl
 |k'::ks,a::as,k,h=>by
  rw[lkp]
  by_cases e:k'=k
  ·rw[if_pos e];simp[e]
  ·rw[if_neg e,qg (by simpa using h)]
   have:¬k=k':=λz=>e z.symm
   simp[this]
theorem qP{bx:Bx}{O:Addr->Prop}{H:Hp}:∀{ks:List κ}{ds:List Dt}{xs:List V}{k:κ}{d:Dt},Rps bx O H ds xs->lkp ks ds k=some d->∃x,lkp ks xs k=some x/\Rp bx O H d x
 |[],ds,xs,k,d,r,e=>by cases ds<;>cases e
 |k'::ks,[],xs,k,d,r,e=>by cases e
 |k'::ks,d'::ds,xs,k,d,r,e=>by
  rw[Rps] at r;obtain⟨x,r',rfl,h1,h2⟩:=r;rw[lkp] at e⊢
  by_cases c:k'=k
  ·rw[if_pos c] at e⊢;cases e;exact⟨x,rfl,h1⟩
  ·rw[if_neg c] at e⊢;exact qP h2 e
def any_mem{ks:List κ}{k:κ}(l:ks.length=xs.length):((ks.zip xs).any λkv=>decide (kv.1=k))=decide (k∈ks):=by
 rw[←qg (as:=xs) l,←wI];unfold xl;rw[Us,UI,EG,List.find?_isSome]
theorem j8{ks:List κ}{k:κ}(l:ks.length=xs.length):xq (ks.zip xs) k v=(pK ks k).zip (pV ks xs k v):=by
 unfold xq pK pV;rw[any_mem l]
 by_cases m:k∈ks
 ·rw[if_pos (decide_eq_true m),if_pos m,if_pos m];clear m
  induction ks generalizing xs with
  |nil=>cases xs<;>rfl
  |cons k' ks ih=>cases xs with
   |nil=>rfl
   |cons x xs=>
    rw[uc,kY,gw,uc,ih (by simpa using l)]
    by_cases c:k'=k
    ·rw[if_pos c,if_pos c]
    ·rw[if_neg c,if_neg c]
 ·rw[if_neg (by simpa using m),if_neg m,if_neg m,List.zip_append l];rfl
theorem wC{ks:List κ}{as:List α}{k:κ}{a:α}(l:ks.length=as.length):(pK ks k).length=(pV ks as k a).length:=by
 unfold pK pV
 by_cases m:k∈ks
 ·rw[if_pos m,if_pos m,AX];omega
 ·rw[if_neg m,if_neg m,kO,kO];simp[l]
theorem Yc{ks:List κ}{k:κ}:(pK ks k).length<=ks.length+1:=by
 unfold pK
 by_cases m:k∈ks
 ·rw[if_pos m];omega
 ·rw[if_neg m,kO];exact kN _
theorem qo{bx:Bx}{O:Addr->Prop}{H:Hp}{ks:List κ}{ds:List Dt}{k:κ}{d:Dt}{x:V}(r:Rps bx O H ds xs)(h:Rp bx O H d x):Rps bx O H (pV ks ds k d) (pV ks xs k x):=by
 unfold pV
 by_cases m:k∈ks
 ·rw[if_pos m,if_pos m];clear m
  induction ks generalizing ds xs with
  |nil=>exact .nil
  |cons k' ks ih=>cases ds with
   |nil=>rw[Rps] at r;subst r;exact .nil
   |cons d' ds=>
    rw[Rps] at r;obtain⟨x',r',rfl,h1,h2⟩:=r;rw[gw,gw]
    by_cases c:k'=k
    ·rw[if_pos c,if_pos c];exact .cons h (ih h2)
    ·rw[if_neg c,if_neg c];exact .cons h1 (ih h2)
 ·rw[if_neg m,if_neg m];exact r.app (.cons h .nil)
end
variable{x:Dt}{c:Bool}
section
variable{bx:Bx}{O:Addr->Prop}{H:Hp}{d k:Dt}{v w:V}{p:Addr}
def kGet:Dt->Dt->Option Dt
 |.dK ks ds,k=>(vL k).bind (lkp ks ds)
 |.dT ks ds,k=>(vi k).bind (lkp ks ds)
 |_,_=>none
def jD:Dt->Dt->Option Bool
 |.dK ks _,k=>(vL k).bind λk=>some (wN ks k)
 |.dT ks _,k=>(vi k).bind λk=>some (wN ks k)
 |_,_=>none
theorem VG(t:Top bx false H R d p)(e:jD d k=some c)(r:RpT bx O H k w):∃o,xH H p w o/\o.isSome=c:=by
 cases d with
 |dK ks ds=>
  obtain⟨xs,h,l,_,_⟩:=t;obtain⟨k',q,e⟩:=kA.mp e
  cases e;exact⟨_,.inl ⟨_,k',h.rd,je q r,rfl⟩,by rw[wI,qg l];rfl⟩
 |dT ks ds=>
  obtain⟨xs,h,l,_,_⟩:=t;obtain⟨k',q,e⟩:=kA.mp e
  cases e;obtain⟨b,rfl,hb⟩:=vg q r;exact⟨_,.inr ⟨_,k',b,h.rd,rfl,hb,rfl⟩,by rw[wI,qg l];rfl⟩
 |_=>cases e
theorem top_val(t:Top bx false H (Rps bx O H) d p)(e:kGet d k=some x)(r:RpT bx O H k w):∃u,xH H p w (some u)/\Rp bx O H x u:=by
 cases d with
 |dK ks ds=>
  obtain⟨xs,h,l,_,rs⟩:=t;obtain⟨k',q,e⟩:=kA.mp e;obtain⟨u,eu,ru⟩:=qP rs e;exact⟨u,.inl ⟨_,k',h.rd,je q r,by rw[wI,eu]⟩,ru⟩
 |dT ks ds=>
  obtain⟨xs,h,l,_,rs⟩:=t;obtain⟨k',q,e⟩:=kA.mp e;obtain⟨u,eu,ru⟩:=qP rs e;obtain⟨b,rfl,hb⟩:=vg q r;exact⟨u,.inr ⟨_,k',b,h.rd,rfl,hb,by rw[wI,eu]⟩,ru⟩
 |_=>cases e
def kHas_C(e:jD d k=some c):isC d=true:=by cases d<;>first|rfl|cases e
def kGet_C(e:kGet d k=some x):isC d=true:=by cases d<;>first|rfl|cases e
end
def xN(neg:Bool)(f g:En->Option Dt):En->Option Dt:=λρ=>(f ρ).bind λk=>(g ρ).bind λd=>(jD d k).bind λc=>some (.bool (if neg=true then !c else c))
def y0(f g:En->Option Dt):En->Option Dt:=λρ=>(f ρ).bind λd=>(g ρ).bind (kGet d)
variable{d:Dt}{neg:Bool}
section
variable{X:Cx}{bx:Bx}{m:Bool}{e a b o i:Expr}{es:List Expr}{f g z:En->Option Dt}{pos apos cpos:Pos}
def qx:PE X (.Dict [] [] pos) (dF bx (dC (.dK [] []))):=zci.imp λσ H Q⟨B,π,ow,ρ,d,E,q,z⟩=>by
 cases q;exact λp n=>z p _ (.new n _) n ⟨[],.inl zM,rfl,uF _,.nil⟩
def qv:PE X (.Dict [] [] pos) (dF bx (dC (.dT [] []))):=zd9.imp λσ H Q⟨B,π,ow,ρ,d,E,q,z⟩=>by
 cases q;exact λp n=>z p _ (.new n _) n ⟨[],.inl zM,rfl,uF _,.nil⟩
def xo(hu:X.A.units+1<cLine)(ho:PE X o (dM bx true f))(hi:PE X i (dM bx true g))(hs:vQ i:=by exact λ_ _=>rfl):PE X (.Subscript o i pos) (dM bx m (y0 f g)):=(J4 hu ho hi hs).imp λσ H Q⟨B,π,ow,ρ,x,E,q,z⟩=>by
 obtain⟨d,q1,q⟩:=kA.mp q;obtain⟨k,q2,q⟩:=kA.mp q;refine⟨B,π,ow,ρ,d,E,q1,λv H1 g1 r1=>⟨B,π,ow,ρ,k,E.sd g1,q2,λw H2 g2 r2=>?_⟩⟩;obtain⟨p,rfl,t⟩:=((RpM.t r1).sd g2).top (kGet_C q);obtain⟨u,hg,ru⟩:=top_val t q (RpM.t r2);exact⟨p,u,rfl,hg,z u H2 (g1.trans g2) (.of ru)⟩
variable{H:Hp}
def din{t:TE}(h:dM bx m (xN neg f g) σ H Q):dM bx true f σ H λy H1=>dM bx true g σ H1 λx H2=>∃a o,x=.ref a/\xH H2 a y o/\Q (.bl (if neg=true then !o.isSome else o.isSome)) H2:=by
 obtain⟨B,π,ow,ρ,x,E,q,z⟩:=h;obtain⟨k,q1,q⟩:=kA.mp q;obtain⟨d,q2,q⟩:=kA.mp q;obtain⟨c,q3,q⟩:=kA.mp q
 cases q;refine⟨B,π,ow,ρ,k,E,q1,λv H1 g1 r1=>⟨B,π,ow,ρ,d,E.sd g1,q2,λw H2 g2 r2=>?_⟩⟩;obtain⟨p,rfl,t⟩:=(RpM.t r2).top (kHas_C q3);obtain⟨o,hg,e⟩:=VG t q3 ((RpM.t r1).sd g2);exact⟨p,o,rfl,hg,by rw[e];exact z _ H2 (g1.trans g2) (.of .bl)⟩
theorem din_b{Q:Bool->Hp->Prop}(h:dT bx (dB (xN neg f g)) σ H Q):dM bx true (xN neg f g) σ H λx H1=>∃c,x=.bl c/\Q c H1:=by
 obtain⟨B,π,ow,ρ,c,E,q,z⟩:=h;obtain⟨x,q1,q2⟩:=kA.mp q;refine⟨B,π,ow,ρ,x,E,q1,λv H1 g1 r1=>?_⟩
 cases x with
 |bool y=>cases q2;exact⟨_,(RpM.t r1).bl,z H1 g1⟩
 |_=>cases q2
def ZL(hu:X.A.units+1<cLine)(hi:PE X i (dM bx true f))(ho:PE X o (dM bx true g))(h1:um .In o=false:=by rfl):PT X (.Compare i [.In] [o] pos) (dT bx (dB (xN false f g))):=(XQ (pc_din hu hi ho) h1).imp λσ H Q h=>din (t:=tC .non) (din_b h)
def dt_dni(hu:X.A.units+1<cLine)(hi:PE X i (dM bx true f))(ho:PE X o (dM bx true g))(h1:um .NotIn o=false:=by rfl):PT X (.Compare i [.NotIn] [o] pos) (dT bx (dB (xN true f g))):=(XQ (WX hu hi ho) h1).imp λσ H Q h=>din (t:=tC .non) (din_b h)
def putD:Dt->Dt->Dt->Option Dt
 |.dK ks ds,k,v=>(vL k).bind λk=>if ks.length<sizeLine then some (.dK (pK ks k) (pV ks ds k v)) else none
 |.dT ks ds,k,v=>(vi k).bind λk=>if ks.length<sizeLine then some (.dT (pK ks k) (pV ks ds k v)) else none
 |_,_,_=>none
def ofW:Sl->Option (Bool×Dt)
 |.ow io n d=>if n=1 then some (io,d) else none
 |_=>none
theorem ofW_at{s:Sl}{o:Option Sl}(h:ofW s=some (io,d))(e:o=some s):o=some (.ow io 1 d):=by
 cases s with
 |ow io' n d'=>
  unfold ofW at h;dsimp only at h
  split at h
  ·subst ‹n=1›;cases h;exact e
  ·cases h
 |_=>cases h
def wQ(i:Nat)(fk fv:En->Option Dt):En->Option Ou:=λρ=>(fv ρ).bind λv=>(fk ρ).bind λk=>((ρ[i]?).bind ofW).bind λx=>(putD x.2 k v).bind λd=>some (.nx (ρ.set i (.ow x.1 1 d)))
def zk.own1{i:Nat}{p:Addr}{ds:List Dt}(E:zk bx B π H σ ρ ow)(h:ρ[i]?=some (.ow io 1 d0))(es:σ[i]?=some (some (.ref p)))(ku:Okc p u)(r:Rps bx (Ow B ow) H ds xs)(mk:∀{O':Addr->Prop}{H':Hp},H' p=some u->Rps bx O' H' ds xs->Top bx true H' (Rps bx O' H') d p):
  ∃ow',zk bx B π (upd H p u) σ (ρ.set i (.ow io 1 d)) ow'/\Stp B ow H ow' (upd H p u):=by
 obtain⟨p',e1,_,S,t⟩:=E.own i _ _ _ h;rw[es] at e1;cases e1;obtain⟨o0,hp,k0⟩:=t.obj;have np:∀{a o},H a=some o->¬ow i a->upd H p u a=some o:=λ{a o} ha n=>by rw[zp λz=>n ((S a).mpr z)];exact ha
 have tu:∀a xs,H a=some (.tup xs)->upd H p u a=some (.tup xs):=λa xs ha=>by rw[zp λz=>by subst z;rw[hp] at ha;cases ha;exact k0.2.1 _ rfl];exact ha
 refine⟨_,E.put (S:=λa=>a=p) h es (λa z=>.inl ((S a).mpr z)) (λa o=>np) tu (λa z=>by subst z;exact⟨_,zM,ku⟩) ⟨λa=>FL,mk zM (Rps.go ⟨tu,λa o ha no=>⟨.inl (np ha λz=>no (.inr ⟨i,z⟩)),λz=>no ?_⟩⟩ _ _ r)⟩⟩
 rcases z with z|⟨j,⟨_,z⟩|⟨_,z⟩⟩
 ·exact .inl z
 ·exact .inr ⟨i,(S a).mpr z⟩
 ·exact .inr ⟨j,z⟩
def J6{a:Addr}{l:List (Key×V)}:Okc a (.dK l):=⟨(by intro q z;cases z),(by intro q z;cases z),(by intro q z;cases z)⟩
def Xw{a:Addr}{l:List (List Key×V)}:Okc a (.dT l):=⟨(by intro q z;cases z),(by intro q z;cases z),(by intro q z;cases z)⟩
theorem zk.putD{i:Nat}{k:Dt}{p:Addr}{y:V}(E:zk bx B π H σ ρ ow)(h:ρ[i]?=some (.ow io 1 d0))(es:σ[i]?=some (some (.ref p)))(q:L2.putD d0 k x=some d)(rk:RpT bx (Ow B ow) H k y)(rx:Rp bx (Ow B ow) H x v):
  ∃H',DPut H p y v H'/\∃ow',zk bx B π H' σ (ρ.set i (.ow io 1 d)) ow'/\Stp B ow H ow' H':=by
 obtain⟨p',e1,_,S,t⟩:=E.own i _ _ _ h;rw[es] at e1;cases e1
 cases d0 with
 |dK ks ds=>
  obtain⟨xs,hp,l,lz,rs⟩:=t;have hp:H p=some _:=hp.elim id λz=>nomatch z.1;obtain⟨k',q1,q⟩:=kA.mp q
  by_cases c:ks.length<sizeLine
  ·rw[if_pos c] at q;cases q;refine⟨_,.inl ⟨_,k',hp,je q1 rk,by rw[uN];omega,rfl⟩,E.own1 h es J6 (qo (ks:=ks) (k:=k') rs rx) λhH r=>⟨_,.inl (by rw[←j8 l];exact hH),wC l,?_,r⟩⟩
   rw[←wC (a:=v) l];have:=Yc (ks:=ks) (k:=k');omega
  ·rw[if_neg c] at q;cases q
 |dT ks ds=>
  obtain⟨xs,hp,l,lz,rs⟩:=t;have hp:H p=some _:=hp.elim id λz=>nomatch z.1;obtain⟨k',q1,q⟩:=kA.mp q
  by_cases c:ks.length<sizeLine
  ·rw[if_pos c] at q;cases q;obtain⟨b,rfl,hb⟩:=vg q1 rk;refine⟨_,.inr ⟨_,k',b,hp,rfl,hb,by rw[uN];omega,rfl⟩,E.own1 h es Xw (qo (ks:=ks) (k:=k') rs rx) λhH r=>⟨_,.inl (by rw[←j8 l];exact hH),wC l,?_,r⟩⟩
   rw[←wC (a:=v) l];have:=Yc (ks:=ks) (k:=k');omega
  ·rw[if_neg c] at q;cases q
 |_=>cases q
def jC(i:Nat){x:Str}{ke ve:Expr}{xp:Pos}{fk fv:En->Option Dt}(hu:X.A.units+1<cLine)(hk:PE X ke (dM bx true fk))(hv:PE X ve (dM bx false fv))(hN:X.N[i]?=some x:=by rfl)(vis:Vis X.env.scope x:=by first|exact QZ rfl|exact uU (QZ rfl)|exact uU (uU rfl))(hd:(x==("__debug__":Str))=false:=by decide)(hcd:(x==("__classdict__":Str))=false:=by decide)
  (hs:uh ve (some (.Subscript (.Name x xp) ke pos')) pos.line X.env=pure false:=by rfl):PS X (.Assign [.Subscript (.Name x xp) ke pos'] ve pos) (dS bx (wQ i fk fv)):=(YQ hu (yX hN vis hd hcd) hk hv hs).imp λD σ H⟨B,π,ow,ρ,o,E,q,z⟩=>by
 obtain⟨v,q1,q⟩:=kA.mp q;obtain⟨k,q2,q⟩:=kA.mp q;obtain⟨⟨io,d0⟩,q3,q⟩:=kA.mp q;obtain⟨d,q4,q⟩:=kA.mp q;obtain⟨s,q5,q3⟩:=kA.mp q3;have q5:=ofW_at q3 q5
 cases q;obtain⟨p,es,_,_⟩:=E.own i _ _ _ q5;refine⟨B,π,ow,ρ,v,E,q1,λu H1 g1 r1=>⟨.ref p,es,B,π,ow,ρ,k,E.sd g1,q2,λy H2 g2 r2=>?_⟩⟩;have gg:=g1.trans g2;obtain⟨H4,hput,ow',E4,s4⟩:=(E.sd gg).putD q5 es q4 (RpM.t r2) (Rp.go g2.gd _ _ r1);exact⟨p,H4,rfl,hput,z _ _ _ ((Stp.of gg).trans s4) E4⟩
end
open PySem.W (kla_fn kla_obj envX tabObj CodeHd KasT kas_sort kas_ask)
open Classical in
noncomputable def srt(n:Nat)(ds:List Dt)(lt:Nat->Nat->Bool):Option (List Dt):=if h:∃r,∀p:List Nat,p.Perm (pe n)->p.Pairwise (λi j=>lt j i=false)->p.map (λi=>ds.getD i .none)=r then some h.choose else none
theorem zfa{ds r:List Dt}{lt:Nat->Nat->Bool}(h:srt n ds lt=some r){p:List Nat}(hp:p.Perm (pe n))(hs:p.Pairwise λi j=>lt j i=false):p.map (λi=>ds.getD i .none)=r:=by
 unfold srt at h
 split at h
 ·rename_i e;cases h;exact e.choose_spec p hp hs
 ·cases h
def yr{α β:Type}(f:α->Option β):List α->Option (List β)
 |[]=>some []
 |a::as=>(f a).bind λb=>(yr f as).bind λbs=>some (b::bs)
theorem jZ{α β:Type}{f:α->Option β}:∀{as:List α}{bs:List β},yr f as=some bs->bs.length=as.length
 |[],_,h=>by cases h;rfl
 |a::as,_,h=>by
  obtain⟨b,_,h⟩:=kA.mp h;obtain⟨bs,q,h⟩:=kA.mp h
  cases h;rw[pH,pH,jZ q]
theorem ja{α β:Type}{f:α->Option β}:∀{as:List α}{bs:List β}{i:Nat}{a:α},yr f as=some bs->as[i]?=some a->∃b,f a=some b/\bs[i]?=some b
 |[],_,i,a,_,e=>by simp at e
 |a'::as,_,i,a,h,e=>by
  obtain⟨b,q0,h⟩:=kA.mp h;obtain⟨bs,q,h⟩:=kA.mp h
  cases h
  cases i with
  |zero=>cases e;exact⟨b,q0,rfl⟩
  |succ i=>
   obtain⟨b',h1,h2⟩:=ja (as:=as) (i:=i) (a:=a) q (by simpa using e)
   exact⟨b',h1,by simpa using h2⟩
structure KyK(κ:Type) where
 of:Dt->Option κ
 lt:κ->κ->Bool
 KP:KPT
 dflt:κ
 kp:∀{bx:Bx}{O:Addr->Prop}{H:Hp}{ds:List Dt}{zs:List V}{ks:List κ},yr of ds=some ks->Rps bx O H ds zs->KP H zs λi j=>lt (ks.getD i dflt) (ks.getD j dflt)
def asP:Dt->Option (Int×Int)
 |.tuple [.int i,.int j]=>some (i,j)
 |_=>none
def X5{bx:Bx}{O:Addr->Prop}{H:Hp}{k:Int×Int}(e:asP d=some k)(r:Rp bx O H d v):∃q,v=.ref q/\H q=some (.tup [.int k.1,.int k.2]):=by
 unfold asP at e
 split at e
 ·cases e;obtain⟨p,xs,rfl,_,h,_,rs⟩:=r.tupE;obtain⟨x,y,rfl,h1,h2⟩:=JK rs;rw[Rp] at h1 h2;subst h1 h2;exact⟨p,rfl,h⟩
 ·cases e
def kyP:KyK (Int×Int) where
 of:=asP
 lt:=ltK
 KP:=KPp
 dflt:=(0,0)
 kp:=λ{bx O H ds zs ks} e r=>⟨λi=>ks.getD i (0,0),λi hi=>by
  rw[←r.len] at hi;obtain⟨k,ek,e2⟩:=ja e (kK hi);obtain⟨x,ex,rx⟩:=r.get (kK hi);obtain⟨q,rfl,hq⟩:=X5 ek rx;refine⟨q,ex,?_⟩;show H q=some (.tup [.int (ks.getD i (0,0)).1,.int (ks.getD i (0,0)).2]);rw[pB,e2];exact hq,rfl⟩
def asL:Dt->Option (List (Int×Int))
 |.list ds=>yr asP ds
 |_=>none
def kyL:KyK (List (Int×Int)) where
 of:=asL
 lt:=ltL
 KP:=KPl
 dflt:=[]
 kp:=λ{bx O H ds zs ks} e r=>⟨λi=>ks.getD i [],(λi hi=>by
  rw[←r.len] at hi;obtain⟨k,ek,e2⟩:=ja e (kK hi);obtain⟨x,ex,rx⟩:=r.get (kK hi);show LsI H (zs.getD i .non) (ks.getD i []);rw[pB,ex,pB,e2];generalize ds[i]=d at ek rx
  cases d with
  |list es=>
   obtain⟨p,xs,rfl,_,h,_,rs⟩:=rx.lstE;refine⟨p,xs,rfl,h,by rw[←rs.len];exact(jZ ek).symm,λj k' hk=>?_⟩
   have hj:j<es.length:=by rw[←jZ ek];exact(kM.mp hk).1
   obtain⟨k2,e3,e4⟩:=ja (show yr asP es=some k from ek) (kK hj);have e4:k[j]?=some k2:=e4;have hk:k[j]?=some k':=hk;rw[e4] at hk;cases hk;obtain⟨x,ex',rx'⟩:=rs.get (kK hj);obtain⟨b,rfl,hb⟩:=X5 e3 rx';exact⟨b,ex',hb⟩
  |_=>cases ek),rfl⟩
theorem zk.cap{bx:Bx}{H:Hp}(E:zk bx B π H σ ρ ow)(k:Nat)(ix:List Nat):zk bx (Ow B ow) π H (yq k ix σ) (L2.inn k ix ρ) noO:=by
 have gd:Gd (Ow B ow) H (Ow (Ow B ow) noO) H:=⟨λ_ _ h=>h,λa o h no=>⟨.inl h,λz=>z.elim no λ⟨_,z⟩=>z.elim⟩⟩;have sl:∀{j s},(L2.inn k ix ρ)[j]?=some s->s≠.un->∃i s0,ρ[i]?=some s0/\s=yU s0/\(yq k ix σ)[j]?=some (σ[i]?).join:=λ{j s} h nu=>by
  unfold L2.inn at h
  by_cases l:j<k
  ·rw[pW (by rw[pQ];exact l),ul,if_pos l] at h
   cases h;exact absurd rfl nu
  ·rw[pJ (by rw[pQ];omega),pQ,kg] at h
   cases q:ix[j-k]? with
   |none=>rw[q] at h;cases h
   |some i=>
    rw[q] at h;have h:((ρ[i]?).map yU).getD .un=s:=pL h
    cases e:ρ[i]? with
    |none=>rw[e] at h;exact absurd h.symm nu
    |some s0=>
     rw[e] at h;refine⟨i,s0,e,h.symm,?_⟩;unfold yq;rw[pJ (by rw[pQ];omega),pQ,kg,q]
     rfl
 refine⟨by unfold L2.inn yq;simp,E.tbs,E.has,λj d h=>?_,λj io m d h=>?_,λj d h=>?_,λi j a h=>h.elim,λi a h=>h.elim⟩
 ·obtain⟨i,s0,e,e1,e2⟩:=sl h (by intro z;cases z)
  cases s0 with
  |fz d'=>cases e1;obtain⟨v,ev,r⟩:=E.frz i _ e;exact⟨v,by rw[e2,ev];rfl,Rp.go gd _ _ r⟩
  |ow io m d'=>unfold yU at e1;dsimp only at e1;split at e1<;>cases e1
  |_=>cases e1
 ·obtain⟨i,s0,e,e1,e2⟩:=sl h (by intro z;cases z)
  cases s0 with
  |ow io m d'=>unfold yU at e1;dsimp only at e1;split at e1<;>cases e1
  |_=>cases e1
 ·obtain⟨i,s0,e,e1,e2⟩:=sl h (by intro z;cases z)
  cases s0 with
  |ow io m d'=>
   unfold yU at e1;dsimp only at e1
   split at e1
   ·rename_i z;subst z;cases e1
    obtain⟨p,ev,_,r⟩:=E.own i _ _ _ e;exact⟨_,by rw[e2,ev];rfl,RpT.go gd (λ_ _ _ z=>.inl z) (.inr ⟨p,rfl,r.2.less⟩),λ_ _⟨_,z⟩=>z.elim⟩
   ·cases e1
  |rd d'=>cases e1;obtain⟨v,ev,r,_⟩:=E.red i _ e;exact⟨_,by rw[e2,ev];rfl,r.go gd λ_ _ _ z=>.inl z,λ_ _⟨_,z⟩=>z.elim⟩
  |_=>cases e1
structure Lam1(bx:Bx)(P:Addr)(pos:Pos)(q:Str):Prop where
 mem:(P,pos,q)∈bx.tb
 one:∀t∈bx.tb,t.1=P->t=(P,pos,q)
def SD.lam{bx:Bx}{H H':Hp}{P:Addr}{pos:Pos}{q:Str}(E:zk bx B π H σ ρ ow)(L:Lam1 bx P pos q)(g:vJ P H H')(t:xm H' P pos q):SD bx (Ow B ow) H H':=by
 obtain⟨ps,hP,_⟩:=E.tbs _ L.mem;have ne:∀{a o},H a=some o->(∀z,o≠.tbl z)->a≠P:=λh n e=>by subst e;rw[hP] at h;cases h;exact n _ rfl
 refine⟨λlt x m=>?_,λa xs h=>g a _ (ne h (by intro z y;cases y)) h,λa o h z=>?_,λa o h z=>?_⟩
 ·by_cases e:x.1=P
  ·rw[L.one x m e];exact t
  ·obtain⟨ps',e1,e2,e3⟩:=lt x m;exact⟨ps',g _ _ e e1,e2,e3.imp id λ⟨c,e4,hc⟩=>⟨c,e4,g _ _ (ne hc (by intro z y;cases y)) hc⟩⟩
 ·obtain⟨o',h',n⟩:=E.has a z;rw[h] at h';cases h';exact g a o (ne h n.1) h
 ·by_cases e:a=P
  ·subst e;rw[hP] at h;cases h;obtain⟨ps',h',_⟩:=t;exact .inr (.inl ⟨_,_,rfl,h'⟩)
  ·exact .inl (g a o e h)
noncomputable def dSrt{κ:Type}(ky:KyK κ)(i0:Nat)(f g:En->Option Dt):En->Option Dt:=λρ=>(g ρ).bind λd=>(ofL d).bind λds=>(ρ[i0]?).bind λs=>(sR s).bind λ_=>(yr (λd=>f [.fz d,yU s]) ds).bind λkds=>(yr ky.of kds).bind λks=>(srt ds.length ds λi j=>ky.lt (ks.getD i ky.dflt) (ks.getD j ky.dflt)).bind λr=>some (.list r)
theorem ZI{bx:Bx}{O:Addr->Prop}{H:Hp}{ds:List Dt}{vs:List V}(r:Rps bx O H ds vs):∀{p:List Nat},(∀i∈p,i<ds.length)->Rps bx O H (p.map λi=>ds.getD i .none) (p.map λi=>vs.getD i .non)
 |[],_=>.nil
 |i::p,h=>by
  have hi:=h i (by simp)
  obtain⟨x,ex,rx⟩:=r.get (kK hi);refine .cons ?_ (ZI r λj hj=>h j (by simp[hj]))
  show Rp bx O H (ds.getD i .none) (vs.getD i .non)
  rw[pB,kK hi,pB,ex];exact rx
section
variable{X:Cx}
def rListDR:List V->Hp->VK->Prop:=λxs H Q=>∃d kvs,xs=[.ref d]/\Rd H d (.dT kvs)/\∀(bs:List Addr) l,bs.length=kvs.length->(∀(j:Nat)(b:Addr)(kv:List Key×V),bs[j]?=some b->kvs[j]?=some kv->H b=some (.tup (kv.1.map kV)))->H l=none->Q (.ref l) (upd H l (.lst (bs.map .ref)))
theorem zbj(hc:X.calm=true):yd X (.type "list") rListDR:=by
 intro pins s σ H xs us Q I r h;obtain⟨d,kvs,rfl,e,q⟩:=h;obtain⟨u,rfl,rx⟩:=vals1 r
 cases rx;obtain⟨z,hd,xs,rel,o,es,ep,ho,hx,hdat,he,_⟩:=e.ok I.hok;have hk:es.toList.map (·.key)=(xs.map λq=>q.2.1).map ki:=by
  rw[he,uP,uP];rfl
 have lb:(xs.map λq=>q.2.1).length=kvs.length:=by rw[kL];exact(Uj rel).symm
 have ls:es.size=kvs.length:=by
  have:=congrArg EJ hk;rw[kL,kL,lb] at this
  simpa using this
 refine YS (I.ok.hd hc) hd ho hx.1 hdat (λh' tk acc' c' kp hS hacc=>?_) (by omega)
 have ea:acc'.toList=(xs.map λq=>q.2.1).map ki:=by
  rw[←hk];refine QT λj=>?_;rw[kg,uR,uR];have ha:acc'.size=es.size:=hacc.1
  by_cases hj:j<es.size
  ·have hj':j<acc'.size:=by omega
   obtain⟨e,e1,e2⟩:=hacc.2 j acc'[j] (pR hj');rw[pR hj',e1,e2];rfl
  ·rw[ud (by omega),ud (by omega)]
   rfl
 refine⟨.ref s.heap.objs.size,_,I.laid (t':=tk) kp (kN _) (o:=.lst ((xs.map λq=>q.2.1).map .ref)) ⟨by rw[kL,lb];exact z,acc'.toList,c',Wy ea,by simpa using hS⟩,rfl,q _ _ lb (Jo rel) (I.hok.fresh (kN _))⟩
def rListKR:List V->Hp->VK->Prop:=λxs H Q=>∃d kvs,xs=[.ref d]/\Rd H d (.dK kvs)/\∀l,H l=none->Q (.ref l) (upd H l (.lst (kvs.map λkv=>kV kv.1)))
theorem zan(hc:X.calm=true):yd X (.type "list") rListKR:=by
 intro pins s σ H xs us Q I r h;obtain⟨d,kvs,rfl,e,q⟩:=h;obtain⟨u,rfl,rx⟩:=vals1 r
 cases rx;obtain⟨z,hd,vs,rel,o,es,ep,ho,hx,hdat,_,hp,_⟩:=e.ok I.hok;have kv:zr (kvs.map λkv=>kV kv.1) (es.toList.map (·.key)):=by
  have e1:(kvs.map λkv=>kV kv.1)=vs.map λkv=>kV kv.1:=by
   clear hp e q z
   rename_i nodup_
   clear nodup_
   induction rel with
   |nil=>rfl
   |cons h1 h2 ih=>rw[kY,kY,ih,h1.1]
  rw[e1];exact za5 hp
 have ls:es.size=kvs.length:=by
  have:=kv.length;rw[kL,kL] at this
  simpa using this.symm
 refine YS (I.ok.hd hc) hd ho hx.1 hdat (λh' tk acc' c' kp hS hacc=>?_) (by omega)
 have ea:acc'.toList=es.toList.map (·.key):=by
  refine QT λj=>?_;rw[kg,uR,uR];have ha:acc'.size=es.size:=hacc.1
  by_cases hj:j<es.size
  ·have hj':j<acc'.size:=by omega
   obtain⟨e,e1,e2⟩:=hacc.2 j acc'[j] (pR hj');rw[pR hj',e1,e2];rfl
  ·rw[ud (by omega),ud (by omega)]
   rfl
 refine⟨.ref s.heap.objs.size,_,I.laid (t':=tk) kp (kN _) (o:=.lst (kvs.map λkv=>kV kv.1)) ⟨by rw[kL];exact z,acc'.toList,c',by rw[ea];exact kv,by simpa using hS⟩,rfl,q _ (I.hok.fresh (kN _))⟩
end
def jA:List Dt->Option Dt
 |[.dT ks _]=>if(ks.all λk=>decide (k.length<=sizeLine))=true then some (.list (ks.map tkD)) else none
 |_=>none
def Wq:List Dt->Option Dt
 |[.dK ks _]=>some (.list (ks.map kD))
 |_=>none
section
variable{bx:Bx}{O:Addr->Prop}{H:Hp}
theorem Vy(no:∀a,O a->∃o,H a=some o/\Okc a o):∀{ks:List (List Key)}{bs:List Addr},bs.length=ks.length->(∀(j:Nat)(b:Addr)(k:List Key),bs[j]?=some b->ks[j]?=some k->H b=some (.tup (k.map kV)))->(∀k∈ks,k.length<=sizeLine)->Rps bx O H (ks.map tkD) (bs.map V.ref)
 |[],[],_,_,_=>.nil
 |[],_::_,h,_,_=>nomatch h
 |_::_,[],h,_,_=>nomatch h
 |k::ks,b::bs,h,g,l=>.cons (ZY no (g 0 b k rfl rfl) (l k (by simp))) (Vy no (by simpa using h) (λj b k h1 h2=>g (j+1) b k (by simpa using h1) (by simpa using h2)) λk m=>l k (by simp[m]))
def zip_at{κ:Type}{ks:List κ}{j:Nat}{k:κ}(l:ks.length=xs.length)(h:ks[j]?=some k):∃x,(ks.zip xs)[j]?=some (k,x):=by
 have hj:j<xs.length:=by rw[←l];exact(kM.mp h).1
 exact⟨xs[j],by rw[List.getElem?_zip_eq_some];exact⟨h,kK hj⟩⟩
end
section
variable{X:Cx}{bx:Bx}{e a b:Expr}{es:List Expr}{f g:En->Option Dt}{ga:En->Option (List Dt)}{pos p:Pos}{m:Bool}
theorem V6(hc:X.calm=true)(hg:Gl X "list")(hm:X.mg "list"=none)(ha:PA X (e::es) (dAr bx ga))(he:kJ (e::es) X.env=(false,eval e X.env)::kJ es X.env:=by rfl)(hpl:(pX pos (kJ es X.env)).any (·.1)=false:=by rfl):PE X (.Call (.Name "list" p) (e::es) [] pos) (dF bx (dCl jA ga)):=(jo (zbj hc) hg hm j4 ha (he:=he) (hpl:=hpl)).imp λ_ _ _ h=>zf (λbx O H ds d vs Q no q r z=>by
  unfold jA at q
  split at q
  ·split at q
   ·rename_i ks ds' c
    cases q;obtain⟨x,rfl,r'⟩:=xu r;obtain⟨p,rfl,xs,h,l,lz,_⟩:=r'.top rfl;refine⟨p,_,rfl,h.rd,λbs l' hb hk n=>z l' _ (.new n _) n (xD n ?_ (Vy no (by rw[hb,uN];omega) (λj b k h1 h2=>?_) λk m=>of_decide_eq_true (UA.mp c k m)))⟩
    ·rw[kL,hb,uN];omega
    ·obtain⟨x,hx⟩:=zip_at l h2;exact hk j b _ h1 hx
   ·cases q
  ·cases q) h
theorem zby(hc:X.calm=true)(hg:Gl X "list")(hm:X.mg "list"=none)(ha:PA X (e::es) (dAr bx ga))(he:kJ (e::es) X.env=(false,eval e X.env)::kJ es X.env:=by rfl)(hpl:(pX pos (kJ es X.env)).any (·.1)=false:=by rfl):PE X (.Call (.Name "list" p) (e::es) [] pos) (dF bx (dCl Wq ga)):=(jo (zan hc) hg hm j4 ha (he:=he) (hpl:=hpl)).imp λ_ _ _ h=>zf (λbx O H ds d vs Q no q r z=>by
  unfold Wq at q
  split at q
  ·rename_i ks ds'
   cases q;obtain⟨x,rfl,r'⟩:=xu r;obtain⟨p,rfl,xs,h,l,lz,_⟩:=r'.top rfl;refine⟨p,_,rfl,h.rd,λl' n=>z l' _ (.new n _) n (xD n ?_ ?_)⟩
   ·rw[kL,uN];omega
   ·have:((ks.zip xs).map λkv=>kV kv.1)=ks.map kV:=by
     rw[show(λkv:Key×V=>kV kv.1)=kV∘QJ from rfl,←uP,List.map_fst_zip (by omega)]
    rw[this];exact qQ
  ·cases q) h
def jt:Dt->Option Int
 |.int i=>some i
 |_=>none
def mxI:List Int->Int->Int
 |[],d=>d
 |n::ns,_=>ns.foldl max n
theorem JN:∀(ns:List Int)(a:Int),a<=ns.foldl max a/\(∀n∈ns,n<=ns.foldl max a)/\(ns.foldl max a=a∨ns.foldl max a∈ns)
 |[],a=>⟨EO _,(λ_ h=>by cases h),.inl rfl⟩
 |n::ns,a=>by
  obtain⟨h1,h2,h3⟩:=JN ns (max a n);have e:(n::ns).foldl max a=ns.foldl max (max a n):=rfl;rw[e];refine⟨by omega,λk hk=>?_,?_⟩
  ·rcases kX.mp hk with rfl|hk
   ·omega
   ·exact h2 k hk
  ·rcases h3 with h3|h3
   ·rw[h3];rcases Int.le_total a n with c|c
    ·exact .inr (by rw[Int.max_eq_right c];simp)
    ·exact .inl (Int.max_eq_left c)
   ·exact .inr (pG _ h3)
theorem mxI_is{ns:List Int}{d g:Int}(h:∀n∈ns,n<=g)(k:g∈ns∨(ns=[]/\g=d)):g=mxI ns d:=by
 cases ns with
 |nil=>exact k.elim (λz=>nomatch z) (·.2)
 |cons n ns=>
  have k:=k.resolve_right λz=>nomatch z.1;obtain⟨h1,h2,h3⟩:=JN ns n;have a:ns.foldl max n<=g:=h3.elim (λz=>by rw[z];exact h n (by simp)) λz=>h _ (by simp[z])
  have b:g<=ns.foldl max n:=(kX.mp k).elim (λz=>by rw[z];exact h1) λz=>h2 g z
  exact Eb b a
def dMax(f g:En->Option Dt):En->Option Dt:=λρ=>(f ρ).bind λd=>(ofL d).bind λds=>(yr jt ds).bind λns=>(g ρ).bind λz=>(jt z).bind λz=>some (.int (mxI ns z))
theorem X8{bx:Bx}{O:Addr->Prop}{H:Hp}:∀{ds:List Dt}{xs:List V}{ns:List Int},yr jt ds=some ns->Rps bx O H ds xs->xs=ns.map V.int
 |[],xs,ns,e,r=>by cases e;rw[Rps] at r;exact r
 |d::ds,xs,ns,e,r=>by
  obtain⟨n,q1,e⟩:=kA.mp e;obtain⟨ns',q2,e⟩:=kA.mp e
  cases e;rw[Rps] at r;obtain⟨x,r',rfl,h1,h2⟩:=r
  cases d with
  |int i=>cases q1;rw[Rp] at h1;rw[h1,X8 q2 h2];rfl
  |_=>cases q1
theorem de_maxD{e':Expr}{nm:Option Str}{kpos:Pos}(hc:X.calm=true)(hg:Gl X "max")(hm:X.mg "max"=none)(h1:PE X e (dM bx true f))(n1:NS e)(h2:PE X e' (dM bx true g))(hks:(UL pos (ux [⟨nm,e',kpos⟩] X.env)).filterMap (·.1)=[kx "default"]:=by rfl)
  (he:pX pos (kJ [e] X.env)=(false,eval e X.env)::pX pos (kJ [] X.env):=by rfl) (hpl:(pX pos (kJ [e] X.env)).any (·.1)=false:=by rfl)
  (hall:(UL pos (ux [⟨nm,e',kpos⟩] X.env)).all (·.1.isSome)=true:=by rfl) (hno:(UL pos (ux [⟨nm,e',kpos⟩] X.env)).any (·.1.isNone)=false:=by rfl):PE X (.Call (.Name "max" p) [e] [⟨nm,e',kpos⟩] pos) (dM bx m (dMax f g)):=(zd3 (zbp hc) hg hm Zi (pa1 h1 n1) (pk_cons h2 pk_nil) hks (he:=he) (hpl:=hpl) (hall:=hall) (hno:=hno)).imp λσ H Q⟨B,π,ow,ρ,d,E,q,z⟩=>by
 obtain⟨d0,q1,q⟩:=kA.mp q;obtain⟨ds,q2,q⟩:=kA.mp q;obtain⟨ns,q3,q⟩:=kA.mp q;obtain⟨y,q4,q⟩:=kA.mp q;obtain⟨yi,q5,q⟩:=kA.mp q
 cases q
 cases d0 with
 |list ds'=>
  cases q2;refine⟨B,π,ow,ρ,_,E,q1,λv H1 g1 r1=>⟨B,π,ow,ρ,y,E.sd g1,q4,λw H2 g2 r2=>?_⟩⟩;obtain⟨l,xs,rfl,hl,_,rs⟩:=((RpM.t r1).sd g2).lst
  cases y with
  |int i=>
   cases q5;rw[X8 q3 rs] at hl;refine⟨l,ns,yi,rfl,by rw[(RpM.t r2).int],hl,λg hg1 hg2=>?_⟩
   rw[mxI_is hg1 hg2];exact z _ H2 (g1.trans g2) (.of .int)
  |_=>cases q5
 |_=>cases q2
end
end L2
namespace L2
def xi.okD{P:PySem.Program}{w:PySem.World}{K:kF}{mg:FG->Option PySem.Value}{base:PySem.Heap}{bx:Bx}{x qual:FG}{st:PySem.Stmt}{f c tb:PySem.Addr}{fd:PySem.FuncData}{N ps:List FG}{k:Nat}{fs:En->Option Ou}(F:xi K x qual st f fd c tb)(S:zA N ps (zo st))
  (hb:∀(A:PySem.Around)(outer:List PySem.Env)(s:PySem.Shared)(H:Hp)(E:XK),zD k (A.deeper (QL qual (zo st) s.heap.objs.size f (.ref c)))->PSs (ym CX0 P w K mg base N qual (zo st) f (.ref c) A outer s H E).nox (ya st) (dS bx fs)):
  zw P w K mg base CX0 (k+1) f fd ps (spD bx (dFn N.length ps.length fs)):=
 F.ok S (λvs H Q E h=>(qI h).1) λA outer s H vs Q E hr h=>⟨_,hb A outer s H E hr,(qI h).2⟩
end L2
namespace L2
open PySem PySem.Spec PyProof.Rows
open PySem.W (kla_fn kla_obj envX tabObj CodeHd)
variable{x:Str}{st:Stmt}{fd:pZ}{ps:List Str}{Q:VK}
section
variable{P:kW}{w:kq}{K:kF}{mg:Str->Option kC}{base:Heap}
theorem Fun.runS{qual:Str}{f:Addr}{N:List Str}{k:Nat}(F:Fun K x qual st f fd)(S:zA N ps (zo st)){A:pI}{outer:List Env}{s:kE}{H:Hp}{args:Args}{us:List kC}{vs:List V}(hr:zD (k+1) A)(e0:Env0 P w K mg base A outer s H)(hb:Cf s fd args (ps.zip us))(r:zr vs us)(hl:vs.length=ps.length)
  (hbody:∀(cdv:kC),zD k (A.deeper (QL qual (zo st) s.heap.objs.size f cdv))->∃t,PSs (ym CX0 P w K mg base N qual (zo st) f cdv A outer s H E0).nox (ya st) t/\t {nx:=λ_ H'=>Q .non H',rt:=Q} (start N vs) H):
  UK (model P w) A (.call (.ref f) args) (CR CX0 outer P w H s Q E0) s:=by
 obtain⟨oc,od,kV,doc,pm,an,cdv,ct,osl,rfl,lk,hcd⟩:=F.ex;have KX:K.In s.heap:=e0.mod.kin.keeps λb o e=>(e0.bs b o e).1;have lim:s.heap.NoLimit:=e0.mod.nolimit.keeps λb o e=>(e0.bs b o e).1;have hkind:∀y∈ps.zip us,(zo st).names.lookup y.1=some .local∨((zo st).names.lookup y.1=some .cell/\((Ds (s.heap.objs.size+1) (zo st).names []).lookup y.1).isSome=true):=λ⟨n,v⟩ hy=>by
  rcases S.par n (AQ hy).1 with q|q
  ·exact .inl q
  ·exact .inr ⟨q,ge _ _ _ (.inl q)⟩
 refine CB hr.depth (KX _ _ lk) rfl S.co S.gen rfl (DE KX hcd) (hb _ _ _ _ ?_);refine Al S.kind hkind λenv he s1 x=>?_;subst he;refine⟨lim.keeps x.toInCall.keep,codeAny_func ?_⟩;obtain⟨t,ht,hq⟩:=hbody cdv (hr.deeper _);have I:Inv (ym CX0 P w K mg base N qual (zo st) f cdv A outer s H E0) [] (start N vs) H s1:=Jr S hr.hd e0 hl r x;refine uT (ht.nox [] s1 (start N vs) H _ I hq) (λfl s' hs=>?_) λe s' hs=>hs;have fin:∀{σ':St}{H':Hp}{v:V}{u:kC},Inv (ym CX0 P w K mg base N qual (zo st) f cdv A outer s H E0) [] σ' H' s'->zt v u->Q v H'->CE outer P w H s Q u s':=
  λ{σ' H' v u} J rv q=>⟨v,H',J.os,J.bare,J.base,J.hok,rv,q⟩
 cases fl with
 |ret u=>
  obtain⟨v,σ',H',J,rv,q⟩:=hs;exact fin J rv q
 |next=>
  obtain⟨σ',H',J,q⟩:=hs;exact fin (v:=V.non) (u:=pN) J rfl q
 |brk=>
  obtain⟨_,_,_,q⟩:=hs;exact uK q
 |cont=>
  obtain⟨_,_,_,q⟩:=hs;exact uK q
end
structure LamV(X:Cx)(fa c':Addr)(name qual:Str)(params:Qy)(body:Expr)(sc:Scope)(clos:List (Str×Addr))(pm ctv:kC)(vys:List V):Prop where
 obj:X.s₀.heap.get? fa=some (kla_obj name qual params body sc clos pm c' ctv)
 fn:X.H₀ fa=none/\fa∉X.fs/\fa∉X.ex
 cel:∀(i:Nat) y c vy,clos[i]?=some (y,c)->vys[i]?=some vy->∃uy,zt vy uy/\X.s₀.heap.IsCell c (some uy)/\X.H₀ c=none/\c∉X.fs/\c∉X.ex
variable{qual:Str}{fa:Addr}{clos:List (Str×Addr)}{vys:List V}
section
variable{X:Cx}
def tFv(i:Nat)(fa c':Addr)(qual:Str)(vys:List V)(te1 te:TE):TE:=λσ H Q=>σ[i]?=some (some (.ref fa))/\te1 σ H λv H1=>H1 c'=some (yE c' qual)/\te (some v::vys.map some) H1 Q
def pe_fv{i k:Nat}{px name:Str}{xp pos:Pos}{e:Expr}{te1 te:TE}{c':Addr}{params:Qy}{body:Expr}{sc:Scope}{pm ctv:kC}(L:LamV X fa c' name qual params body sc clos pm ctv vys)(hr:zD k X.A)(S:vh px (clos.map QJ) sc)(nd:(clos.map QJ).Nodup)(inj:∀y z d,(y,d)∈clos->(z,d)∈clos->y=z)(hlen:vys.length=clos.length)
  (hbind:∀u,QW (kla_fn name qual params body sc clos pm (.ref c') ctv) ⟨[u],[]⟩=pure [(px,u)])(he:PE X e te1)(n:NS e)(hbody:∀(s:kE)(H:Hp),PE (wd X.prog X.w X.K X.mg X.base px qual sc fa (.ref c') clos X.A X.stack s H) body te)
  (hN:X.N[i]?=some x:=by rfl)(hv:Vis X.env.scope x:=by first|exact QZ rfl|exact uU (QZ rfl)|exact uU (uU rfl))(hd:(x==("__debug__":Str))=false:=by decide)(hcd:(x==("__classdict__":Str))=false:=by decide):
  PE X (.Call (.Name x xp) [e] [] pos) (tFv i fa c' qual vys te1 te):=by
 intro pins s σ H Q I h;obtain⟨hσ,h⟩:=h;refine uQ (thn (yX hN hv hd hcd pins s σ H (λv H1=>v=.ref fa/\H1=H) I ⟨_,hσ,rfl,rfl⟩) λu0 s0⟨v0,H0,I0,r0,e0,e1⟩=>?_);subst e0 e1;obtain rfl:u0=ki fa:=r0;have hs:kJ [e] X.env=(false,eval e X.env)::kJ [] X.env:=n _ _;have ha:=pa1 he n pos pins s0 σ H0 (λvs H1=>∃v,vs=[v]/\H1 c'=some (yE c' qual)/\te (some v::vys.map some) H1 Q) I0 (by
  show te1 σ H0 λv H1=>∃v',[v]=[v']/\_
  have:(λv H1=>∃v',[v]=[v']/\H1 c'=some (yE c' qual)/\te (some v'::vys.map some) H1 Q)=λv(H1:Hp)=>H1 c'=some (yE c' qual)/\te (some v::vys.map some) H1 Q:=by
   funext v H1
   exact propext ⟨λ⟨v',e,q⟩=>by cases e;exact q,λq=>⟨v,rfl,q⟩⟩
  rw[this];exact h)
 rw[hs] at ha⊢;refine Calls.callWith_function (o:=kla_obj name qual params body sc clos pm c' ctv) (fd:=kla_fn name qual params body sc clos pm (.ref c') ctv) (Ux (thn ha λus s1⟨vs,H1,I1,r1,v,ev,hc,q⟩=>?_));subst ev;obtain⟨u,rfl,ru⟩:=vals1 r1;have ho:=I1.base.keep fa _ L.obj L.fn.1 L.fn.2.1 L.fn.2.2;refine⟨⟨ho,rfl⟩,uT (WT I1 I1.env0 hr S nd inj hlen ho (I1.hok c' _ hc).1 (hbind u) ru (λi y c vy h1 h2=>?_) (hbody s1 H1) q) (λ_ _ z=>z) λ_ _ z=>z.elim⟩;obtain⟨uy,ry,⟨o,hc1,hc2⟩,hn,hf,hx⟩:=L.cel i y c vy h1 h2;exact⟨uy,ry,⟨o,I1.base.keep c o hc1 hn hf hx,hc2⟩,I1.base.free c o hc1 hn hx⟩
end
open PySem.W (kla_fn kla_obj envX tabObj CodeHd)
def tHv(fa c':Addr)(ql:Str)(vys:List V)(te:TE):TS:=
 xP (wg (tC (.int 0)) (xT 2)) (xP (wg (yW 0) (xT 3)) (xP (Xm (tTest (tOp (rI0 λi j=>.bl (decide (i<j))) (yW 2) (yW 3)))
  (xP (wg (tOp (rI CDiv λi j=>.int (i/j)) (tOp (rI0 λi j=>.int (i+j)) (yW 2) (yW 3)) (tC (.int 2))) (xT 4))
   (tIfS (tB (tFv 1 fa c' ql vys (yW 4) te)) (wg (yW 4) (xT 3)) (wg (tOp (rI0 λi j=>.int (i+j)) (yW 4) (tC (.int 1))) (xT 2)))))
  (tRet (yW 2))))
def hvD(p:Int->Option Bool):Nat->Int->Int->Option Int
 |0,_,_=>none
 |n+1,lo,hi=>if lo<hi then(p ((lo+hi)/2)).bind λb=>if b=true then hvD p n lo ((lo+hi)/2) else hvD p n ((lo+hi)/2+1) hi else some lo
theorem hv_read{bx:Bx}{O:Addr->Prop}{c':Addr}{ql:Str}{te:TE}{p:Int->Option Bool}{n r:Int}{m:Nat}{H:Hp}{D:Ends}(hc:H c'=some (yE c' ql))(nc:¬O c')(hp:∀k c H' Q,SD bx O H H'->p k=some c->(∀H'',SD bx O H' H''->Q (.bl c) H'')->te (some (.int k)::vys.map some) H' Q)
  (hr:hvD p m 0 n=some r)(fin:∀H',SD bx O H H'->D.rt (.int r) H'):tHv fa c' ql vys te D [some (.int n),some (.ref fa),none,none,none] H:=by
 refine⟨_,rfl,?_⟩;show Xm _ _ _ _ _;refine⟨λk σ H'=>∃lo hi o,σ=[some (.int n),some (.ref fa),some (.int lo),some (.int hi),o]/\SD bx O H H'/\hvD p k lo hi=some r,⟨m,0,n,none,rfl,.refl _ _,hr⟩,?_⟩;rintro k σ H' ⟨lo,hi,o,rfl,g,q⟩
 cases k with
 |zero=>cases q
 |succ k=>
  rw[hvD] at q;refine⟨_,rfl,_,rfl,_,_,rfl,rfl,_,rfl,?_⟩
  by_cases c:lo<hi
  ·rw[if_pos c] at q;rw[decide_eq_true c];obtain⟨b,q1,q⟩:=kA.mp q;refine xX ⟨λσ' H''=>∃lo hi o,σ'=[some (.int n),some (.ref fa),some (.int lo),some (.int hi),o]/\SD bx O H H''/\hvD p k lo hi=some r,λσ' H'' w=>⟨k,hV _,w⟩,?_⟩;refine⟨_,rfl,_,rfl,_,_,rfl,rfl,_,_,rfl,rfl,⟨by decide,by decide⟩,?_⟩
   refine⟨rfl,_,rfl,(g.st c' _ hc nc).code,hp _ b H' _ g q1 λH'' g2=>⟨b,rfl,?_⟩⟩
   cases b with
   |true=>exact xX ⟨_,rfl,lo,(lo+hi)/2,_,rfl,g.trans g2,q⟩
   |false=>exact wy ⟨_,rfl,_,_,rfl,rfl,(lo+hi)/2+1,hi,_,rfl,g.trans g2,q⟩
  ·rw[if_neg c] at q
   cases q;rw[decide_eq_false c];exact wy ⟨_,rfl,fin H' g⟩
open PySem.W (kla_fn kla_obj envX tabObj CodeHd)
def capS(js:List Nat)(ρ:En):Option (List Sl):=yr (λj=>(ρ[j]?).bind λs=>(sR s).bind λ_=>some (yU s)) js
def dHlv(js:List Nat)(f g:En->Option Dt):En->Option Dt:=λρ=>(g ρ).bind λd=>(jt d).bind λn=>(capS js ρ).bind λss=>(hvD (λk=>(f (.fz (.int k)::ss)).bind asB) (n.toNat+1) 0 n).bind λr=>some (.int r)
section
variable{bx:Bx}{B:Addr->Prop}{π:Nat->Addr}{H:Hp}{σ:St}{ρ:En}{ow:Os}
theorem Yf(E:zk bx B π H σ ρ ow):∀{js:List Nat}{ss:List Sl},capS js ρ=some ss->∃vys:List V,js.map (λj=>σ[j]?)=vys.map (λv=>some (some v))/\js.map (λi=>((ρ[i]?).map yU).getD .un)=ss
 |[],ss,e=>by cases e;exact⟨[],rfl,rfl⟩
 |j::js,ss,e=>by
  obtain⟨s,q1,e⟩:=kA.mp e;obtain⟨ss',q2,e⟩:=kA.mp e
  cases e;obtain⟨s0,q3,q1⟩:=kA.mp q1;obtain⟨d,q4,q1⟩:=kA.mp q1
  cases q1;obtain⟨vys,h1,h2⟩:=Yf E q2;have hv:∃vy,σ[j]?=some (some vy):=by
   cases s0 with
   |fz d=>obtain⟨v,e,_⟩:=E.frz j _ q3;exact⟨v,e⟩
   |ow io n d=>obtain⟨v,e,_⟩:=E.own j _ _ _ q3;exact⟨_,e⟩
   |rd d=>obtain⟨v,e,_⟩:=E.red j _ q3;exact⟨v,e⟩
   |un=>cases q4
  obtain⟨vy,hv⟩:=hv;exact⟨vy::vys,by rw[kY,kY,hv,h1],by rw[kY,q3,h2];rfl⟩
end
variable{js:List Nat}
section
variable{X:Cx}{bx:Bx}{m:Bool}{a body:Expr}{p pos lpos:Pos}{params:Qy}{sc:Scope}{f g:En->Option Dt}
theorem Vf{k:Nat}{px:Str}{fh:Addr}{P c0:Addr}(F:zG X.K X.mg x st ["many","is_past"] fh fd)(SF:zA ["many","is_past","low","high","middle"] ["many","is_past"] (zo st))(hr:zD (k+2) X.A)(ha:PE X a (dM bx true g))(n1:NS a)
  (S:vh px (clos.map QJ) sc)(nd:(clos.map QJ).Nodup)(capt:Capt X clos js)(hclos:gQ sc X.env=pure clos)(hdef:Au params X.env=([],[]))(hcode:X.env.code=.ref c0)(C:CodeHd X.base c0 P)(hB:X.base.BuiltinsAt X.mg P)
  (hbind:∀(pm cd ctv u:kC),QW (kla_fn "<lambda>" (X.env.qual++"<lambda>") params body sc clos pm cd ctv) ⟨[u],[]⟩=pure [(px,u)])
  (hbody:∀(fa c':Addr)(A:pI)(outer:List Env)(s:kE)(H:Hp),zD k (wd X.prog X.w X.K X.mg X.base px (X.env.qual++"<lambda>") sc fa (.ref c') clos A outer s H).A->PE (wd X.prog X.w X.K X.mg X.base px (X.env.qual++"<lambda>") sc fa (.ref c') clos A outer s H) body (dM bx true f))(L:Lam1 bx P lpos (X.env.qual++"<lambda>"))
  (hterm:∀(cdv:kC)(s:kE)(H:Hp)(fa c':Addr)(pm ctv:kC)(vys:List V)(te:TE),LamV (ym CX0 X.prog X.w X.K X.mg X.base ["many","is_past","low","high","middle"] x (zo st) fh cdv X.A X.stack s H E0).nox fa c' "<lambda>" (X.env.qual++"<lambda>") params body sc clos pm ctv vys->zD (k+1) (ym CX0 X.prog X.w X.K X.mg X.base ["many","is_past","low","high","middle"] x (zo st) fh cdv X.A X.stack s H E0).A->(∀y z d,(y,d)∈clos->(z,d)∈clos->y=z)->vys.length=clos.length->
   (∀(s':kE)(H':Hp),PE (wd X.prog X.w X.K X.mg X.base px (X.env.qual++"<lambda>") sc fa (.ref c') clos (ym CX0 X.prog X.w X.K X.mg X.base ["many","is_past","low","high","middle"] x (zo st) fh cdv X.A X.stack s H E0).A (ym CX0 X.prog X.w X.K X.mg X.base ["many","is_past","low","high","middle"] x (zo st) fh cdv X.A X.stack s H E0).stack s' H') body te)->
   PSs (ym CX0 X.prog X.w X.K X.mg X.base ["many","is_past","low","high","middle"] x (zo st) fh cdv X.A X.stack s H E0).nox (ya st) (tHv fa c' (X.env.qual++"<lambda>") vys te))
  (hfn:∀y,X.fn y=true:=by intro _;rfl) (hg:Gl X x:=by rfl) (hdb:(x==("__debug__":Str))=false:=by decide) (he:kJ [a,.Lambda params body sc lpos] X.env=(false,eval a X.env)::(false,eval (.Lambda params body sc lpos) X.env)::[]:=by rfl):
  PE X (.Call (.Name x p) [a,.Lambda params body sc lpos] [] pos) (dM bx m (dHlv js f g)):=by
 intro pins s σ H Q I h;obtain⟨B,π,ow,ρ,d,E,q,z⟩:=h;obtain⟨d0,q1,q⟩:=kA.mp q;obtain⟨n,q2,q⟩:=kA.mp q;obtain⟨ss,q3,q⟩:=kA.mp q;obtain⟨r,q4,q⟩:=kA.mp q
 cases q
 cases d0 with
 |int i=>
  cases q2;obtain⟨vys,hv,hss⟩:=Yf E q3;refine uQ (xV I hg F.mg ?_ hdb);refine gO (h₀:=X.base) I.ok.mod.kin F.fn.kp ?_ (by rw[he];rfl) (by rfl)
  rw[he];refine uL (thn (ha pins s σ H (λv H1=>v=.int n/\SD bx (Ow B ow) H H1) I ⟨B,π,ow,ρ,_,E,q1,λv H1 g1 r1=>⟨(RpM.t r1).int,g1⟩⟩) λu s1⟨v,H1,I1,r1,ev,g1⟩=>?_);subst ev;have E1:=E.sd g1;refine uL (Wc (C:=C) I1 hcode hB hclos hdef (E1.tbs _ L.mem) λfa c' ctv H2 s2 I2 st2 lt hfo hc' ffa=>Ur ⟨I2.kIn,?_⟩);have g2:=SD.lam E1 L st2 lt;have E2:=E1.sd g2;have inj:∀y z d,(y,d)∈clos->(z,d)∈clos->y=z:=λy z d h1 h2=>I2.ok.inj y z d (capt.mem h1) (capt.mem h2);obtain⟨cl,hlen⟩:=capt.cells I2 hv;have nfr:∀b,b≠X.env.locals->b∉X.fs->b∉frs X.stack:=λb h1 h2 h3=>by
   rcases kX.mp (I2.stkSub b h3) with e|e
   ·exact h1 e
   ·exact h2 e
  have nc:¬Ow B ow c':=λmm=>by
   obtain⟨o,h,n⟩:=E2.has c' mm;rw[hc'] at h;cases h;exact n.2.2 _ rfl
  have done:∀{fl:CL}{s':kE},CR CX0 X.stack X.prog X.w H2 s2 Q E0 fl s'->match fl with
    |.ok (.ret u)=>EP X pins σ Q u s'
    |.ok _=>False
    |.error e=>X.xe e s':=λ{fl s'} hq=>by
   cases fl with
   |error e=>exact hq.elim
   |ok fl=>cases fl with
    |ret u=>exact I2.after hq
    |_=>exact hq
  refine gM (Qs (F.fn.runS (Q:=Q) (N:=["many","is_past","low","high","middle"]) (ps:=["many","is_past"]) (vs:=[.int n,.ref fa]) (us:=[u,.ref fa]) SF hr I2.env0 (by simpa using F.bn s2 [u,.ref fa] I2.kIn rfl) (.cons r1 (.cons rfl .nil)) rfl λcdv hk=>?_) λfl s' hq=>?_)
  ·refine⟨_,hterm cdv s2 H2 fa c' _ ctv vys (dM bx true f) ⟨hfo,⟨ffa.1,nfr fa ffa.2.1 ffa.2.2.1,by intro z;cases z⟩,λi y c vy h1 h2=>?_⟩ hk inj hlen λs' H'=>hbody fa c' _ _ s' H' (hk.deeper _),?_⟩
   ·obtain⟨uy,ry,hcell,hn⟩:=cl i y c vy h1 h2;have hcl:=capt.mem (uD h1);refine⟨uy,ry,hcell,hn,nfr c (I2.cne y c hcl) λhf=>?_,by intro z;cases z⟩
    obtain⟨_,o,ho,_⟩:=I2.ok.funs.mem hf;have:=I2.ok.cab y c (hfn y) hcl;exact absurd (kR ho) (DH.mpr this)
   ·refine hv_read (bx:=bx) (O:=Ow B ow) (p:=λk=>(f (.fz (.int k)::ss)).bind asB) hc' nc (λk c H' Q' g3 hp hq=>?_) q4 λH' g3=>z _ H' (g1.trans (g2.trans g3)) (.of .int);obtain⟨x0,e1,e2⟩:=kA.mp hp;have E3:=((E2.sd g3).cap 1 js).set (i:=0) (d:=.int k) (v:=.int k) .int;have es:(yq 1 js σ).set 0 (some (.int k))=some (.int k)::vys.map some:=by
     unfold yq;show some (.int k)::js.map (λi=>(σ[i]?).join)=_;have:js.map (λi=>(σ[i]?).join)=(js.map λj=>σ[j]?).map FU:=by rw[uP];rfl
     rw[this,hv,uP];rfl
    have er:(inn 1 js ρ).set 0 (.fz (.int k))=.fz (.int k)::ss:=by
     unfold inn;show Sl.fz (.int k)::js.map _=_;rw[hss]
    rw[es,er] at E3;refine⟨_,π,_,_,x0,E3,e1,λu H'' g4 r4=>?_⟩
    cases x0 with
    |bool y=>cases e2;rw[(RpM.t r4).bl];exact hq H'' (g4.less λa mm=>.inl mm)
    |_=>cases e2
  ·have:=done hq
   cases fl with
   |error e=>exact this
   |ok fl=>cases fl<;>exact this
 |_=>cases q2
end
def rps_up{bx:Bx}{O:Addr->Prop}{H:Hp}{a:Dt}{x:V}{T:Addr}{i:Int}(no:∀a,O a->∃o,H a=some o/\Okc a o)(n:H T=none)(ra:Rp bx O H a x):Rp bx O (upd H T (.tup [.int i,x])) (.tuple [.int i,a]) (.ref T):=Vo no n .int ra
variable{elts:List Expr}{neg:Bool}{K:kF}
section
variable{X:Cx}{bx:Bx}{m:Bool}{tg e a b:Expr}{es:List Expr}{f g:En->Option Dt}{ga:En->Option (List Dt)}{pos p tpos:Pos}
theorem Y6{x1:Nat}(hg:Gl X "enumerate")(hm:X.mg "enumerate"=none)(ha:PA X [a] (dA bx ga))(hs:kJ [a] X.env=[(false,eval a X.env)]:=by rfl):PI X (.Tuple elts x1 tpos) (.Call (.Name "enumerate" p) [a] [] pos) (dI bx (iC enu1 ga)):=(pi_enu hg hm ha hs).imp λσ H R⟨B,π,ow,ρ,ds,E,q,z⟩=>by
 obtain⟨as,q1,q2⟩:=kA.mp q;unfold enu1 at q2
 split at q2
 ·cases q2
  rename_i xs
  refine⟨B,π,ow,ρ,_,E,q1,λvs H1 g1 r1=>?_⟩;obtain⟨v,rfl,rv⟩:=Xj r1;obtain⟨p,us,rfl,np,dp,lp,sp⟩:=rv.lstE;have len:(Bo (λ(k:Nat) x=>Dt.tuple [.int k,x]) (pe xs.length) xs).length=us.length:=by rw[AX,uO,FM,sp.len]
  refine⟨p,us,rfl,dp,λK=>z _ H1 g1 ⟨by rw[len];exact lp,λO' H' g no=>?_⟩⟩
  have s1:SqL K H' p us:=.of (g.st p _ dp np).1.lst;refine⟨λi d e=>?_,⟨us,s1,by rw[len];exact kN _⟩⟩
  rw[CK] at e
  cases e2:xs[i]? with
  |none=>rw[e2] at e;revert e;cases(pe xs.length)[i]?<;>(intro e;cases e)
  |some b=>
   have hi:=(kM.mp e2).1;rw[UU hi,e2] at e
   cases e;obtain⟨x,ex,rx⟩:=(Rps.go g _ _ sp).get e2;exact⟨⟨us,x,s1,ex⟩,λv H2⟨T,x',hT,ev,eH,h1⟩=>by
    have h1:=h1 us s1;rw[ex] at h1;cases h1;subst ev eH;exact⟨.new hT _,rps_up no hT rx⟩⟩
 ·cases q2
theorem di_zipT{x1:Nat}(hg:Gl X "zip")(hm:X.mg "zip"=none)(ha:PA X [a,b] (dA bx ga))(hs:kJ [a,b] X.env=[(false,eval a X.env),(false,eval b X.env)]:=by rfl)(hs2:kJ [b] X.env=[(false,eval b X.env)]:=by rfl):PI X (.Tuple elts x1 tpos) (.Call (.Name "zip" p) [a,b] [] pos) (dI bx (iC zip2T ga)):=(pi_zipT hg hm ha hs hs2).imp λσ H R⟨B,π,ow,ρ,ds,E,q,z⟩=>by
 obtain⟨as,q1,q2⟩:=kA.mp q;unfold zip2T at q2
 split at q2
 ·rename_i xs ys
  split at q2
  ·rename_i len
   cases q2;refine⟨B,π,ow,ρ,_,E,q1,λvs H1 g1 r1=>?_⟩;obtain⟨v,w,rfl,rv,rw'⟩:=JK r1;obtain⟨p,us,rfl,np,dp,lp,sp⟩:=rv.tupE;obtain⟨p',us',rfl,np',dp',lp',sp'⟩:=rw'.tupE;have ln:(Bo (λa b=>Dt.tuple [a,b]) xs ys).length=us.length:=by rw[AX,←len,FM,sp.len]
   refine⟨p,p',us,us',rfl,dp,dp',z _ H1 g1 ⟨by rw[ln];exact lp,λO' H' g no=>?_⟩⟩
   have s1:SqT X.K H' p us:=.of (g.tu p _ dp);have s2:SqT X.K H' p' us':=.of (g.tu p' _ dp');refine⟨λi d e=>?_,⟨us,s1,by rw[ln];exact kN _⟩⟩
   rw[CK] at e
   cases e1:xs[i]? with
   |none=>rw[e1] at e;cases e
   |some a=>
    cases e2:ys[i]? with
    |none=>rw[e1,e2] at e;cases e
    |some b=>
     rw[e1,e2] at e;cases e;obtain⟨x,ex,rx⟩:=(Rps.go g _ _ sp).get e1;obtain⟨y,ey,ry⟩:=(Rps.go g _ _ sp').get e2;exact⟨⟨us,us',x,y,s1,s2,ex,ey⟩,λv H2⟨T,x',y',hT,ev,eH,h1,h2⟩=>by
      have h1:=h1 us s1;have h2:=h2 us' s2;rw[ex] at h1;rw[ey] at h2;cases h1;cases h2;subst ev eH;exact⟨.new hT _,Vo no hT rx ry⟩⟩
  ·cases q2
 ·cases q2
def kIn(tp neg:Bool)(k d:Dt):Option Dt:=(toP k).bind λx=>(if tp=true then ofT d else ofL d).bind λds=>(xx ds).bind λes=>if x.canLay0=true/\uJ es=true/\x.depth<=60 then some (.bool (if neg=true then !(es.any λe=>QE e x) else es.any λe=>QE e x)) else none
theorem Yn{O:Addr->Prop}{H:Hp}{tp:Bool}{k d r:Dt}{v w:V}(q:kIn tp neg k d=some r)(ra:RpT bx O H k v)(rb:RpT bx O H d w):∃x es,RdD K H x v/\RdD K H (if tp=true then .tuple es else .list es) w/\x.canLay0=true/\uJ es=true/\x.depth<=60/\r=.bool (if neg=true then !(es.any λe=>QE e x) else es.any λe=>QE e x):=by
 obtain⟨x,e1,q⟩:=kA.mp q;obtain⟨ds,e2,q⟩:=kA.mp q;obtain⟨es,e3,q⟩:=kA.mp q
 split at q
 ·rename_i c
  cases q;refine⟨x,es,ra.rdD e1,?_,c.1,c.2.1,c.2.2,rfl⟩
  cases tp with
  |true=>
   rw[if_pos rfl] at e2⊢
   cases d with
   |tuple ds'=>cases e2;exact rb.rdD (by rw[toP,e3];rfl)
   |_=>cases e2
  |false=>
   rw[if_neg (by decide)] at e2⊢
   cases d with
   |list ds'=>cases e2;exact rb.rdD (by rw[toP,e3];rfl)
   |_=>cases e2
 ·cases q
def Z2.niT:Z2 (Jm K) (kIn true true):=λbx O H a b d v w Q q ra rb z=>by
 obtain⟨x,es,h1,h2,h3,h4,h5,rfl⟩:=Yn (K:=K) q ra rb;exact⟨x,es,h1,h2,h3,h4,h5,z _ H (.refl _ _) .bl⟩
def Z2.inL:Z2 (rInL K) (kIn false false):=λbx O H a b d v w Q q ra rb z=>by
 obtain⟨x,es,h1,h2,h3,h4,h5,rfl⟩:=Yn (K:=K) q ra rb;exact⟨x,es,h1,h2,h3,h4,h5,z _ H (.refl _ _) .bl⟩
def Z2.niL:Z2 (VC K) (kIn false true):=λbx O H a b d v w Q q ra rb z=>by
 obtain⟨x,es,h1,h2,h3,h4,h5,rfl⟩:=Yn (K:=K) q ra rb;exact⟨x,es,h1,h2,h3,h4,h5,z _ H (.refl _ _) .bl⟩
def dt_niT(hu:X.A.units+64<cLine)(ha:PE X a (dM bx true f))(hb:PE X b (dM bx true g))(hm:um .NotIn b=false:=by rfl):PT X (.Compare a [.NotIn] [b] pos) (dT bx (dB (d2 (kIn true true) f g))):=ct2 (zaj rfl hu) .niT ha hb hm
def dt_inL(hu:X.A.units+64<cLine)(ha:PE X a (dM bx true f))(hb:PE X b (dM bx true g))(hm:um .In b=false:=by rfl):PT X (.Compare a [.In] [b] pos) (dT bx (dB (d2 (kIn false false) f g))):=ct2 (op_inL rfl hu) .inL ha hb hm
def VZ(hu:X.A.units+64<cLine)(ha:PE X a (dM bx true f))(hb:PE X b (dM bx true g))(hm:um .NotIn b=false:=by rfl):PT X (.Compare a [.NotIn] [b] pos) (dT bx (dB (d2 (kIn false true) f g))):=ct2 (zbx hu) .niL ha hb hm
def w9(i:Int):List Int->List Int
 |[]=>[i]
 |j::r=>if i<=j then i::j::r else j::w9 i r
def srtI:List Int->List Int
 |[]=>[]
 |i::r=>w9 i (srtI r)
theorem Xk(i:Int):∀l,(w9 i l).Perm (i::l)
 |[]=>.refl _
 |j::r=>by
  unfold w9
  split
  ·exact .refl _
  ·exact((Xk i r).cons j).trans (.swap i j r)
theorem Xx:∀l,(srtI l).Perm l
 |[]=>.refl _
 |i::r=>(Xk i _).trans ((Xx r).cons i)
theorem JD(i:Int):∀l:List Int,l.Pairwise (·<=·)->(w9 i l).Pairwise (·<=·)
 |[],_=>by simp[w9]
 |j::r,h=>by
  unfold w9;obtain⟨h1,h2⟩:=ue.mp h
  split
  ·rename_i c
   exact ue.mpr ⟨λx hx=>(kX.mp hx).elim (λe=>e▸c) λhx=>Int.le_trans c (h1 x hx),h⟩
  ·rename_i c
   refine ue.mpr ⟨λx hx=>?_,JD i r h2⟩;rcases kX.mp ((Xk i r).mem_iff.mp hx) with e|e
   ·subst e;omega
   ·exact h1 x e
theorem VB:∀l:List Int,(srtI l).Pairwise (·<=·)
 |[]=>.nil
 |i::r=>JD i _ (VB r)
theorem ZE:∀{a b:List Int},a.Perm b->a.Pairwise (·<=·)->b.Pairwise (·<=·)->a=b
 |[],b,h,_,_=>h.nil_eq
 |x::a,[],h,_,_=>by have:=h.length_eq;cases this
 |x::a,y::b,h,ha,hb=>by
  obtain⟨a1,a2⟩:=ue.mp ha;obtain⟨b1,b2⟩:=ue.mp hb;have e:x=y:=by
   rcases kX.mp (h.mem_iff.mp (pU (a:=x) (l:=a))) with e|e
   ·exact e
   ·rcases kX.mp (h.mem_iff.mpr (pU (a:=y) (l:=b))) with e'|e'
    ·exact e'.symm
    ·exact Eb (a1 y e') (b1 x e)
  subst e;rw[ZE h.cons_inv a2 b2]
def qq:List Dt->Option Dt
 |[d]=>(ofL d).bind λds=>(yr jt ds).bind λns=>if ns.length<64 then some (.list ((srtI ns).map .int)) else none
 |_=>none
theorem Yz{O:Addr->Prop}{H:Hp}:∀(ns:List Int),Rps bx O H (ns.map .int) (ns.map V.int)
 |[]=>.nil
 |n::ns=>.cons .int (Yz ns)
theorem ZZ(hu:X.A.units+100<cLine)(hg:Gl X "sorted")(hm:X.mg "sorted"=none)(ha:PA X (e::es) (dAr bx ga))(he:kJ (e::es) X.env=(false,eval e X.env)::kJ es X.env:=by rfl)(hpl:(pX pos (kJ es X.env)).any (·.1)=false:=by rfl):PE X (.Call (.Name "sorted" p) (e::es) [] pos) (dF bx (dCl qq ga)):=(xS (zdh hu) hg hm qe ha (he:=he) (hpl:=hpl)).imp λ_ _ _ h=>zf (λbx O H ds d vs Q _ q r z=>by
  unfold qq at q
  split at q
  ·rename_i d0
   obtain⟨ds,q1,q⟩:=kA.mp q;obtain⟨ns,q2,q⟩:=kA.mp q
   by_cases l:ns.length<64
   ·rw[if_pos l] at q
    cases q;obtain⟨x,rfl,r'⟩:=xu r
    cases d0 with
    |list ds'=>
     cases q1;obtain⟨p,xs,rfl,rd,lx,rs⟩:=r'.lst;rw[X8 q2 rs] at rd;refine⟨p,ns,rfl,rd,l,λD ms n hp hs=>z D _ (.new n _) n ?_⟩;rw[ZE (hp.trans (Xx ns).symm) hs (VB ns)];exact xD n (by rw[kL,(Xx ns).length_eq];exact pd (ub l) (by decide)) (Yz _)
    |_=>cases q1
   ·rw[if_neg l] at q;cases q
  ·cases q) h
end
open PySem.W (kla_fn kla_obj envX tabObj CodeHd KasT kas_sort kas_ask)
theorem W7{α:Type}{R:α->α->Prop}:∀{a b:List α},(∀x∈a,∀y∈a,R x y->R y x->x=y)->a.Perm b->a.Pairwise R->b.Pairwise R->a=b
 |[],b,_,h,_,_=>h.nil_eq
 |x::a,[],_,h,_,_=>by have:=h.length_eq;cases this
 |x::a,y::b,an,h,ha,hb=>by
  obtain⟨a1,a2⟩:=ue.mp ha;obtain⟨b1,b2⟩:=ue.mp hb;have e:x=y:=by
   rcases kX.mp (h.mem_iff.mp (pU (a:=x) (l:=a))) with e|e
   ·exact e
   ·rcases kX.mp (h.mem_iff.mpr (pU (a:=y) (l:=b))) with e'|e'
    ·exact e'.symm
    ·exact an x (by simp) y (by simp[e']) (a1 y e') (b1 x e)
  subst e;rw[W7 (λx hx y hy=>an x (by simp[hx]) y (by simp[hy])) h.cons_inv a2 b2]
def insL(lt:Nat->Nat->Bool)(i:Nat):List Nat->List Nat
 |[]=>[i]
 |j::r=>if lt j i=true then j::insL lt i r else i::j::r
def vT(lt:Nat->Nat->Bool):List Nat->List Nat
 |[]=>[]
 |i::r=>insL lt i (vT lt r)
theorem Jy(lt:Nat->Nat->Bool)(i:Nat):∀l,(insL lt i l).Perm (i::l)
 |[]=>.refl _
 |j::r=>by
  unfold insL
  split
  ·exact((Jy lt i r).cons j).trans (.swap i j r)
  ·exact .refl _
theorem Zt(lt:Nat->Nat->Bool):∀l,(vT lt l).Perm l
 |[]=>.refl _
 |i::r=>(Jy lt i _).trans ((Zt lt r).cons i)
def chkL(lt:Nat->Nat->Bool):List Nat->Bool
 |[]=>true
 |i::r=>r.all (λj=>lt i j&& !lt j i)&&chkL lt r
theorem Zh{lt:Nat->Nat->Bool}:∀{l:List Nat},chkL lt l=true->l.Pairwise λi j=>lt i j=true/\lt j i=false
 |[],_=>.nil
 |i::r,h=>by
  unfold chkL at h;rw[ui] at h;refine ue.mpr ⟨λj hj=>?_,Zh h.2⟩;have:=UA.mp h.1 j hj
  simpa using this
def srtC(n:Nat)(ds:List Dt)(lt:Nat->Nat->Bool):Option (List Dt):=if chkL lt (vT lt (pe n))=true then some ((vT lt (pe n)).map λi=>ds.getD i .none) else none
variable{ds:List Dt}
theorem zf2{n:Nat}{r:List Dt}{lt:Nat->Nat->Bool}(h:srtC n ds lt=some r):srt n ds lt=some r:=by
 unfold srtC at h
 split at h
 ·rename_i c
  cases h;have pw:=Zh c;have pm:=Zt lt (pe n);have un:∀p:List Nat,p.Perm (pe n)->p.Pairwise (λi j=>lt j i=false)->p.map (λi=>ds.getD i .none)=(vT lt (pe n)).map λi=>ds.getD i .none:=λp hp hs=>by
   rw[W7 (R:=λi j=>lt j i=false) (a:=vT lt (pe n)) (b:=p) ?_ (pm.trans hp.symm) (pw.imp λh=>h.2) hs];intro x hx y hy r1 r2
   by_cases e:x=y
   ·exact e
   ·exfalso
    obtain⟨i,hi,ei⟩:=QH.mp hx;obtain⟨j,hj,ej⟩:=QH.mp hy;rcases Dg i j with l|l|l
    ·have:=(UG.mp pw i j hi hj l).1;rw[ei,ej,r2] at this;cases this
    ·subst l;exact e (ei.symm.trans ej)
    ·have:=(UG.mp pw j i hj hi l).1;rw[ei,ej,r1] at this;cases this
  have ex:∃r,∀p:List Nat,p.Perm (pe n)->p.Pairwise (λi j=>lt j i=false)->p.map (λi=>ds.getD i .none)=r:=⟨_,un⟩;unfold srt;rw[dif_pos ex,←ex.choose_spec _ pm (pw.imp λh=>h.2)]
 ·cases h
def dF_le{bx:Bx}{f f':En->Option Dt}(h:∀ρ d,f ρ=some d->f' ρ=some d){σ:St}{H:Hp}{Q:VK}:dF bx f σ H Q->dF bx f' σ H Q:=λ⟨B,π,ow,ρ,d,E,q,z⟩=>⟨B,π,ow,ρ,d,E,h _ _ q,z⟩
def dS_le{bx:Bx}{f f':En->Option Ou}(h:∀ρ d,f ρ=some d->f' ρ=some d){D:Ends}{σ:St}{H:Hp}:dS bx f D σ H->dS bx f' D σ H:=λ⟨B,π,ow,ρ,d,E,q,z⟩=>⟨B,π,ow,ρ,d,E,h _ _ q,z⟩
def qd{κ:Type}(of:Dt->Option κ)(lt:κ->κ->Bool)(df:κ)(i0:Nat)(f g:En->Option Dt):En->Option Dt:=λρ=>(g ρ).bind λd=>(ofL d).bind λds=>(ρ[i0]?).bind λs=>(sR s).bind λ_=>(yr (λd=>f [.fz d,yU s]) ds).bind λkds=>(yr of kds).bind λks=>(srtC ds.length ds λi j=>lt (ks.getD i df) (ks.getD j df)).bind λr=>some (.list r)
def zav{κ:Type}{ky:KyK κ}{i0:Nat}{f g:En->Option Dt}(ρ:En)(d:Dt)(h:qd ky.of ky.lt ky.dflt i0 f g ρ=some d):dSrt ky i0 f g ρ=some d:=by
 obtain⟨d0,q1,q⟩:=kA.mp h;obtain⟨ds,q2,q⟩:=kA.mp q;obtain⟨s,q3,q⟩:=kA.mp q;obtain⟨d1,q4,q⟩:=kA.mp q;obtain⟨kds,q5,q⟩:=kA.mp q;obtain⟨ks,q6,q⟩:=kA.mp q;obtain⟨r,q7,q⟩:=kA.mp q;unfold dSrt;rw[q1];show(ofL d0).bind _=_;rw[q2];show(ρ[i0]?).bind _=_;rw[q3];show(sR s).bind _=_;rw[q4];show(yr (λd=>f [.fz d,yU s]) ds).bind _=_;rw[q5];show(yr ky.of kds).bind _=_;rw[q6];show(srt _ _ _).bind _=_;rw[zf2 q7];exact q
section
variable{X:Cx}{bx:Bx}{e:Expr}{pos p p2 pos2 lpos kpos:Pos}{params:Qy}{body a:Expr}{sc:Scope}{f g:En->Option Dt}{fs:En->Option Ou}
def dWhN(n:Nat)(fg:List Nat)(c:En->Option Bool)(b:En->Option Ou):En->Option Ou:=whD fg c b n
def ds_whN(n:Nat){fg:List Nat}{c:En->Option Bool}(h:PS X st (dS bx (vw fg c fs))):PS X st (dS bx (dWhN n fg c fs)):=h.imp λ_ _ _=>dS_le λ_ _ q=>zf1 q
def ordT(n:Nat)(lt:Nat->Nat->Bool):List Nat:=if 2<=n then(ansT lt (kas_sort n)).toList else pe n
def dSrtR{κ:Type}(of:Dt->Option κ)(lt:κ->κ->Bool)(df:κ)(js:List Nat)(f:En->Option Dt)(ga:En->Option (List Dt)):En->Option Dt:=λρ=>(ga ρ).bind λds=>match ds with
 |[.int n]=>if 0<=n/\n<64 then(capS js ρ).bind λss=>(yr (λi:Nat=>f (.fz (.int i)::ss)) (pe n.toNat)).bind λkds=>(yr of kds).bind λks=>some (.list ((ordT n.toNat λi j=>lt (ks.getD i df) (ks.getD j df)).map λi:Nat=>.int i)) else none
 |_=>none
theorem zdg{κ:Type}{k:Nat}{P c0:Addr}{ga:En->Option (List Dt)}(ky:KyK κ)(hKP:wn X ky.KP)(hr:zD (k+2) X.A)(hg:Gl X "sorted")(hm:X.mg "sorted"=none)(hg2:Gl X "range")(hm2:X.mg "range"=none)(ha:PA X [a] (dA bx ga))(S:vh x (clos.map QJ) sc)(nd:(clos.map QJ).Nodup)(hcap:Capt X clos js)
  (hclos:gQ sc X.env=pure clos)(hdef:Au params X.env=([],[]))(hcode:X.env.code=.ref c0)(C:CodeHd X.base c0 P)(hB:X.base.BuiltinsAt X.mg P)
  (hbind:∀(pm cd ctv u:kC),QW (kla_fn "<lambda>" (X.env.qual++"<lambda>") params body sc clos pm cd ctv) ⟨[u],[]⟩=pure [(x,u)])
  (hbody:∀(fa c':Addr)(A:pI)(s:kE)(H:Hp),A.units+64<cLine->PE (wd X.prog X.w X.K X.mg X.base x (X.env.qual++"<lambda>") sc fa (.ref c') clos A X.stack s H) body (dM bx false f))(L:Lam1 bx P lpos (X.env.qual++"<lambda>"))
  (hs:kJ [a] X.env=[(false,eval a X.env)]:=by rfl)
  (he:pX pos (kJ [.Call (.Name "range" p2) [a] [] pos2] X.env)=(false,eval (.Call (.Name "range" p2) [a] [] pos2) X.env)::pX pos (kJ [] X.env):=by rfl) (hpl:(pX pos (kJ [.Call (.Name "range" p2) [a] [] pos2] X.env)).any (·.1)=false:=by rfl):
  PE X (.Call (.Name "sorted" p) [.Call (.Name "range" p2) [a] [] pos2] [⟨some "key",.Lambda params body sc lpos,kpos⟩] pos) (dF bx (dSrtR ky.of ky.lt ky.dflt js f ga)):=(zch hKP hr hg hm hg2 hm2 ha S nd hcap hclos hdef hcode C hB hbind hbody hs he hpl).imp λσ H Q⟨B,π,ow,ρ,d,E,q,z⟩=>by
 obtain⟨ds0,q1,q⟩:=kA.mp q
 split at q
 ·rename_i n
  by_cases c:0<=n/\n<64
  ·rw[if_pos c] at q;obtain⟨ss,q2,q⟩:=kA.mp q;obtain⟨kds,q5,q⟩:=kA.mp q;obtain⟨ks,q6,q⟩:=kA.mp q
   cases q;obtain⟨vys,hv,hss⟩:=Yf E q2;refine⟨B,π,ow,ρ,_,E,q1,λvs H1 g1 r1=>?_⟩;obtain⟨v,rfl,rv⟩:=Xj r1;rw[Rp] at rv;subst rv;have E1:=E.sd g1;have en:n=(n.toNat:Int):=by omega
   refine⟨n.toNat,vys,by rw[←en],by omega,hv,E1.tbs _ L.mem,λc' H2 st lt hc=>?_⟩
   have g2:=SD.lam E1 L st lt;have E2:=E1.sd g2;have nc:¬Ow B ow c':=λm=>by
    obtain⟨o,h,n⟩:=E2.has c' m;rw[hc] at h;cases h;exact n.2.2 _ rfl
   have lk:kds.length=n.toNat:=by rw[jZ q5,uO]
   have lr:(xj n.toNat).length=n.toNat:=by unfold xj;rw[kL,uO]
   refine⟨λi zs H'=>SD bx (Ow B ow) H2 H'/\zs.length=i/\Rps bx (Ow B ow) H' (kds.take i) zs,⟨.refl _ _,rfl,by rw[Ay];exact .nil⟩,λi zs H' h=>(h.1.st c' _ hc nc).code,λi zs H' h=>h.2.1,λi zs H' v hv' h=>?_,λzs H' h=>?_⟩
   ·obtain⟨g3,lz',rz⟩:=h;have hi:i<n.toNat:=by rw[←lr];exact(kM.mp hv').1
    have ev:v=.int (i:Int):=by
     unfold xj at hv';rw[kg,UU hi] at hv';exact(pL hv').symm
    subst ev;obtain⟨kd,ek,ek2⟩:=ja q5 (UU hi);have E3:=((E2.sd g3).cap 1 js).set (i:=0) (d:=.int (i:Int)) (v:=.int (i:Int)) .int;have es:(yq 1 js σ).set 0 (some (.int (i:Int)))=some (.int (i:Int))::vys.map some:=by
     unfold yq;show some (.int (i:Int))::js.map (λi=>(σ[i]?).join)=_;have:js.map (λi=>(σ[i]?).join)=(js.map λj=>σ[j]?).map FU:=by rw[uP];rfl
     rw[this,hv,uP];rfl
    have er:(inn 1 js ρ).set 0 (.fz (.int (i:Int)))=.fz (.int (i:Int))::ss:=by
     unfold inn;show Sl.fz (.int (i:Int))::js.map _=_;rw[hss]
    rw[es,er] at E3;refine⟨_,π,_,_,kd,E3,ek,λu H'' g4 r4=>⟨g3.trans (g4.less λa m=>.inl m),by rw[kO,lz'];rfl,?_⟩⟩
    rw[Dj,ek2];exact(Rps.go (g4.less (O':=Ow B ow) λa m=>.inl m).gd _ _ rz).app (.cons (Rp.go ⟨λ_ _ h=>h,λa o h no=>⟨.inl h,λz=>no (.inl z)⟩⟩ _ _ r4) .nil)
   ·obtain⟨g3,lz',rz⟩:=h;rw[lr,gz (by rw[lk];exact kN _)] at rz
    refine⟨_,ky.kp q6 rz,λD p hD hp hs=>?_⟩;rw[lr] at hp hs;have ep:p.toList=ordT n.toNat λi j=>ky.lt (ks.getD i ky.dflt) (ks.getD j ky.dflt):=by
     unfold ordT
     split
     ·rename_i c2;rw[hs c2]
     ·rename_i c2
      have hp:p.toList.Perm (pe n.toNat):=hp;have:n.toNat=0∨n.toNat=1:=by omega
      rcases this with e|e
      ·rw[e] at hp⊢;exact hp.eq_nil
      ·rw[e] at hp⊢;exact List.perm_singleton.mp hp
    have hpm:p.toList.Perm (pe n.toNat):=hp;have lst:(p.toList.map λi=>(xj n.toNat).getD i .non)=p.toList.map λi:Nat=>V.int (i:Int):=by
     refine Ct λi hi=>?_;have hi:=UV.mp (hpm.mem_iff.mp hi);unfold xj;rw[pB,kg,UU hi];rfl
    rw[lst];have key:=λ(r:Rps bx (Ow B ow) H' (p.toList.map λi:Nat=>Dt.int (i:Int)) (p.toList.map λi:Nat=>V.int (i:Int)))=>z D _ (g1.trans (g2.trans (g3.trans (.new hD _)))) (g1.free (g2.free (g3.free hD))) (by
     rw[←ep];refine xD hD ?_ r;rw[kL,hpm.length_eq,uO];have:n.toNat<64:=by omega
     exact pd (ub this) (by decide))
    have rr:=Yz (bx:=bx) (O:=Ow B ow) (H:=H') (p.toList.map λi:Nat=>(i:Int));rw[uP,uP] at rr;exact key rr
  ·rw[if_neg c] at q;cases q
 ·cases q
end
def kGe2(a b:Dt):Option Dt:=(asP a).bind λx=>(asP b).bind λy=>some (.bool (!lt2 x y))
def W8{bx:Bx}{O:Addr->Prop}{H:Hp}{d:Dt}{v:V}{k:Int×Int}(e:asP d=some k)(r:RpT bx O H d v):∃q,v=.ref q/\H q=some (.tup [.int k.1,.int k.2]):=by
 refine X5 e (r.rp ?_)
 cases d<;>first|rfl|cases e
def Z2.ge2:Z2 rGe2 kGe2:=λbx O H a b d v w Q q ra rb z=>by
 obtain⟨x,e1,q⟩:=kA.mp q;obtain⟨y,e2,q⟩:=kA.mp q
 cases q;obtain⟨p,rfl,h1⟩:=W8 e1 ra;obtain⟨p',rfl,h2⟩:=W8 e2 rb;exact⟨p,p',_,_,_,_,rfl,rfl,h1,h2,z _ H (.refl _ _) .bl⟩
def tyD:Dt->Option String
 |.none=>some "NoneType"
 |.bool _=>some "bool"
 |.int _=>some "int"
 |.str _=>some "str"
 |.list _=>some "list"
 |.tuple _=>some "tuple"
 |_=>none
theorem tyD_F{bx:Bx}{O:Addr->Prop}{H:Hp}{d:Dt}{v:V}{T:String}(e:tyD d=some T)(r:RpT bx O H d v):tyF H v=some T:=by
 cases d with
 |none=>cases e;have r:=r.rp rfl;rw[Rp] at r;subst r;rfl
 |bool b=>cases e;rw[r.bl];rfl
 |int b=>cases e;rw[r.int];rfl
 |str b=>cases e;rw[r.str];rfl
 |list ds=>cases e;obtain⟨p,xs,rfl,h,_⟩:=r.lst;exact tyF_lst h
 |tuple ds=>cases e;obtain⟨p,xs,rfl,_,h,_⟩:=r.tup;exact tyF_tup h
 |_=>cases e
def jY(T:String)(d:Dt):Option Dt:=(tyD d).bind λt=>some (.bool (xZ t T))
section
variable{X:Cx}{bx:Bx}{m:Bool}{e a b:Expr}{f g:En->Option Dt}{pos p p2:Pos}
def dt_ge2(hu:X.A.units+64<cLine)(ha:PE X a (dM bx true f))(hb:PE X b (dM bx true g)):PT X (.Compare a [.GtE] [b] pos) (dT bx (dB (d2 kGe2 f g))):=ct2 (op_ge2 hu) .ge2 ha hb (nomark _)
def Jl{T:String}(hc:yd X (.builtin "isinstance") (Ys T))(hg:Gl X "isinstance")(hm:X.mg "isinstance"=none)(ha:PE X a (dM bx true f))(n1:NS a)(hb:PE X b (tC (.ty T)))(n2:NS b)(he:kJ [a,b] X.env=(false,eval a X.env)::kJ [b] X.env:=by rfl)(hpl:(pX pos (kJ [b] X.env)).any (·.1)=false:=by rfl):PE X (.Call (.Name "isinstance" p) [a,b] [] pos) (dM bx m (d1 (jY T) f)):=
 (xS hc hg hm Yb (pa2 ha n1 hb n2) (he:=he) (hpl:=hpl)).imp λσ H Q⟨B,π,ow,ρ,d,E,q,z⟩=>by
 obtain⟨d0,q1,q⟩:=kA.mp q;obtain⟨t,q2,q⟩:=kA.mp q
 cases q;exact⟨B,π,ow,ρ,d0,E,q1,λv H1 g1 r1=>⟨v,t,rfl,tyD_F q2 (RpM.t r1),z _ H1 g1 (.of .bl)⟩⟩
end
def vv:Dt->Nat->Dt->Dt
 |.list ds,j,c=>.list (ds.set j c)
 |.dK ks ds,j,c=>.dK ks (ds.set j c)
 |.dT ks ds,j,c=>.dT ks (ds.set j c)
 |.dN ks ds,j,c=>.dN ks (ds.set j c)
 |d,_,_=>d
def jb:Dt->List Dt
 |.list ds=>ds
 |.dK _ ds=>ds
 |.dT _ ds=>ds
 |.dN _ ds=>ds
 |_=>[]
def as2:Sl->Option (Bool×Dt)
 |.ow io 2 d=>some (io,d)
 |.ow io 1 (.dT [] [])=>some (io,.dT [] [])
 |.ow io 1 (.dK [] [])=>some (io,.dK [] [])
 |.ow io 1 (.dN [] [])=>some (io,.dN [] [])
 |_=>none
variable{xs:List V}
section
variable{bx:Bx}{B S:Addr->Prop}{π:Nat->Addr}{H H':Hp}{σ:St}{ρ:En}{ow:Os}{i j:Nat}{d c:Dt}{v:V}{p q:Addr}{io:Bool}
def Chd.nil{O:Addr->Prop}(h:Rps bx O H ds xs)(e:ds=[]):Chd bx O H [] ds xs:=by
 subst e;rw[Rps] at h;exact⟨h,rfl,λi d q h1 h2=>nomatch h2⟩
def zk.own2(E:zk bx B π H σ ρ ow)(h:(ρ[i]?).bind as2=some (io,d)):∃n d0 p qs,ρ[i]?=some (.ow io n d0)/\σ[i]?=some (some (.ref p))/\(∀a,ow i a↔a=p∨a∈qs)/\(p::qs).Nodup/\Top bx true H (Chd bx (Ow B ow) H qs) d p:=by
 obtain⟨s,q,h⟩:=kA.mp h;unfold as2 at h
 split at h
 ·cases h;obtain⟨p,e,_,qs,h1,h2,h3⟩:=E.own i _ _ _ q;exact⟨_,_,p,qs,q,e,h1,h2,h3⟩
 ·cases h;obtain⟨p,e,_,h1,xs,h,l,l2,r⟩:=E.own i _ _ _ q;exact⟨_,_,p,[],q,e,λa=>by rw[h1];simp,by simp,xs,h,l,l2,Chd.nil r rfl⟩
 ·cases h;obtain⟨p,e,_,h1,xs,h,l,l2,r⟩:=E.own i _ _ _ q;exact⟨_,_,p,[],q,e,λa=>by rw[h1];simp,by simp,xs,h,l,l2,Chd.nil r rfl⟩
 ·cases h;obtain⟨p,e,_,h1,bs,xs,h,l,l2,l3,kn,r⟩:=E.own i _ _ _ q;exact⟨_,_,p,[],q,e,λa=>by rw[h1];simp,by simp,bs,xs,h,l,l2,l3,kn,Chd.nil r rfl⟩
 ·cases h
theorem Top.setC{W:Bool}{R R':List Dt->List V->Prop}(ls:∀xs,H p=some (.lst xs)->H' p=some (.lst xs))(at':∀u,At W H p u->At W H' p u)(tu:∀a xs,H a=some (.tup xs)->H' a=some (.tup xs))(r:∀ds xs,R ds xs->R' (ds.set j c) xs):∀{d:Dt},Top bx W H R d p->Top bx W H' R' (vv d j c) p
 |.list ds,⟨xs,h,l,q⟩=>⟨xs,ls _ h,l,r _ _ q⟩
 |.dK ks ds,⟨xs,h,l,l2,q⟩=>⟨xs,at' _ h,l,l2,r _ _ q⟩
 |.dT ks ds,⟨xs,h,l,l2,q⟩=>⟨xs,at' _ h,l,l2,r _ _ q⟩
 |.dN ks ds,⟨bs,xs,h,l,l2,l3,kn,q⟩=>⟨bs,xs,at' _ h,l,l2,l3,kn.ts tu,r _ _ q⟩
theorem Top.chd{W:Bool}{R:List Dt->List V->Prop}:∀{d:Dt},Top bx W H R d p->∃xs,R (jb d) xs
 |.list ds,⟨xs,h,l,q⟩=>⟨xs,q⟩
 |.dK ks ds,⟨xs,h,l,l2,q⟩=>⟨xs,q⟩
 |.dT ks ds,⟨xs,h,l,l2,q⟩=>⟨xs,q⟩
 |.dN ks ds,⟨bs,xs,h,l,l2,l3,kn,q⟩=>⟨xs,q⟩
def zk.putCh(E:zk bx B π H σ ρ ow){n:Nat}{d0 d:Dt}{qs:List Addr}(hi:ρ[i]?=some (.ow io n d0))(es:σ[i]?=some (some (.ref p)))(hS:∀a,ow i a↔a=p∨a∈qs)(nd:(p::qs).Nodup)(t:Top bx true H (Chd bx (Ow B ow) H qs) d p)(hq:qs[j]?=some q){u:HO}{ds:List Dt}{xs:List V}{c:Dt}(ku:Okc q u)(r:Rps bx (Ow B ow) H ds xs)
  (mk:∀{O':Addr->Prop}{H':Hp},H' q=some u->(∀m zs,H m=some (.tup zs)->H' m=some (.tup zs))->Rps bx O' H' ds xs->Top bx true H' (Rps bx O' H') c q):∃ow',zk bx B π (upd H q u) σ (ρ.set i (.ow io 2 (vv d j c))) ow'/\Stp B ow H ow' (upd H q u):=by
 have mq:q∈qs:=uD hq;have oq:ow i q:=(hS q).mpr (.inr mq);have npq:p≠q:=λe=>(uS.mp nd).1 (e▸mq);obtain⟨⟨o0,hq0,k0⟩,_⟩:=E.ex i q oq;have np:∀{a o},H a=some o->¬ow i a->upd H q u a=some o:=λ{a o} ha n=>by rw[zp λz=>n (by rw[z];exact oq)];exact ha
 have tu:∀a xs,H a=some (.tup xs)->upd H q u a=some (.tup xs):=λa xs ha=>by rw[zp λz=>by subst z;rw[hq0] at ha;cases ha;exact k0.2.1 _ rfl];exact ha
 have eO:∀{a},Ow B (owP ow i (ow i)) a->Ow B ow a:=λ{a} z=>z.elim .inl λ⟨k,z⟩=>.inr ⟨k,z.elim (λz=>z.1▸z.2) (·.2)⟩;have gd:Gd (Ow B ow) H (Ow B (owP ow i (ow i))) (upd H q u):=⟨tu,λa o ha no=>⟨.inl (np ha λz=>no (.inr ⟨i,z⟩)),λz=>no (eO z)⟩⟩;refine⟨_,E.put (S:=ow i) hi es (λa z=>.inl z) (λa o=>np) tu (λa z=>?_) ⟨qs,hS,nd,t.setC (λxs h=>by rw[zp npq];exact h) (λw z=>z.tt λo h=>by rw[zp npq];exact h) tu λds' xs'⟨e1,e2,z⟩=>⟨e1,by rw[Ui];exact e2,λk d' q' h1 h2=>?_⟩⟩⟩
 ·obtain⟨⟨o,h,k⟩,_⟩:=E.ex i a z
  by_cases e:a=q
  ·subst e;exact⟨_,zM,ku⟩
  ·exact⟨o,by rw[zp e];exact h,k⟩
 ·rcases w5 h1 with⟨rfl,e,l⟩|⟨n,h1⟩
  ·rw[hq] at h2;cases h2;subst e;exact mk zM tu (Rps.go gd _ _ r)
  ·have ne:q'≠q:=λe=>by
    subst e;have nd2:=(uS.mp nd).2;have l1:=(kM.mp h2).1;have l2:=(kM.mp hq).1;exact n ((Dm (h₀:=l1) (h₁:=l2) nd2).mp (by rw[(kM.mp h2).2,(kM.mp hq).2]))
   exact(z k d' q' h1 h2).imp (λxs h=>by rw[zp ne];exact h) (λw _ z=>z.tt λo h=>by rw[zp ne];exact h) tu λ_ _ y=>Rps.go gd _ _ y
end
section
variable{κ α:Type}[DecidableEq κ]
def xt:List κ->κ->Option Nat
 |[],_=>none
 |k'::ks,k=>if k'=k then some 0 else(xt ks k).bind λn=>some (n+1)
theorem jK:∀{ks:List κ}{as:List α}{k:κ}{j:Nat},xt ks k=some j->lkp ks as k=as[j]?
 |[],_,_,_,h=>nomatch h
 |k'::ks,[],k,j,h=>by simp[lkp]
 |k'::ks,a::as,k,j,h=>by
  unfold xt at h;unfold lkp
  by_cases e:k'=k
  ·rw[if_pos e] at h⊢;cases h;rfl
  ·rw[if_neg e] at h⊢;obtain⟨n,q,h⟩:=kA.mp h
   cases h;exact jK q
end
def ixOf:Dt->Dt->Option Nat
 |.dK ks _,k=>(vL k).bind (xt ks)
 |.dT ks _,k=>(vi k).bind (xt ks)
 |_,_=>none
variable{O':Addr->Prop}
section
variable{bx:Bx}{O:Addr->Prop}{H:Hp}{d k:Dt}{v w:V}{p q:Addr}{j:Nat}
theorem top_ch{qs:List Addr}(t:Top bx false H (Chd bx O' H qs) d p)(e:ixOf d k=some j)(r:RpT bx O H k w)(hq:qs[j]?=some q):xH H p w (some (.ref q)):=by
 cases d with
 |dK ks ds=>
  obtain⟨xs,h,l,_,e1,_,_⟩:=t;obtain⟨k',q1,e⟩:=kA.mp e;exact .inl ⟨_,k',h.rd,je q1 r,by rw[wI,jK e,e1,kg,hq];rfl⟩
 |dT ks ds=>
  obtain⟨xs,h,l,_,e1,_,_⟩:=t;obtain⟨k',q1,e⟩:=kA.mp e;obtain⟨b,rfl,hb⟩:=vg q1 r;exact .inr ⟨_,k',b,h.rd,rfl,hb,by rw[wI,jK e,e1,kg,hq];rfl⟩
 |_=>cases e
theorem top_put{x c:Dt}{y:V}(t:Top bx true H (Rps bx O H) d q)(e:putD d k x=some c)(rk:RpT bx O H k y)(rx:Rp bx O H x v):∃u ds xs,DPut H q y v (upd H q u)/\Okc q u/\Rps bx O H ds xs/\∀{O':Addr->Prop}{H':Hp},H' q=some u->Rps bx O' H' ds xs->Top bx true H' (Rps bx O' H') c q:=by
 cases d with
 |dK ks ds=>
  obtain⟨xs,hp,l,lz,rs⟩:=t;have hp:H q=some _:=hp.elim id λz=>nomatch z.1;obtain⟨k',q1,e⟩:=kA.mp e
  by_cases c:ks.length<sizeLine
  ·rw[if_pos c] at e;cases e;refine⟨_,_,_,.inl ⟨_,k',hp,je q1 rk,by rw[uN];omega,rfl⟩,J6,qo (ks:=ks) (k:=k') rs rx,λhH r=>⟨_,.inl (by rw[←j8 l];exact hH),wC l,?_,r⟩⟩
   rw[←wC (a:=v) l];have:=Yc (ks:=ks) (k:=k');omega
  ·rw[if_neg c] at e;cases e
 |dT ks ds=>
  obtain⟨xs,hp,l,lz,rs⟩:=t;have hp:H q=some _:=hp.elim id λz=>nomatch z.1;obtain⟨k',q1,e⟩:=kA.mp e
  by_cases c:ks.length<sizeLine
  ·rw[if_pos c] at e;cases e;obtain⟨b,rfl,hb⟩:=vg q1 rk;refine⟨_,_,_,.inr ⟨_,k',b,hp,rfl,hb,by rw[uN];omega,rfl⟩,Xw,qo (ks:=ks) (k:=k') rs rx,λhH r=>⟨_,.inl (by rw[←j8 l];exact hH),wC l,?_,r⟩⟩
   rw[←wC (a:=v) l];have:=Yc (ks:=ks) (k:=k');omega
  ·rw[if_neg c] at e;cases e
 |_=>cases e
theorem Chd.at{O':Addr->Prop}{qs:List Addr}{d c0:Dt}{W:Bool}(t:Top bx W H (Chd bx O' H qs) d p)(h:(jb d)[j]?=some c0):∃q,qs[j]?=some q/\Top bx true H (Rps bx O' H) c0 q:=by
 obtain⟨xs,_,e2,z⟩:=t.chd;have l:=(kM.mp h).1;rw[e2] at l;exact⟨_,kK l,z j c0 _ h (kK l)⟩
end
def Top.goC{bx:Bx}{O:Addr->Prop}{H H':Hp}{d:Dt}{p:Addr}{qs:List Addr}(g:SD bx O H H')(op:O p)(oq:∀a∈qs,O a)(t:Top bx true H (Chd bx O H qs) d p):Top bx true H' (Chd bx O H' qs) d p:=t.imp (λxs h=>g.ow _ _ h op) (λu _ z=>z.tt λo h=>g.ow _ o h op) g.tu λds xs⟨e1,e2,z⟩=>⟨e1,e2,λi d q h1 h2=>(z i d q h1 h2).sd g λ_=>oq q (uD h2)⟩
def dPut2(i:Nat)(fk fl fv:En->Option Dt):En->Option Ou:=λρ=>(fv ρ).bind λv=>(fk ρ).bind λk=>(fl ρ).bind λl=>((ρ[i]?).bind as2).bind λx=>(ixOf x.2 k).bind λj=>((jb x.2)[j]?).bind λc0=>(putD c0 l v).bind λc=>some (.nx (ρ.set i (.ow x.1 2 (vv x.2 j c))))
variable{ke ve:Expr}{pos' pos'':Pos}{fk fl fv:En->Option Dt}
section
variable{X:Cx}{bx:Bx}{pos:Pos}
def zf9(i:Nat){le:Expr}{xp:Pos}(hu:X.A.units+1<cLine)(hk:PE X ke (dM bx true fk))(hl:PE X le (dM bx true fl))(hv:PE X ve (dM bx false fv))(hn:vQ ke:=by exact λ_ _=>rfl)(hN:X.N[i]?=some x:=by rfl)(vis:Vis X.env.scope x:=by first|exact QZ rfl|exact uU (QZ rfl)|exact uU (uU rfl))(hd:(x==("__debug__":Str))=false:=by decide)(hcd:(x==("__classdict__":Str))=false:=by decide)
  (hs:uh ve (some (.Subscript (.Subscript (.Name x xp) ke pos'') le pos')) pos.line X.env=pure false:=by rfl):PS X (.Assign [.Subscript (.Subscript (.Name x xp) ke pos'') le pos'] ve pos) (dS bx (dPut2 i fk fl fv)):=(YQ hu (J4 hu (yX hN vis hd hcd) hk hn) hl hv hs).imp λD σ H⟨B,π,ow,ρ,o,E,q,z⟩=>by
 obtain⟨v,q1,q⟩:=kA.mp q;obtain⟨k,q2,q⟩:=kA.mp q;obtain⟨l,q3,q⟩:=kA.mp q;obtain⟨⟨io,d0⟩,q4,q⟩:=kA.mp q;obtain⟨j,q5,q⟩:=kA.mp q;obtain⟨c0,q6,q⟩:=kA.mp q;obtain⟨c,q7,q⟩:=kA.mp q
 cases q;obtain⟨n,d1,p,qs,e1,es,hS,nd,t⟩:=E.own2 q4;have op:Ow B ow p:=.inr ⟨i,(hS p).mpr (.inl rfl)⟩;have oq:∀a∈qs,Ow B ow a:=λa m=>.inr ⟨i,(hS a).mpr (.inr m)⟩;obtain⟨a,ha,_⟩:=Chd.at t q6;refine⟨B,π,ow,ρ,v,E,q1,λu H1 g1 r1=>⟨.ref p,es,B,π,ow,ρ,k,E.sd g1,q2,λy H2 g2 r2=>?_⟩⟩;have gg:=g1.trans g2;refine⟨p,.ref a,rfl,top_ch (t.goC gg op oq).less q5 (RpM.t r2) ha,B,π,ow,ρ,l,E.sd gg,q3,λy3 H3 g3 r3=>?_⟩;have ggg:=gg.trans g3;have t3:=t.goC ggg op oq;obtain⟨a',ha',ta⟩:=Chd.at t3 q6;rw[ha] at ha';cases ha';obtain⟨u',ds',xs',hput,ku,rs,mk⟩:=top_put ta q7 (RpM.t r3) (Rp.go (g2.trans g3).gd _ _ r1);obtain⟨ow',E4,s4⟩:=(E.sd ggg).putCh e1 es hS nd t3 ha ku rs λh _ r=>mk h r;exact⟨a,_,rfl,hput,z _ _ _ ((Stp.of ggg).trans s4) E4⟩
end
section
variable{bx:Bx}{B S:Addr->Prop}{π:Nat->Addr}{H H':Hp}{σ:St}{ρ:En}{ow:Os}{i j:Nat}{d c:Dt}{v:V}{p q:Addr}{io:Bool}
def zk.grow(E:zk bx B π H σ ρ ow)(g:SD bx (Ow B ow) H H')(n:H q=none)(hq:∃o,H' q=some o/\Okc q o):zk bx (λa=>B a∨a=q) π H' σ ρ ow:=by
 have E':=E.sd g;have gd:Gd (Ow B ow) H (Ow (λa=>B a∨a=q) ow) H':=(Gd.new n g).trans ⟨λ_ _ h=>h,λa o h no=>⟨.inl h,λz=>no (z.elim (λz=>z.elim (λz=>.inl (.inl z)) .inr) λz=>.inl (.inr z))⟩⟩;refine⟨E'.len,E'.tbs,λa h=>?_,λj d h=>?_,λj io m d h=>?_,λj d h=>?_,E.inj,λj a h=>?_⟩
 ·rcases h with h|rfl
  ·exact E'.bd a h
  ·exact hq
 ·obtain⟨v,ev,r⟩:=E.frz j d h;exact⟨v,ev,Rp.go gd _ _ r⟩
 ·obtain⟨p,ev,ep,r⟩:=E.own j io m d h;exact⟨p,ev,ep,r.go gd λa o s z=>g.ow a o z (.inr ⟨j,s⟩)⟩
 ·obtain⟨v,ev,r,nn⟩:=E.red j d h;exact⟨v,ev,r.go gd (λ_ _ _ z=>g.nw z),nn⟩
 ·obtain⟨x,nb⟩:=E'.ex j a h;refine⟨x,λz=>z.elim nb λe=>?_⟩;subst e;obtain⟨⟨o,ho,_⟩,_⟩:=E.ex j a h;rw[n] at ho;cases ho
theorem Rp.has{O:Addr->Prop}(h:Rp bx O H d (.ref q)):∃o,H q=some o:=by
 cases d with
 |none=>rw[Rp] at h;cases h
 |bool _=>rw[Rp] at h;cases h
 |int _=>rw[Rp] at h;cases h
 |str _=>rw[Rp] at h;cases h
 |tuple _=>obtain⟨p',xs,e,_,h',_⟩:=h.tupE;cases e;exact⟨_,h'⟩
 |scr _=>rw[Rp] at h;obtain⟨p',o,e,_,h',_⟩:=h;cases e;exact⟨_,h'⟩
 |ins _ _=>rw[Rp] at h;obtain⟨p',o,_,e,_,h',_⟩:=h;cases e;exact⟨_,h'⟩
 |list _=>obtain⟨p',e,_,xs,h',_⟩:=h.of_top rfl;cases e;exact⟨_,h'⟩
 |dK _ _=>obtain⟨p',e,_,xs,h',_⟩:=h.of_top rfl;cases e;exact h'.elim (λy=>⟨_,y⟩) λy=>let⟨_,y⟩:=y.2;⟨_,y⟩
 |dT _ _=>obtain⟨p',e,_,xs,h',_⟩:=h.of_top rfl;cases e;exact h'.elim (λy=>⟨_,y⟩) λy=>let⟨_,y⟩:=y.2;⟨_,y⟩
 |dN _ _=>obtain⟨p',e,_,bs,xs,h',_⟩:=h.of_top rfl;cases e;exact h'.elim (λy=>⟨_,y⟩) λy=>let⟨_,y⟩:=y.2;⟨_,y⟩
theorem RpT.has{O:Addr->Prop}(h:RpT bx O H d (.ref q)):∃o,H q=some o:=by
 rcases h with h|⟨p',e',h⟩
 ·exact h.has
 ·cases e'
  cases d with
  |list _=>obtain⟨xs,h',_⟩:=h;exact⟨_,h'⟩
  |dK _ _=>obtain⟨xs,h',_⟩:=h;exact h'.elim (λy=>⟨_,y⟩) λy=>let⟨_,y⟩:=y.2;⟨_,y⟩
  |dT _ _=>obtain⟨xs,h',_⟩:=h;exact h'.elim (λy=>⟨_,y⟩) λy=>let⟨_,y⟩:=y.2;⟨_,y⟩
  |dN _ _=>obtain⟨bs,xs,h',_⟩:=h;exact h'.elim (λy=>⟨_,y⟩) λy=>let⟨_,y⟩:=y.2;⟨_,y⟩
  |_=>exact h.elim
def zk.takeB(E:zk bx (λa=>B a∨a=q) π H σ ρ ow)(nq:¬B q)(nw:¬Own ow q)(hr:∀(j:Nat)(d:Dt)(v:V),ρ[j]?=some (Sl.rd d)->σ[j]?=some (some v)->v≠V.ref q){n0 n:Nat}{d0:Dt}(hi:ρ[i]?=some (.ow io n0 d0))(hp:σ[i]?=some (some (.ref p)))(hS:∀a,S a->ow i a∨a=q)(st:∀a o,H a=some o->¬ow i a->H' a=some o)(tu:∀a xs,H a=some (.tup xs)->H' a=some (.tup xs))(ex:∀a,S a->∃o,H' a=some o/\Okc a o)(w:RpW bx (Ow B (owP ow i S)) H' S n d p):
  zk bx B π H' σ (ρ.set i (.ow io n d)) (owP ow i S):=by
 have sub:∀{a},Ow B (owP ow i S) a->Ow (λa=>B a∨a=q) ow a:=λ{a} z=>by
  rcases z with z|⟨k,⟨_,z⟩|⟨_,z⟩⟩
  ·exact .inl (.inl z)
  ·exact(hS a z).elim (λy=>.inr ⟨i,y⟩) λy=>.inl (.inr y)
  ·exact .inr ⟨k,z⟩
 have g:Gd (Ow (λa=>B a∨a=q) ow) H (Ow B (owP ow i S)) H':=⟨tu,λa o h no=>⟨.inl (st a o h λz=>no (.inr ⟨i,z⟩)),λz=>no (sub z)⟩⟩;refine⟨by rw[Ui];exact E.len,λa h=>?_,λa m=>?_,λj d' h=>?_,λj io' n' d' h=>?_,λj d' h=>?_,λj k a h1 h2=>?_,λj a h=>?_⟩
 ·obtain⟨ps,e,tr,z⟩:=E.tbs a h;refine⟨ps,st _ _ e λm=>?_,tr,z.imp id λ⟨c,e1,hc⟩=>⟨c,e1,st _ _ hc λm=>?_⟩⟩
  ·obtain⟨⟨o,y,n⟩,_⟩:=E.ex i _ m;rw[e] at y;cases y;exact n.1 _ rfl
  ·obtain⟨⟨o,y,n⟩,_⟩:=E.ex i _ m;rw[hc] at y;cases y;exact n.2.2 _ rfl
 ·obtain⟨o,z,n⟩:=E.bd a (.inl m);exact⟨o,st a o z λy=>(E.ex i a y).2 (.inl m),n⟩
 ·rcases w5 h with⟨rfl,e,l⟩|⟨n,h⟩
  ·cases e
  ·obtain⟨u,e,r⟩:=E.frz j d' h;exact⟨u,e,Rp.go g _ _ r⟩
 ·rcases w5 h with⟨rfl,e,l⟩|⟨nj,h⟩
  ·cases e;obtain⟨p',e1,e2,_⟩:=E.own j _ _ _ hi;rw[hp] at e1;cases e1;rw[Xl];exact⟨p,hp,e2,w⟩
  ·obtain⟨u,e,e2,r⟩:=E.own j io' n' d' h;rw[Jk nj];exact⟨u,e,e2,r.go g λa o s z=>st a o z λy=>nj (E.inj j i a s y)⟩
 ·rcases w5 h with⟨rfl,e,l⟩|⟨n,h⟩
  ·cases e
  ·obtain⟨u,e,r,nn⟩:=E.red j d' h;refine⟨u,e,r.go g λp o e0 y=>.inl (st p o y λm=>nn p e0 ⟨i,m⟩),λp e0⟨x,z⟩=>?_⟩;rcases z with⟨_,z⟩|⟨_,z⟩
   ·rcases hS p z with y|y
    ·exact nn p e0 ⟨i,y⟩
    ·exact hr j d' u h e (y▸e0)
   ·exact nn p e0 ⟨x,z⟩
 ·rcases h1 with⟨e1,z1⟩|⟨e1,z1⟩<;>rcases h2 with⟨e2,z2⟩|⟨e2,z2⟩
  ·rw[e1,e2]
  ·rcases hS a z1 with y|y
   ·exact absurd (E.inj k i a z2 y) e2
   ·exact absurd ⟨k,y▸z2⟩ nw
  ·rcases hS a z2 with y|y
   ·exact absurd (E.inj j i a z1 y) e1
   ·exact absurd ⟨j,y▸z1⟩ nw
  ·exact E.inj j k a z1 z2
 ·rcases h with⟨_,z⟩|⟨nj,z⟩
  ·refine⟨ex a z,λm=>?_⟩;rcases hS a z with y|y
   ·exact(E.ex i a y).2 (.inl m)
   ·exact nq (y▸m)
  ·obtain⟨⟨o,y,n⟩,nb⟩:=E.ex j a z;exact⟨⟨o,st a o y λm=>nj (E.inj j i a z m),n⟩,λm=>nb (.inl m)⟩
end
def zax{κ:Type}[DecidableEq κ]{ks:List κ}{k:κ}(h:wN ks k=false):k∉ks:=of_decide_eq_false h
def addCh:Dt->Dt->Dt->Option Dt
 |.dT ks ds,k,c=>(vi k).bind λk=>if ks.length<sizeLine/\wN ks k=false then some (.dT (ks++[k]) (ds++[c])) else none
 |_,_,_=>none
def dPutN(i:Nat)(fk fc:En->Option Dt):En->Option Ou:=λρ=>(fc ρ).bind λc=>(fk ρ).bind λk=>((ρ[i]?).bind as2).bind λx=>(addCh x.2 k c).bind λd=>some (.nx (ρ.set i (.ow x.1 2 d)))
variable{H':Hp}
section
variable{X:Cx}{bx:Bx}{pos:Pos}
theorem Chd.snoc{O:Addr->Prop}{H:Hp}{qs:List Addr}{q:Addr}{c:Dt}(h:Chd bx O H qs ds xs)(k:∀(d:Dt)(a:Addr),a∈qs->Top bx true H (Rps bx O H) d a->Top bx true H' (Rps bx O' H') d a)(t:Top bx true H' (Rps bx O' H') c q):Chd bx O' H' (qs++[q]) (ds++[c]) (xs++[.ref q]):=by
 obtain⟨e1,e2,z⟩:=h;refine⟨by rw[e1,pT];rfl,by rw[kO,kO,e2];rfl,λi d a h1 h2=>?_⟩
 by_cases l:i<qs.length
 ·rw[pW (by omega)] at h1
  rw[pW l] at h2;exact k d a (uD h2) (z i d a h1 h2)
 ·rw[pJ (by omega)] at h1
  rw[pJ (by omega)] at h2
  rw[e2] at h1
  cases e:i-qs.length with
  |zero=>rw[e] at h1 h2;cases h1;cases h2;exact t
  |succ m=>rw[e] at h1;cases h1
theorem zcs(i:Nat){xp:Pos}{fc:En->Option Dt}(hu:X.A.units+1<cLine)(hk:PE X ke (dM bx true fk))(hv:PE X ve (dF bx fc))(hN:X.N[i]?=some x:=by rfl)(vis:Vis X.env.scope x:=by first|exact QZ rfl|exact uU (QZ rfl)|exact uU (uU rfl))(hd:(x==("__debug__":Str))=false:=by decide)(hcd:(x==("__classdict__":Str))=false:=by decide)
  (hs:uh ve (some (.Subscript (.Name x xp) ke pos')) pos.line X.env=pure false:=by rfl):PS X (.Assign [.Subscript (.Name x xp) ke pos'] ve pos) (dS bx (dPutN i fk fc)):=(YQ hu (yX hN vis hd hcd) hk hv hs).imp λD σ H⟨B,π,ow,ρ,o,E,q,z⟩=>by
 obtain⟨c,q1,q⟩:=kA.mp q;obtain⟨k,q2,q⟩:=kA.mp q;obtain⟨⟨io,d0⟩,q3,q⟩:=kA.mp q;obtain⟨d,q4,q⟩:=kA.mp q
 cases q;obtain⟨_,_,p,_,_,es,_⟩:=E.own2 q3;refine⟨B,π,ow,ρ,c,E,q1,λa H1 g1 na tc=>⟨.ref p,es,?_⟩⟩;have E1:=E.grow g1 na tc.obj;refine⟨_,π,ow,ρ,k,E1,q2,λy H2 g2 r2=>?_⟩;have g2':SD bx (Ow B ow) H1 H2:=g2.less λb m=>m.elim (λm=>.inl (.inl m)) .inr;have gg:=g1.trans g2';have E2:=E1.sd g2;have nO:¬Ow B ow a:=E.apart na;have tc1:Top bx true H1 (Rps bx (Ow (λb=>B b∨b=a) ow) H1) c a:=tc.imp (λ_ z=>z) (λ_ _ z=>z) (λ_ _ z=>z) λ_ _ z=>Rps.go ⟨λ_ _ h=>h,λm o h no=>⟨.inl h,λz=>no (z.elim (λz=>z.elim (λz=>.inl (.inl z)) .inr) λz=>.inl (.inr z))⟩⟩ _ _ z;have tc2:=tc1.sd g2 λ_=>.inl (.inr rfl);obtain⟨n,d1,p',qs,e1,es',hS,nd,t2⟩:=E2.own2 q3;rw[es] at es';cases es';have op:ow i p:=(hS p).mpr (.inl rfl);have oq:∀m∈qs,ow i m:=λm h=>(hS m).mpr (.inr h)
 cases d0 with
 |dT ks ds=>
  obtain⟨k',q5,q4⟩:=kA.mp q4
  by_cases cc:ks.length<sizeLine/\wN ks k'=false
  ·rw[if_pos cc] at q4;cases q4;have cn:k'∉ks:=zax cc.2;obtain⟨xs,hp,l,lz,rc⟩:=t2;have hp:H2 p=some _:=hp.elim id λz=>nomatch z.1;obtain⟨b,rfl,hb⟩:=vg q5 (RpM.t r2);have ez:xq (ks.zip xs) k' (.ref a)=(ks++[k']).zip (xs++[.ref a]):=by rw[j8 l];unfold pK pV;rw[if_neg cn,if_neg cn]
   have pa:p≠a:=λe=>nO (.inr ⟨i,e▸op⟩);have ap:a≠p:=λe=>pa e.symm;generalize hu':HO.dT (xq (ks.zip xs) k' (.ref a))=u at*;have ku:Okc p u:=by rw[←hu'];exact Xw
   have st:∀m o,H2 m=some o->¬ow i m->upd H2 p u m=some o:=λm o h n=>by rw[zp λz=>n (by rw[z];exact op)];exact h
   have tu:∀m zs,H2 m=some (.tup zs)->upd H2 p u m=some (.tup zs):=λm zs h=>by rw[zp λz=>by subst z;rw[hp] at h;cases h];exact h
   have gq:∀m∈qs,m≠p:=λm h e=>(uS.mp nd).1 (e▸h);have na':a∉qs:=λh=>nO (.inr ⟨i,oq a h⟩);have sub:∀{m},Ow B (owP ow i λm=>ow i m∨m=a) m->Ow (λb=>B b∨b=a) ow m:=λ{m} z=>by
    rcases z with z|⟨j,⟨_,z⟩|⟨_,z⟩⟩
    ·exact .inl (.inl z)
    ·exact z.elim (λz=>.inr ⟨i,z⟩) λz=>.inl (.inr z)
    ·exact .inr ⟨j,z⟩
   have g3:Gd (Ow (λb=>B b∨b=a) ow) H2 (Ow B (owP ow i λm=>ow i m∨m=a)) (upd H2 p u):=⟨tu,λm o h no=>⟨.inl (st m o h λz=>no (.inr ⟨i,z⟩)),λz=>no (sub z)⟩⟩;have kp:∀(d:Dt)(m:Addr),m≠p->Top bx true H2 (Rps bx (Ow (λb=>B b∨b=a) ow) H2) d m->Top bx true (upd H2 p u) (Rps bx (Ow B (owP ow i λm=>ow i m∨m=a)) (upd H2 p u)) d m:=λd m ne t=>t.imp (λxs h=>by rw[zp ne];exact h) (λw _ z=>z.tt λo h=>by rw[zp ne];exact h) tu λ_ _ y=>Rps.go g3 _ _ y
   refine⟨p,upd H2 p u,rfl,.inr ⟨_,k',b,hp,rfl,hb,by rw[uN];omega,by rw[←hu']⟩,?_⟩
   refine z σ _ (owP ow i λm=>ow i m∨m=a) ⟨λm zs h=>tu m zs (gg.tu m zs h),λm o h no=>?_⟩ (zk.takeB E2 (λm=>nO (.inl m)) (λm=>nO (.inr m)) (λj d v h1 h2 e=>?_) e1 es (λm z=>z) st tu (λm z=>?_) ⟨qs++[a],λm=>?_,?_,xs++[.ref a],.inl (by rw[←ez,hu'];exact zM),by rw[kO,kO,l];rfl,by rw[kO,←l];show ks.length+1<=_;omega,rc.snoc (λd m h t=>kp d m (gq m h) t) (kp c a ap tc2)⟩)
   ·obtain⟨⟨z1,z2⟩,_⟩:=(Stp.of gg).st m o h no;have nm:m≠p:=λe=>no ⟨i,e▸op⟩;rw[zp nm];refine⟨⟨z1,z2⟩,λ⟨j,z⟩=>?_⟩;rcases z with⟨_,z|z⟩|⟨_,z⟩
    ·exact no ⟨i,z⟩
    ·rw[z,na] at h;cases h
    ·exact no ⟨j,z⟩
   ·obtain⟨v',ev,r,_⟩:=E.red j d h1;rw[h2] at ev;cases ev;subst e;obtain⟨o,ho⟩:=r.has;rw[na] at ho;cases ho
   ·by_cases e:m=p
    ·subst e;exact⟨_,zM,ku⟩
    ·rw[zp e];rcases z with z|z
     ·exact(E2.ex i m z).1
     ·subst z;exact E2.bd m (.inr rfl)
   ·show(ow i m∨m=a)↔_
    rw[hS,pS,kf,or_assoc]
   ·rw[uS] at nd⊢;refine⟨λh=>(pS.mp h).elim nd.1 λh=>pa (kf.mp h),?_⟩;rw[QA];exact⟨nd.2,by simp,λx hx y hy e=>na' (by rw[←kf.mp hy,←e];exact hx)⟩
  ·rw[if_neg cc] at q4;cases q4
 |_=>cases q4
end
def spW(bx:Bx)(F:Dt->List Dt->Option Dt):Sp:=λvs H Q _=>∃(B S:Addr->Prop)(p:Addr)(us:List V)(d0:Dt)(ds:List Dt)(d1:Dt),vs=.ref p::us/\(∀a,B a->∃o,H a=some o/\Okc a o)/\(∀a,S a->(∃o,H a=some o/\Okc a o)/\¬B a)/\bx.lt H/\RpW bx (λa=>B a∨S a) H S 2 d0 p/\Rps bx (λa=>B a∨S a) H ds us/\F d0 ds=some d1/\
 ∀H'(S':Addr->Prop),bx.lt H'->(∀a xs,H a=some (.tup xs)->H' a=some (.tup xs))->(∀a o,H a=some o->¬S a->((B a->H' a=some o)/\Nw a o (H' a))/\¬S' a)->(∀a,S' a->(∃o,H' a=some o/\Okc a o)/\¬B a)->RpW bx (λa=>B a∨S' a) H' S' 2 d1 p->Q .non H'
def w2:Sl->Option Dt
 |.ow true 2 d=>some d
 |_=>none
def outW:Ou->Option Dt
 |.nx ρ=>(ρ[0]?).bind w2
 |.rt .none ρ=>(ρ[0]?).bind w2
 |_=>none
def dFnW(n k:Nat)(f:En->Option Ou):Dt->List Dt->Option Dt:=λd0 ds=>if ds.length+1=k then(f (.ow true 2 d0::(ds.map Sl.fz++uC (n-(ds.length+1)) .un))).bind outW else none
def w2_at{ρ:En}{d:Dt}(h:(ρ[0]?).bind w2=some d):ρ[0]?=some (.ow true 2 d):=by
 obtain⟨s,q,h⟩:=kA.mp h;unfold w2 at h
 split at h<;>cases h
 exact q
theorem zk.initW{bx:Bx}{B S:Addr->Prop}{H:Hp}{N:List Str}{d0:Dt}{us:List V}{p:Addr}(bd:∀a,B a->∃o,H a=some o/\Okc a o)(bs:∀a,S a->(∃o,H a=some o/\Okc a o)/\¬B a)(ht:bx.lt H)(w:RpW bx (λa=>B a∨S a) H S 2 d0 p)(r:Rps bx (λa=>B a∨S a) H ds us):
  zk bx B (λ_=>p) H (start N (.ref p::us)) (.ow true 2 d0::(ds.map Sl.fz++uC (N.length-(ds.length+1)) .un)) (λj a=>j=0/\S a):=by
 have sub:∀{a},Ow B (λj a=>j=0/\S a) a->B a∨S a:=λ{a} z=>z.elim .inl λ⟨_,z⟩=>.inr z.2;have gd:Gd (λa=>B a∨S a) H (Ow B λj a=>j=0/\S a) H:=⟨λ_ _ h=>h,λa o h no=>⟨.inl h,λz=>no (sub z)⟩⟩;have sl:∀{j s},(ds.map Sl.fz++uC (N.length-(ds.length+1)) Sl.un)[j]?=some s->s≠Sl.un->∃d,s=Sl.fz d/\ds[j]?=some d:=λ{j s} h nu=>by
  by_cases l:j<ds.length
  ·rw[pW (by rw[kL];exact l),kg,kK l] at h
   cases h;exact⟨_,rfl,kK l⟩
  ·rw[pJ (by rw[kL];omega),ul] at h
   split at h<;>cases h
   exact absurd rfl nu
 have e0:(λa=>(0:Nat)=0/\S a)=S:=by funext a;simp
 refine⟨by unfold start;simp[r.len],ht,bd,λj d h=>?_,λj io n d h=>?_,λj d h=>?_,λi j a h1 h2=>by rw[h1.1,h2.1],λi a h=>bs a h.2⟩
 ·cases j with
  |zero=>cases h
  |succ j=>
   obtain⟨d',e,q⟩:=sl (j:=j) (by simpa using h) (by intro z;cases z)
   cases e;obtain⟨x,ex,rx⟩:=r.get q;refine⟨x,?_,Rp.go gd _ _ rx⟩;unfold start;rw[kY,List.cons_append,List.getElem?_cons_succ,pW (by rw[kL];exact(kM.mp ex).1),kg,ex]
   rfl
 ·cases j with
  |zero=>
   cases h;refine⟨p,rfl,λ_=>rfl,?_⟩;rw[e0];exact w.go gd λa o s z=>z
  |succ j=>obtain⟨d',e,q⟩:=sl (j:=j) (by simpa using h) (by intro z;cases z);cases e
 ·cases j with
  |zero=>cases h
  |succ j=>obtain⟨d',e,q⟩:=sl (j:=j) (by simpa using h) (by intro z;cases z);cases e
variable{k:Nat}
theorem VY{bx:Bx}{N:List Str}{f:En->Option Ou}{vs:List V}{H:Hp}{E:XK}(h:spW bx (dFnW N.length k f) vs H Q E):vs.length=k/\dS bx f {nx:=λ_ H'=>Q .non H',rt:=Q} (start N vs) H:=by
 obtain⟨B,S,p,us,d0,ds,d1,rfl,bd,bs,ht,w,r,q,z⟩:=h;unfold dFnW at q
 by_cases l:ds.length+1=k
 ·rw[if_pos l] at q;obtain⟨o,q1,q2⟩:=kA.mp q;refine⟨by rw[pH,←r.len];exact l,B,λ_=>p,_,_,o,zk.initW bd bs ht w r,q1,?_⟩
  have fin:∀{ρ' σ' H' ow'},ρ'[0]?=some (.ow true 2 d1)->Stp B (λj a=>j=0/\S a) H ow' H'->zk bx B (λ_=>p) H' σ' ρ' ow'->Q .non H':=λ{ρ' σ' H' ow'} e s E=>by
   obtain⟨p',_,ep,w'⟩:=E.own 0 _ _ _ e
   cases ep rfl;refine z H' (ow' 0) E.tbs s.tu (λa o h n=>?_) (λa m=>E.ex 0 a m) (w'.go ⟨λ_ _ h=>h,λa o h no=>⟨.inl h,λy=>no (y.elim .inl λy=>.inr ⟨0,y⟩)⟩⟩ λa o _ h=>h);obtain⟨h1,h2⟩:=s.st a o h λ⟨_,y⟩=>n y.2;exact⟨h1,λy=>h2 ⟨0,y⟩⟩
  cases o with
  |nx ρ'=>exact λσ' H' ow' s E=>fin (w2_at q2) s E
  |rt d' ρ'=>
   cases d' with
   |none=>exact λv σ' H' ow' s E r=>by rw[Rp] at r;subst r;exact fin (w2_at q2) s E
   |_=>cases q2
  |_=>cases q2
 ·rw[if_neg l] at q;cases q
def Fun.okW{P:kW}{w:kq}{mg:Str->Option kC}{base:Heap}{bx:Bx}{f:Addr}{N:List Str}{fs:En->Option Ou}(F:Fun K x qual st f fd)(S:zA N ps (zo st))
  (hb:∀(cdv:kC)(A:pI)(outer:List Env)(s:kE)(H:Hp)(E:XK),zD k (A.deeper (QL qual (zo st) s.heap.objs.size f cdv))->PSs (ym CX0 P w K mg base N qual (zo st) f cdv A outer s H E).nox (ya st) (dS bx fs)):
  zw P w K mg base CX0 (k+1) f fd ps (spW bx (dFnW N.length ps.length fs)):=
 F.ok S (λvs H Q E h=>(VY h).1) λcdv A outer s H vs Q E hr h=>⟨_,hb cdv A outer s H E hr,(VY h).2⟩
def dIo(i:Nat)(F:Dt->List Dt->Option Dt)(ga:En->Option (List Dt)):En->Option Ou:=λρ=>(ga ρ).bind λds=>((ρ[i]?).bind as2).bind λx=>(F x.2 ds).bind λd=>some (.nx (ρ.set i (.ow x.1 2 d)))
section
variable{X:Cx}{bx:Bx}{e:Expr}{es:List Expr}{pos p xp cpos:Pos}{ga:En->Option (List Dt)}{f:En->Option Dt}
theorem YV(i:Nat){k':Nat}{F:Dt->List Dt->Option Dt}{y:Str}(ok:zw X.prog X.w X.K X.mg X.base CX0 k fa fd ps (spW bx F))(T:zG X.K X.mg x st ps fa fd)(hr:zD k' X.A)(ha:PA X es (dA bx ga))(hk:k<=k':=by decide)(hg:Gl X x:=by rfl)(hdb:(x==("__debug__":Str))=false:=by decide)(hN:X.N[i]?=some y:=by rfl)(vis:Vis X.env.scope y:=by first|exact QZ rfl|exact uU (QZ rfl)|exact uU (uU rfl))(hd:(y==("__debug__":Str))=false:=by decide)(hcd:(y==("__classdict__":Str))=false:=by decide)
  (he:kJ (.Name y xp::es) X.env=(false,eval (.Name y xp) X.env)::kJ es X.env:=by rfl) (hpl:(pX cpos (kJ es X.env)).any (·.1)=false:=by rfl) (hs:uh (.Call (.Name x p) (.Name y xp::es) [] cpos) none pos.line X.env=pure false:=by rfl):
  PS X (.Expr (.Call (.Name x p) (.Name y xp::es) [] cpos) pos) (dS bx (dIo i F ga)):=(wz (ZP ok T hr (vP (yX hN vis hd hcd) ha (zg _ _)) hk hg hdb he hpl) hs).imp λD σ H⟨B,π,ow,ρ,o,E,q,z⟩=>by
 obtain⟨ds,q1,q⟩:=kA.mp q;obtain⟨⟨io,d0⟩,q2,q⟩:=kA.mp q;obtain⟨d1,q3,q⟩:=kA.mp q
 cases q;obtain⟨_,_,p,_,_,es',_⟩:=E.own2 q2;refine⟨.ref p,es',B,π,ow,ρ,ds,E,q1,λvs H1 g1 r1=>?_⟩;have E1:=E.sd g1;obtain⟨n,d',p',qs,e1,e2,hS,nd,t⟩:=E1.own2 q2;rw[es'] at e2;cases e2;have eq1:∀{a},((B a∨∃j,j≠i/\ow j a)∨ow i a)->Ow B ow a:=λ{a} z=>z.elim (λz=>z.elim .inl λ⟨j,z⟩=>.inr ⟨j,z.2⟩) λz=>.inr ⟨i,z⟩;have gd:Gd (Ow B ow) H1 (λa=>(B a∨∃j,j≠i/\ow j a)∨ow i a) H1:=⟨λ_ _ h=>h,λa o h no=>⟨.inl h,λz=>no (eq1 z)⟩⟩;have w0:RpW bx (Ow B ow) H1 (ow i) 2 d0 p:=⟨qs,hS,nd,t⟩;refine⟨λa=>B a∨∃j,j≠i/\ow j a,ow i,p,vs,d0,ds,d1,by rw[uo],λa m=>?_,λa m=>⟨(E1.ex i a m).1,λz=>?_⟩,E1.tbs,w0.go gd λa o _ h=>h,Rps.go gd _ _ r1,q3,λH' S' lt tu st ex w=>?_⟩
 ·exact E1.has a (m.elim .inl λ⟨j,m⟩=>.inr ⟨j,m.2⟩)
 ·rcases z with z|⟨j,nj,z⟩
  ·exact(E1.ex i a m).2 z
  ·exact nj (E1.inj j i a z m)
 ·have sub:∀{a},Ow B (owP ow i S') a->(B a∨∃j,j≠i/\ow j a)∨S' a:=λ{a} z=>by
   rcases z with z|⟨j,⟨_,z⟩|⟨nj,z⟩⟩
   ·exact .inl (.inl z)
   ·exact .inr z
   ·exact .inl (.inr ⟨j,nj,z⟩)
  obtain⟨E2,s2⟩:=E1.atG i (S:=S') (σ':=σ) (s:=.ow io 2 d1) rfl (λj n=>rfl) (λa m=>by
    by_cases c:ow i a
    ·exact .inl c
    ·cases ha:H1 a with
     |none=>exact .inr rfl
     |some o=>exact absurd m (st a o ha c).2) (λa o h m n=>(st a o h n).1.1 (m.elim .inl λ⟨j,y⟩=>.inr ⟨j,λe=>n (e▸y),y⟩)) (λa o h n=>(st a o h n).1.2) tu lt (λa m=>(ex a m).1) (λl=>by
    obtain⟨p',e3,e4,_⟩:=E1.own i _ _ _ e1;rw[es'] at e3;cases e3;exact⟨p,es',e4,w.go ⟨λ_ _ h=>h,λa o h no=>⟨.inl h,λy=>no (sub y)⟩⟩ λa o _ h=>h⟩)
  exact z σ H' _ ((Stp.of g1).trans s2) E2
def jE(neg:Bool)(f:En->Option Dt)(i:Nat):En->Option Dt:=λρ=>(f ρ).bind λk=>((ρ[i]?).bind as2).bind λx=>(jD x.2 k).bind λc=>some (.bool (if neg=true then !c else c))
def din2{m:Bool}{i:Nat}{σ:St}{H:Hp}(h:dM bx m (jE neg f i) σ H Q):dM bx true f σ H λy H1=>∃x,σ[i]?=some (some x)/\∃a o,x=.ref a/\xH H1 a y o/\Q (.bl (if neg=true then !o.isSome else o.isSome)) H1:=by
 obtain⟨B,π,ow,ρ,x,E,q,z⟩:=h;obtain⟨k,q1,q⟩:=kA.mp q;obtain⟨⟨io,d0⟩,q2,q⟩:=kA.mp q;obtain⟨c,q3,q⟩:=kA.mp q
 cases q;refine⟨B,π,ow,ρ,k,E,q1,λv H1 g1 r1=>?_⟩;obtain⟨n,d',p,qs,e1,e2,hS,nd,t⟩:=(E.sd g1).own2 q2;obtain⟨o,hg,e⟩:=VG t.less q3 (RpM.t r1);exact⟨.ref p,e2,p,o,rfl,hg,by rw[e];exact z _ H1 g1 (.of .bl)⟩
theorem din2_b{i:Nat}{σ:St}{H:Hp}{Q:Bool->Hp->Prop}(h:dT bx (dB (jE neg f i)) σ H Q):dM bx true (jE neg f i) σ H λx H1=>∃c,x=.bl c/\Q c H1:=by
 obtain⟨B,π,ow,ρ,c,E,q,z⟩:=h;obtain⟨x,q1,q2⟩:=kA.mp q;refine⟨B,π,ow,ρ,x,E,q1,λv H1 g1 r1=>?_⟩
 cases x with
 |bool y=>cases q2;exact⟨_,(RpM.t r1).bl,z H1 g1⟩
 |_=>cases q2
def dt_dni2(i:Nat){y:Str}{a:Expr}(hu:X.A.units+1<cLine)(hi:PE X a (dM bx true f))(hN:X.N[i]?=some y:=by rfl)(vis:Vis X.env.scope y:=by first|exact QZ rfl|exact uU (QZ rfl)|exact uU (uU rfl))(hd:(y==("__debug__":Str))=false:=by decide)(hcd:(y==("__classdict__":Str))=false:=by decide)(h1:um .NotIn (.Name y xp)=false:=by rfl):PT X (.Compare a [.NotIn] [.Name y xp] pos) (dT bx (dB (jE true f i))):=(XQ (WX hu hi (yX hN vis hd hcd)) h1).imp λσ H Q h=>din2 (din2_b h)
end
section
variable{bx:Bx}{O:Addr->Prop}{H:Hp}{d:Dt}{v:V}
theorem JY:∀{ds:List Dt}{xs:List V}{k:K2},YI ds=some k->Rps bx O H ds xs->∃cs:List Addr,xs=cs.map V.ref/\Ae (λ(c:Addr)(k:List Key)=>H c=some (.tup (k.map kV))) cs k
 |[],xs,k,e,r=>by cases e;rw[Rps] at r;subst r;exact⟨[],rfl,.nil⟩
 |d::ds,xs,k,e,r=>by
  obtain⟨k1,q1,e⟩:=kA.mp e;obtain⟨ks,q2,e⟩:=kA.mp e
  cases e;rw[Rps] at r;obtain⟨x,t,rfl,r1,r2⟩:=r;obtain⟨b,rfl,hb⟩:=vg q1 (.of r1);obtain⟨cs,rfl,pr⟩:=JY q2 r2;exact⟨b::cs,rfl,.cons hb pr⟩
theorem Wd{k:K2}(e:nKey d=some k)(r:RpT bx O H d v):∃b,v=.ref b/\NK H b k:=by
 cases d with
 |tuple ds=>
  obtain⟨p,xs,rfl,_,h,_,rs⟩:=r.tup;obtain⟨cs,rfl,pr⟩:=JY e rs;exact⟨p,rfl,cs,h,pr⟩
 |_=>cases e
end
theorem jx:∀{ks:List K2}{bs:List Addr}{xs:List V}{k:K2},ks.length=bs.length->bs.length=xs.length->yy (ks.zip (bs.zip xs)) k=lkp ks xs k
 |[],_,_,_,_,_=>by simp[yy,lkp]
 |k'::ks,b::bs,x::xs,k,l1,l2=>by
  show yy ((k',b,x)::ks.zip (bs.zip xs)) k=lkp (k'::ks) (x::xs) k
  unfold lkp
  by_cases e:k'=k
  ·rw[Xi e,if_pos e]
  ·rw[Yi e,if_neg e];exact jx (by simpa using l1) (by simpa using l2)
 |_::_,[],_,_,l1,_=>nomatch l1
 |_::_,_::_,[],_,_,l2=>nomatch l2
theorem YH{κ α:Type}[DecidableEq κ]:∀{ks:List κ}{as:List α}{k:κ},xt ks k=none->lkp ks as k=none
 |[],as,_,_=>by cases as<;>simp[lkp]
 |k'::ks,[],k,h=>by simp[lkp]
 |k'::ks,a::as,k,h=>by
  unfold xt at h;unfold lkp
  by_cases e:k'=k
  ·rw[if_pos e] at h;cases h
  ·rw[if_neg e] at h⊢
   cases q:xt ks k with
   |none=>exact YH q
   |some n=>rw[q] at h;cases h
theorem VI{α β γ:Type}:∀{as:List α}{bs:List β}{cs:List γ}{a:α}{b:β}{c:γ},as.length=bs.length->bs.length=cs.length->as.zip (bs.zip cs)++[(a,b,c)]=(as++[a]).zip ((bs++[b]).zip (cs++[c]))
 |[],[],[],_,_,_,_,_=>rfl
 |x::as,y::bs,z::cs,a,b,c,l1,l2=>by
  show(x,y,z)::(as.zip (bs.zip cs)++[(a,b,c)])=(x,y,z)::(as++[a]).zip ((bs++[b]).zip (cs++[c]))
  rw[VI (by simpa using l1) (by simpa using l2)]
 |[],_::_,_,_,_,_,l1,_=>nomatch l1
 |_::_,[],_,_,_,_,l1,_=>nomatch l1
 |_,[],_::_,_,_,_,_,l2=>nomatch l2
 |_,_::_,[],_,_,_,_,l2=>nomatch l2
def Ja{P:kW}{w:kq}{a:Addr}{l:List N3}:Okc a (nD P w a l):=⟨qN,(by intro q z;cases z),λq z=>JM z⟩
section
variable{bx:Bx}{B:Addr->Prop}{π:Nat->Addr}{H H2:Hp}{σ:St}{ρ:En}{ow:Os}{i n:Nat}{d d1 c:Dt}{p a:Addr}{io:Bool}{qs:List Addr}{u:HO}
def zk.addCh(E:zk bx B π H σ ρ ow)(gg:SD bx (Ow B ow) H H2)(na:H a=none)(E2:zk bx (λb=>B b∨b=a) π H2 σ ρ ow)(tc2:Top bx true H2 (Rps bx (Ow (λb=>B b∨b=a) ow) H2) c a)(e1:ρ[i]?=some (.ow io n d1))(es:σ[i]?=some (some (.ref p)))(hS:∀a,ow i a↔a=p∨a∈qs)(nd:(p::qs).Nodup)(ku:Okc p u)
  (mk:∀{O':Addr->Prop}{H':Hp},H' p=some u->(∀m zs,H2 m=some (.tup zs)->H' m=some (.tup zs))->(∀ds xs,Chd bx (Ow (λb=>B b∨b=a) ow) H2 qs ds xs->Chd bx O' H' (qs++[a]) (ds++[c]) (xs++[.ref a]))->Top bx true H' (Chd bx O' H' (qs++[a])) d p):
  ∃ow',zk bx B π (upd H2 p u) σ (ρ.set i (.ow io 2 d)) ow'/\Stp B ow H ow' (upd H2 p u)/\(∀m,ow' i m↔m=p∨m∈qs++[a])/\(p::(qs++[a])).Nodup/\Top bx true (upd H2 p u) (Chd bx (Ow B ow') (upd H2 p u) (qs++[a])) d p:=by
 have nO:¬Ow B ow a:=E.apart na;have op:ow i p:=(hS p).mpr (.inl rfl);have oq:∀m∈qs,ow i m:=λm h=>(hS m).mpr (.inr h);have pa:p≠a:=λe=>nO (.inr ⟨i,e▸op⟩);have ap:a≠p:=λe=>pa e.symm;obtain⟨⟨o0,hp,k0⟩,_⟩:=E2.ex i p op;have st:∀m o,H2 m=some o->¬ow i m->upd H2 p u m=some o:=λm o h n=>by rw[zp λz=>n (by rw[z];exact op)];exact h
 have tu:∀m zs,H2 m=some (.tup zs)->upd H2 p u m=some (.tup zs):=λm zs h=>by rw[zp λz=>by subst z;rw[hp] at h;cases h;exact k0.2.1 _ rfl];exact h
 have gq:∀m∈qs,m≠p:=λm h e=>(uS.mp nd).1 (e▸h);have na':a∉qs:=λh=>nO (.inr ⟨i,oq a h⟩);have sub:∀{m},Ow B (owP ow i λm=>ow i m∨m=a) m->Ow (λb=>B b∨b=a) ow m:=λ{m} z=>by
  rcases z with z|⟨j,⟨_,z⟩|⟨_,z⟩⟩
  ·exact .inl (.inl z)
  ·exact z.elim (λz=>.inr ⟨i,z⟩) λz=>.inl (.inr z)
  ·exact .inr ⟨j,z⟩
 have g3:Gd (Ow (λb=>B b∨b=a) ow) H2 (Ow B (owP ow i λm=>ow i m∨m=a)) (upd H2 p u):=⟨tu,λm o h no=>⟨.inl (st m o h λz=>no (.inr ⟨i,z⟩)),λz=>no (sub z)⟩⟩;have kp:∀(d:Dt)(m:Addr),m≠p->Top bx true H2 (Rps bx (Ow (λb=>B b∨b=a) ow) H2) d m->Top bx true (upd H2 p u) (Rps bx (Ow B (owP ow i λm=>ow i m∨m=a)) (upd H2 p u)) d m:=λd m ne t=>t.imp (λxs h=>by rw[zp ne];exact h) (λw _ z=>z.tt λo h=>by rw[zp ne];exact h) tu λ_ _ y=>Rps.go g3 _ _ y
 have hS':∀m,(ow i m∨m=a)↔m=p∨m∈qs++[a]:=λm=>by rw[hS,pS,kf,or_assoc]
 have nd':(p::(qs++[a])).Nodup:=by
  rw[uS] at nd⊢;refine⟨λh=>(pS.mp h).elim nd.1 λh=>pa (kf.mp h),?_⟩;rw[QA];exact⟨nd.2,by simp,λx hx y hy e=>na' (by rw[←kf.mp hy,←e];exact hx)⟩
 have tt:=mk (O':=Ow B (owP ow i λm=>ow i m∨m=a)) zM tu λds xs rc=>rc.snoc (λd m h t=>kp d m (gq m h) t) (kp c a ap tc2);refine⟨owP ow i λm=>ow i m∨m=a,zk.takeB E2 (λm=>nO (.inl m)) (λm=>nO (.inr m)) (λj d v h1 h2 e=>?_) e1 es (λm z=>z) st tu (λm z=>?_) ⟨qs++[a],hS',nd',tt⟩,⟨λm zs h=>tu m zs (gg.tu m zs h),λm o h no=>?_⟩,(by rw[Xl];exact hS'),nd',tt⟩
 ·obtain⟨v',ev,r,_⟩:=E.red j d h1;rw[h2] at ev;cases ev;subst e;obtain⟨o,ho⟩:=r.has;rw[na] at ho;cases ho
 ·by_cases e:m=p
  ·subst e;exact⟨_,zM,ku⟩
  ·rw[zp e];rcases z with z|z
   ·exact(E2.ex i m z).1
   ·subst z;exact E2.bd m (.inr rfl)
 ·obtain⟨⟨z1,z2⟩,_⟩:=(Stp.of gg).st m o h no;have nm:m≠p:=λe=>no ⟨i,e▸op⟩;rw[zp nm];refine⟨⟨z1,z2⟩,λ⟨j,z⟩=>?_⟩;rcases z with⟨_,z|z⟩|⟨_,z⟩
  ·exact no ⟨i,z⟩
  ·rw[z,na] at h;cases h
  ·exact no ⟨j,z⟩
end
variable{qs:List Addr}
def Chd.mv{bx:Bx}{O:Addr->Prop}{H:Hp}(g:Gd O H O' H')(kp:∀m∈qs,∀o,H m=some o->H' m=some o)(h:Chd bx O H qs ds xs):Chd bx O' H' qs ds xs:=⟨h.1,h.2.1,λi d q h1 h2=>(h.2.2 i d q h1 h2).imp (λxs z=>kp q (uD h2) _ z) (λu _ z=>z.tt λo=>kp q (uD h2) o) g.tu λ_ _ y=>Rps.go g _ _ y⟩
def Z0{ks:List K2}{bs:List Addr}{k:K2}{b:Addr}{v:V}(l1:ks.length=bs.length)(l2:bs.length=xs.length)(h:yy (ks.zip (bs.zip xs)) k=none):yH (ks.zip (bs.zip xs)) k b v=(ks++[k]).zip ((bs++[b]).zip (xs++[v])):=by
 unfold yH;rw[h,if_neg (by decide),VI l1 l2]
def sdAp(d k v:Dt):Option Dt:=match d with
 |.dN ks ds=>(nKey k).bind λkk=>if ks.length<sizeLine then match xt ks kk with
  |some j=>(ds[j]?).bind λc=>match c with
   |.list cs=>if cs.length<sizeLine then some (.dN ks (ds.set j (.list (cs++[v])))) else none
   |_=>none
  |none=>some (.dN (ks++[kk]) (ds++[.list [v]])) else none
 |_=>none
def dSdAp(i:Nat)(fk:En->Option Dt)(j:Nat):En->Option Ou:=λρ=>(fk ρ).bind λk=>(dV j ρ).bind λv=>((ρ[i]?).bind as2).bind λx=>(sdAp x.2 k v).bind λd=>some (.nx (ρ.set i (.ow x.1 2 d)))
variable{xp cpos apos:Pos}
section
variable{X:Cx}{bx:Bx}{pos:Pos}
theorem ds_sdap(i j:Nat){y:Str}{yp lp apos2:Pos}{cpos2:Pos}(hP:X.prog=bx.P)(hw:X.w=bx.w)(hu:X.A.units+64<cLine)(hk:PE X ke (dM bx true fk))(ij:i≠j:=by decide)(m:M2 X (.Name x xp) "setdefault" apos ke (.List [] lp) cpos:=by exact⟨rfl,rfl,rfl,rfl⟩)(hN:X.N[i]?=some x:=by rfl)(vis:Vis X.env.scope x:=by first|exact QZ rfl|exact uU (QZ rfl)|exact uU (uU rfl))(hd:(x==("__debug__":Str))=false:=by decide)(hcd:(x==("__classdict__":Str))=false:=by decide)
  (hN2:X.N[j]?=some y:=by rfl) (vis2:Vis X.env.scope y:=by first|exact QZ rfl|exact uU (QZ rfl)|exact uU (uU rfl)) (hd2:(y==("__debug__":Str))=false:=by decide) (hcd2:(y==("__classdict__":Str))=false:=by decide)
  (m2:M1 X (.Call (.Attribute (.Name x xp) "setdefault" apos) [ke,.List [] lp] [] cpos) "append" apos2 (.Name y yp) cpos2:=by exact⟨rfl,rfl,rfl,rfl⟩) (hs:kJ [.Name y yp] X.env=(false,eval (.Name y yp) X.env)::kJ [] X.env:=by rfl) (hplain:(pX cpos2 (kJ [] X.env)).any (·.1)=false:=by rfl)
  (hsw:uh (.Call (.Attribute (.Call (.Attribute (.Name x xp) "setdefault" apos) [ke,.List [] lp] [] cpos) "append" apos2) [.Name y yp] [] cpos2) none pos.line X.env=pure false:=by rfl):
  PS X (.Expr (.Call (.Attribute (.Call (.Attribute (.Name x xp) "setdefault" apos) [ke,.List [] lp] [] cpos) "append" apos2) [.Name y yp] [] cpos2) pos) (dS bx (dSdAp i fk j)):=
 (wz (jO Qj gF gG qK (pe_nsd hP hw hu (yX hN vis hd hcd) hk (zZ (bx:=bx) ze) m) (pa1 (yX hN2 vis2 hd2 hcd2) zg) m2.base m2.few m2.line hs hplain) hsw).imp λD σ H⟨B,π,ow,ρ,o,E,q,z⟩=>by
 obtain⟨k,q1,q⟩:=kA.mp q;obtain⟨v,q2,q⟩:=kA.mp q;obtain⟨⟨io,d0⟩,q3,q⟩:=kA.mp q;obtain⟨d,q4,q⟩:=kA.mp q
 cases q;obtain⟨sj,q5,q2⟩:=kA.mp q2;have q5:ρ[j]?=some (.fz v):=by cases sj<;>cases q2;exact q5
 cases d0 with
 |dN ks ds=>
  unfold sdAp at q4;obtain⟨kk,q6,q4⟩:=kA.mp q4
  by_cases ls:ks.length<sizeLine
  ·rw[if_pos ls] at q4;obtain⟨n,d1,p,qs,e1,es,hS,nd,t⟩:=E.own2 q3;have op:Ow B ow p:=.inr ⟨i,(hS p).mpr (.inl rfl)⟩;have oq:∀a∈qs,Ow B ow a:=λa m=>.inr ⟨i,(hS a).mpr (.inr m)⟩;obtain⟨bs,xs,h0,l1,l2,l3,kn0,rc0⟩:=t;have h0:H p=some _:=h0.elim id λz=>nomatch z.1;refine⟨.ref p,es,p,rfl,⟨_,h0⟩,B,π,ow,ρ,k,E,q1,λy1 H1 g1 r1=>⟨B,π,ow,ρ,.list [],E.sd g1,rfl,λa H2 g2 na tc=>?_⟩⟩;have gg:=g1.trans g2;have naH:H a=none:=g1.free na;have Eg:=E.grow gg naH tc.obj;obtain⟨b,rfl,hb⟩:=Wd q6 ((RpM.t r1).sd g2);have hp:H2 p=some _:=gg.ow p _ h0 op;have kn:=kn0.ts gg.tu;have rcB:=rc0.mv gg.gd λm h o z=>gg.ow m o z (oq m h);refine⟨_,kk,b,hp,kn,rfl,hb,by rw[uN,uN];omega,λu hu'=>?_,λhu'=>?_⟩
   ·--it stands
    rw[jx l1 l2] at hu'
    cases e3:xt ks kk with
    |none=>rw[YH e3] at hu';cases hu'
    |some jj=>
     rw[e3] at q4;obtain⟨c0,q7,q4⟩:=kA.mp q4;rw[jK e3,rcB.1,kg] at hu';have t2:Top bx true H2 (Chd bx (Ow B ow) H2 qs) (.dN ks ds) p:=⟨bs,xs,.inl hp,l1,l2,l3,kn,rcB⟩;obtain⟨qa,hq,tq⟩:=Chd.at (j:=jj) (c0:=c0) t2 q7;rw[hq] at hu';cases hu'
     cases c0 with
     |list cs=>
      by_cases lc:cs.length<sizeLine
      ·have q4:(if cs.length<sizeLine then some (Dt.dN ks (ds.set jj (.list (cs++[v])))) else none)=some d:=q4;rw[if_pos lc] at q4;cases q4;obtain⟨ys,hy,ly,ry⟩:=tq;have E2:=E.sd gg;obtain⟨vj,ej,rj⟩:=E2.frz j v q5;obtain⟨ow',E4,s4⟩:=E2.putCh (j:=jj) e1 es hS nd t2 hq (u:=.lst (ys++[vj])) (c:=.list (cs++[v])) wY (ry.app (.cons rj .nil)) λhH _ r=>⟨_,hH,by rw[kO,←ry.len];exact lc,r⟩
       exact⟨.inl ⟨rfl,ys,.of hy⟩,vj,ej,qa,ys,vj,rfl,rfl,hy,by rw[←ry.len];exact lc,z _ _ _ ((Stp.of gg).trans s4) E4⟩
      ·have q4:(if cs.length<sizeLine then some (Dt.dN ks (ds.set jj (.list (cs++[v])))) else none)=some d:=q4;rw[if_neg lc] at q4;cases q4
     |_=>cases q4
   ·--it is new
    have hn:=hu';rw[jx l1 l2] at hu'
    cases e3:xt ks kk with
    |some jj=>
     rw[jK e3,rcB.1,kg] at hu';rw[e3] at q4;obtain⟨c0,q7,q4⟩:=kA.mp q4;have l:=(kM.mp q7).1;rw[rcB.2.1] at l;rw[kK l] at hu';cases hu'
    |none=>
     rw[e3] at q4
     cases q4;have nO:¬Ow B ow a:=E.apart naH;have gdG:Gd (Ow B ow) H (Ow (λb=>B b∨b=a) ow) H2:=(Gd.new naH gg).trans ⟨λ_ _ h=>h,λm o h no=>⟨.inl h,λz=>no (z.elim (λz=>z.elim (λz=>.inl (.inl z)) .inr) λz=>.inl (.inr z))⟩⟩;have rcG:=rc0.mv gdG λm h o z=>gg.ow m o z (oq m h);have tc2:Top bx true H2 (Rps bx (Ow (λb=>B b∨b=a) ow) H2) (.list []) a:=tc.imp (λ_ z=>z) (λ_ _ z=>z) (λ_ _ z=>z) λ_ _ z=>Rps.go ⟨λ_ _ h=>h,λm o h no=>⟨.inl h,λz=>no (z.elim (λz=>z.elim (λz=>.inl (.inl z)) .inr) λz=>.inl (.inr z))⟩⟩ _ _ z;have ez:=Z0 (b:=b) (v:=V.ref a) l1 l2 hn;obtain⟨ow4,E4,s4,hS4,nd4,t4⟩:=E.addCh (d:=.dN (ks++[kk]) (ds++[.list []])) (u:=nD bx.P bx.w p (yH (ks.zip (bs.zip xs)) kk b (.ref a))) gg naH Eg tc2 e1 es hS nd Ja λhH tu sn=>⟨bs++[b],xs++[.ref a],.inl (by rw[←ez];exact hH),by rw[kO,kO,l1];rfl,by rw[kO,kO,l2];rfl,by rw[kO,QX];omega,by rw[←ez];exact(kn.put hb).ts tu,sn _ _ rcG⟩
     have il:i<ρ.length:=(kM.mp e1).1;have ei:(ρ.set i (.ow io 2 (.dN (ks++[kk]) (ds++[.list []]))))[i]?=some (.ow io 2 (.dN (ks++[kk]) (ds++[.list []]))):=QN il;have ej':(ρ.set i (.ow io 2 (.dN (ks++[kk]) (ds++[.list []]))))[j]?=some (.fz v):=by rw[Qg ij];exact q5
     obtain⟨vj,ej,rj⟩:=E4.frz j v ej';have hq:(qs++[a])[ds.length]?=some a:=by rw[rc0.2.1,pJ (kN _),Dk];rfl
     obtain⟨q9,h9,tq⟩:=Chd.at (j:=ds.length) (c0:=.list []) t4 (by show(ds++[Dt.list []])[ds.length]?=_;rw[pJ (kN _),Dk];rfl)
     rw[hq] at h9;cases h9;obtain⟨ys,hy,ly,ry⟩:=tq;rw[Rps] at ry;subst ry;obtain⟨ow5,E5,s5⟩:=E4.putCh (j:=ds.length) ei es hS4 nd4 t4 hq (u:=.lst ([]++[vj])) (c:=.list [v]) wY (.cons rj .nil) λhH _ r=>⟨_,hH,by show 1<=sizeLine;decide,r⟩
     have ed:vv (.dN (ks++[kk]) (ds++[.list []])) ds.length (.list [v])=.dN (ks++[kk]) (ds++[.list [v]]):=by
      show Dt.dN (ks++[kk]) ((ds++[Dt.list []]).set ds.length (.list [v]))=_
      rw[List.set_append_right _ _ (kN _),Dk];rfl
     rw[List.set_set,ed] at E5;exact⟨.inl ⟨rfl,[],.of hy⟩,vj,ej,a,[],vj,rfl,rfl,hy,by decide,z _ _ _ (s4.trans s5) E5⟩
  ·rw[if_neg ls] at q4;cases q4
 |_=>cases q4
end
section
variable{X:Cx}{P:kW}{w:kq}{o e f i:Expr}{td ty tx:TE}{apos cpos pos:Pos}
def tNGetR(P:kW)(w:kq)(td ty:TE):TE:=λσ H Q=>td σ H λx H1=>ty σ H1 λy H2=>∃a kvs b k v,x=.ref a/\y=.ref b/\Rd H2 a (nD P w a kvs)/\KN H2 kvs/\NK H2 b k/\yy kvs k=some v/\Q v H2
theorem zae(hP:X.prog=P)(hw:X.w=w)(hu:X.A.units+64<cLine)(ho:PE X o td)(hi:PE X i ty)(hs:vQ i):PE X (.Subscript o i pos) (tNGetR P w td ty):=by
 subst hP hw;intro pins s σ H Q I h;refine Vw Az.lookup hs (thn (ho pins s σ H _ I h) λu s1⟨x,H1,I1,rx,q1⟩=>thn (hi pins s1 σ H1 _ I1 q1) λiv s2⟨y,H2,I2,ry,a,kvs,b,k,v,ex,ey,e,kn,nk,hv,q2⟩=>?_);subst ex ey;obtain rfl:u=ki a:=rx;obtain rfl:iv=ki b:=ry;obtain⟨zz,hd,xs,rel,dd⟩:=Wl I2.hok e kn;have rv:=rel.val k;rw[hv] at rv
 cases ha:atKey xs k with
 |none=>rw[ha] at rv;exact rv.elim
 |some p=>
  rw[ha] at rv;exact⟨dd.typeIs,DJ (Xs (by omega)) (qY I2.hok nk) dd ha ⟨v,H2,I2.tok _,rv,q2⟩⟩
def rListNR(P:kW)(w:kq):List V->Hp->VK->Prop:=λxs H Q=>∃d kvs,xs=[.ref d]/\Rd H d (nD P w d kvs)/\∀l,H l=none->Q (.ref l) (upd H l (.lst (kvs.map λp=>.ref p.2.1)))
theorem za6(hP:X.prog=P)(hw:X.w=w)(hc:X.calm=true):yd X (.type "list") (rListNR P w):=by
 subst hP hw;intro pins s σ H xs us Q I r h;obtain⟨d,kvs,rfl,e,q⟩:=h;obtain⟨u,rfl,rx⟩:=vals1 r
 cases rx;obtain⟨⟨hd,z,_,xs,rel,o,es,ep,ho,hx,hdat,he⟩,_⟩:=(show zV X.prog X.w H s.heap d (nD X.prog X.w d kvs) from e.ok I.hok);have ek:=rel.keys.2;have hk:es.toList.map (·.key)=(kvs.map λp=>p.2.1).map ki:=by
  rw[he,uP,←ek,uP];rfl
 have ls:es.size=kvs.length:=by
  have:=congrArg EJ hk
  simpa using this
 refine YS (I.ok.hd hc) hd ho hx.1 hdat (λh' tk acc' c' kp hS hacc=>?_) (by omega)
 have ea:acc'.toList=(kvs.map λp=>p.2.1).map ki:=by
  rw[←hk];refine QT λj=>?_;rw[kg,uR,uR];have ha:acc'.size=es.size:=hacc.1
  by_cases hj:j<es.size
  ·have hj':j<acc'.size:=by omega
   obtain⟨e,e1,e2⟩:=hacc.2 j acc'[j] (pR hj');rw[pR hj',e1,e2];rfl
  ·rw[ud (by omega),ud (by omega)]
   rfl
 have em:(kvs.map λp=>V.ref p.2.1)=(kvs.map λp=>p.2.1).map V.ref:=by rw[uP];rfl
 refine⟨.ref s.heap.objs.size,_,I.laid (t':=tk) kp (kN _) (o:=.lst (kvs.map λp=>V.ref p.2.1)) ⟨by rw[kL];exact z,acc'.toList,c',by rw[em];exact Wy ea,by simpa using hS⟩,rfl,q _ (I.hok.fresh (kN _))⟩
end
def nkD(k:K2):Dt:=.tuple (k.map tkD)
def qO:Dt->Option Dt
 |.dN ks _=>if(ks.all λk=>decide (k.length<=sizeLine)&&k.all λl=>decide (l.length<=sizeLine))=true then some (.list (ks.map nkD)) else none
 |_=>none
def Wt:Dt->Dt->Option Dt
 |.dN ks ds,k=>(nKey k).bind (lkp ks ds)
 |_,_=>none
section
variable{bx:Bx}{O:Addr->Prop}{H:Hp}
theorem Js(no:∀a,O a->∃o,H a=some o/\Okc a o):∀{cs:List Addr}{ks:K2},Ae (λ(c:Addr)(k:List Key)=>H c=some (.tup (k.map kV))) cs ks->(∀k∈ks,k.length<=sizeLine)->Rps bx O H (ks.map tkD) (cs.map V.ref)
 |_,_,.nil,_=>.nil
 |_,_,.cons h p,l=>.cons (ZY no h (l _ (by simp))) (Js no p λk m=>l k (by simp[m]))
def rp_nkD(no:∀a,O a->∃o,H a=some o/\Okc a o){b:Addr}{k:K2}(h:NK H b k)(l:k.length<=sizeLine)(l2:∀x∈k,x.length<=sizeLine):Rp bx O H (nkD k) (.ref b):=by
 obtain⟨cs,hb,pr⟩:=h;unfold nkD;rw[Rp];refine⟨b,_,rfl,λm=>?_,hb,by rw[kL,Uj pr];exact l,Js no pr l2⟩
 obtain⟨o,ho,k⟩:=no b m;rw[hb] at ho;cases ho;exact k.2.1 _ rfl
theorem JO(no:∀a,O a->∃o,H a=some o/\Okc a o):∀{ks:List K2}{bs:List Addr}{xs:List V},ks.length=bs.length->bs.length=xs.length->KN H (ks.zip (bs.zip xs))->(∀k∈ks,k.length<=sizeLine/\∀x∈k,x.length<=sizeLine)->Rps bx O H (ks.map nkD) ((ks.zip (bs.zip xs)).map λp=>V.ref p.2.1)
 |[],_,_,_,_,_,_=>.nil
 |k::ks,b::bs,x::xs,l1,l2,kn,l=>.cons (rp_nkD no (kn (k,b,x) (by simp)) (l k (by simp)).1 (l k (by simp)).2) (JO no (by simpa using l1) (by simpa using l2) (λp m=>kn p (by simp[m])) λk m=>l k (by simp[m]))
 |_::_,[],_,l1,_,_,_=>nomatch l1
 |_::_,_::_,[],_,l2,_,_=>nomatch l2
end
section
variable{X:Cx}{bx:Bx}{m:Bool}{o e i:Expr}{f g:En->Option Dt}{pos p:Pos}
def df_dN(hP:X.prog=bx.P)(hw:X.w=bx.w):PE X (.Dict [] [] pos) (dF bx (dC (.dN [] []))):=(pe_nnew hP hw).imp λσ H Q⟨B,π,ow,ρ,d,E,q,z⟩=>by
 cases q;exact λp n=>z p _ (.new n _) n ⟨[],[],.inl zM,rfl,rfl,uF _,(by intro p m;cases m),.nil⟩
theorem V1(hP:X.prog=bx.P)(hw:X.w=bx.w)(hu:X.A.units+64<cLine)(ho:PE X o (dM bx true f))(hi:PE X i (dM bx true g))(hs:vQ i:=by exact λ_ _=>rfl):PE X (.Subscript o i pos) (dM bx m (d2 Wt f g)):=(zae hP hw hu ho hi hs).imp λσ H Q⟨B,π,ow,ρ,x,E,q,z⟩=>by
 obtain⟨d,q1,q⟩:=kA.mp q;obtain⟨k,q2,q⟩:=kA.mp q
 cases d with
 |dN ks ds=>
  obtain⟨kk,q3,q⟩:=kA.mp q;refine⟨B,π,ow,ρ,_,E,q1,λv H1 g1 r1=>⟨B,π,ow,ρ,k,E.sd g1,q2,λw H2 g2 r2=>?_⟩⟩;obtain⟨p,rfl,bs,xs,h,l1,l2,l3,kn,rs⟩:=((RpM.t r1).sd g2).top rfl;obtain⟨b,rfl,hb⟩:=Wd q3 (RpM.t r2);obtain⟨u,eu,ru⟩:=qP rs q;exact⟨p,_,b,kk,u,rfl,rfl,h.rd,kn,hb,by rw[jx l1 l2,eu],z u H2 (g1.trans g2) (.of ru)⟩
 |_=>cases q
theorem V2(hP:X.prog=bx.P)(hw:X.w=bx.w)(hc:X.calm=true)(hg:Gl X "list")(hm:X.mg "list"=none)(he0:PE X e (dM bx true f))(n0:NS e)(he:kJ [e] X.env=(false,eval e X.env)::kJ [] X.env:=by rfl)(hpl:(pX pos (kJ [] X.env)).any (·.1)=false:=by rfl):PE X (.Call (.Name "list" p) [e] [] pos) (dF bx (d1 qO f)):=(jo (za6 hP hw hc) hg hm j4 (pa1 he0 n0) (he:=he) (hpl:=hpl)).imp λσ H Q⟨B,π,ow,ρ,d,E,q,z⟩=>by
 obtain⟨d0,q1,q⟩:=kA.mp q
 cases d0 with
 |dN ks ds=>
  unfold qO at q;dsimp only at q
  by_cases c:(ks.all λk=>decide (k.length<=sizeLine)&&k.all λl=>decide (l.length<=sizeLine))=true
  ·rw[if_pos c] at q;cases q;refine⟨B,π,ow,ρ,_,E,q1,λv H1 g1 r1=>?_⟩;obtain⟨p,rfl,bs,xs,h,l1,l2,l3,kn,rs⟩:=(RpM.t r1).top rfl;refine⟨p,_,rfl,h.rd,λl n=>z l _ (g1.trans (.new n _)) (g1.free n) (xD n ?_ (JO (E.sd g1).has l1 l2 kn λk mk=>?_))⟩
   ·rw[kL,uN,uN];omega
   ·have:=UA.mp c k mk;rw[ui] at this;exact⟨of_decide_eq_true this.1,λx hx=>of_decide_eq_true (UA.mp this.2 x hx)⟩
  ·rw[if_neg c] at q;cases q
 |_=>cases q
end
def ixL:Dt->Dt->Option Nat
 |.list ds,.int i=>ixN ds.length i
 |_,_=>none
variable{H:Hp}
theorem W5{bx:Bx}{O:Addr->Prop}{d k:Dt}{w:V}{p a:Addr}{j:Nat}{W:Bool}(t:Top bx W H (Chd bx O' H qs) d p)(e:ixL d k=some j)(r:RpT bx O H k w)(hq:qs[j]?=some a)(z:Q (.ref a) H):rIx K (.ref p) w H Q:=by
 cases d with
 |list ds=>
  cases k with
  |int i=>
   rw[r.int];obtain⟨xs,h,l,e1,e2,_⟩:=t;refine .inl ⟨p,xs,i,.ref a,rfl,rfl,.of h,?_,z⟩;unfold atI;rw[e1,kL,←e2,show ixN ds.length i=some j from e];show(qs.map V.ref)[j]?=_;rw[kg,hq];rfl
  |_=>cases e
 |_=>cases e
def apD:Dt->Dt->Option Dt
 |.list cs,v=>if cs.length<sizeLine then some (.list (cs++[v])) else none
 |_,_=>none
def dAp2(i:Nat)(fk fv:En->Option Dt):En->Option Ou:=λρ=>(fk ρ).bind λk=>(fv ρ).bind λv=>((ρ[i]?).bind as2).bind λx=>(ixL x.2 k).bind λj=>((jb x.2)[j]?).bind λc0=>(apD c0 v).bind λc=>some (.nx (ρ.set i (.ow x.1 2 (vv x.2 j c))))
def putDN:Dt->Dt->Dt->Option Dt
 |.dN ks ds,k,v=>(nKey k).bind λkk=>if ks.length<sizeLine/\(xt ks kk).isNone=true then some (.dN (ks++[kk]) (ds++[v])) else none
 |_,_,_=>none
def V3(i:Nat)(fk fl fv:En->Option Dt):En->Option Ou:=λρ=>(fv ρ).bind λv=>(fk ρ).bind λk=>(fl ρ).bind λl=>((ρ[i]?).bind as2).bind λx=>(ixL x.2 k).bind λj=>((jb x.2)[j]?).bind λc0=>(putDN c0 l v).bind λc=>some (.nx (ρ.set i (.ow x.1 2 (vv x.2 j c))))
section
variable{X:Cx}{bx:Bx}{pos:Pos}{e:Expr}
theorem ds_app2(i:Nat){sp:Pos}(hk:PE X ke (dM bx true fk))(he:PE X e (dM bx false fv))(n:NS e)(hpx:jh ke:=by exact λ_ _=>rfl)(hN:X.N[i]?=some x:=by rfl)(vis:Vis X.env.scope x:=by first|exact QZ rfl|exact uU (QZ rfl)|exact uU (uU rfl))(hd:(x==("__debug__":Str))=false:=by decide)(hcd:(x==("__classdict__":Str))=false:=by decide)
  (m2:M1 X (.Subscript (.Name x xp) ke sp) "append" apos e cpos:=by exact⟨rfl,rfl,rfl,rfl⟩) (hs:kJ [e] X.env=(false,eval e X.env)::kJ [] X.env:=by rfl) (hplain:(pX cpos (kJ [] X.env)).any (·.1)=false:=by rfl)
  (hsw:uh (.Call (.Attribute (.Subscript (.Name x xp) ke sp) "append" apos) [e] [] cpos) none pos.line X.env=pure false:=by rfl):
  PS X (.Expr (.Call (.Attribute (.Subscript (.Name x xp) ke sp) "append" apos) [e] [] cpos) pos) (dS bx (dAp2 i fk fv)):=
 (wz (jO Qj gF gG qK (Wr We (yX hN vis hd hcd) hk hpx) (pa1 he n) m2.base m2.few m2.line hs hplain) hsw).imp λD σ H⟨B,π,ow,ρ,o,E,q,z⟩=>by
 obtain⟨k,q1,q⟩:=kA.mp q;obtain⟨v,q2,q⟩:=kA.mp q;obtain⟨⟨io,d0⟩,q3,q⟩:=kA.mp q;obtain⟨j,q4,q⟩:=kA.mp q;obtain⟨c0,q5,q⟩:=kA.mp q;obtain⟨c,q6,q⟩:=kA.mp q
 cases q;obtain⟨n,d1,p,qs,e1,es,hS,nd,t⟩:=E.own2 q3;have op:Ow B ow p:=.inr ⟨i,(hS p).mpr (.inl rfl)⟩;have oq:∀a∈qs,Ow B ow a:=λa m=>.inr ⟨i,(hS a).mpr (.inr m)⟩;obtain⟨a,ha,ta⟩:=Chd.at t q5
 cases c0 with
 |list cs=>
  unfold apD at q6;dsimp only at q6
  by_cases lc:cs.length<sizeLine
  ·rw[if_pos lc] at q6;cases q6;obtain⟨ys0,hy0,_⟩:=id ta;refine⟨.ref p,es,B,π,ow,ρ,k,E,q1,λy H1 g1 r1=>W5 (t.goC g1 op oq) q4 (RpM.t r1) ha ⟨.inl ⟨rfl,ys0,.of (g1.ow a _ hy0 (oq a (uD ha)))⟩,B,π,ow,ρ,v,E.sd g1,q2,λu H2 g2 r2=>?_⟩⟩;have gg:=g1.trans g2;have t2:=t.goC gg op oq;obtain⟨a',ha',ys,hy,ly,ry⟩:=Chd.at t2 q5;rw[ha] at ha';cases ha';obtain⟨ow',E4,s4⟩:=(E.sd gg).putCh (j:=j) e1 es hS nd t2 ha (u:=.lst (ys++[u])) (c:=.list (cs++[v])) wY (ry.app (.cons r2 .nil)) λhH _ r=>⟨_,hH,by rw[kO,←ry.len];exact lc,r⟩
   exact⟨a,ys,u,rfl,rfl,hy,by rw[←ry.len];exact lc,z _ _ _ ((Stp.of gg).trans s4) E4⟩
  ·rw[if_neg lc] at q6;cases q6
 |_=>cases q6
theorem zdv(i:Nat){le:Expr}(hP:X.prog=bx.P)(hw:X.w=bx.w)(hu:X.A.units+64<cLine)(hk:PE X ke (dM bx true fk))(hl:PE X le (dM bx true fl))(hv:PE X ve (dM bx false fv))(hpx:jh ke:=by exact λ_ _=>rfl)(hN:X.N[i]?=some x:=by rfl)(vis:Vis X.env.scope x:=by first|exact QZ rfl|exact uU (QZ rfl)|exact uU (uU rfl))(hd:(x==("__debug__":Str))=false:=by decide)(hcd:(x==("__classdict__":Str))=false:=by decide)
  (hs:uh ve (some (.Subscript (.Subscript (.Name x xp) ke pos'') le pos')) pos.line X.env=pure false:=by rfl):PS X (.Assign [.Subscript (.Subscript (.Name x xp) ke pos'') le pos'] ve pos) (dS bx (V3 i fk fl fv)):=(ps_nput hP hw hu (Wr We (yX hN vis hd hcd) hk hpx) hl hv hs).imp λD σ H⟨B,π,ow,ρ,o,E,q,z⟩=>by
 obtain⟨v,q1,q⟩:=kA.mp q;obtain⟨k,q2,q⟩:=kA.mp q;obtain⟨l,q3,q⟩:=kA.mp q;obtain⟨⟨io,d0⟩,q4,q⟩:=kA.mp q;obtain⟨j,q5,q⟩:=kA.mp q;obtain⟨c0,q6,q⟩:=kA.mp q;obtain⟨c,q7,q⟩:=kA.mp q
 cases q;obtain⟨n,d1,p,qs,e1,es,hS,nd,t⟩:=E.own2 q4;have op:Ow B ow p:=.inr ⟨i,(hS p).mpr (.inl rfl)⟩;have oq:∀a∈qs,Ow B ow a:=λa m=>.inr ⟨i,(hS a).mpr (.inr m)⟩;obtain⟨a,ha,_⟩:=Chd.at t q6;refine⟨B,π,ow,ρ,v,E,q1,λu H1 g1 r1=>⟨.ref p,es,B,π,ow,ρ,k,E.sd g1,q2,λy H2 g2 r2=>?_⟩⟩;have gg:=g1.trans g2;refine W5 (t.goC gg op oq) q5 (RpM.t r2) ha ⟨B,π,ow,ρ,l,E.sd gg,q3,λy3 H3 g3 r3=>?_⟩;have ggg:=gg.trans g3;have t3:=t.goC ggg op oq;obtain⟨a',ha',ta⟩:=Chd.at t3 q6;rw[ha] at ha';cases ha'
 cases c0 with
 |dN ks ds=>
  obtain⟨kk,q8,q7⟩:=kA.mp q7
  by_cases cc:ks.length<sizeLine/\(xt ks kk).isNone=true
  ·rw[if_pos cc] at q7;cases q7;obtain⟨bs,xs,hp,l1,l2,l3,kn,rs⟩:=ta;have hp:H3 a=some _:=hp.elim id λz=>nomatch z.1;obtain⟨b,rfl,hb⟩:=Wd q8 (RpM.t r3);have hn:yy (ks.zip (bs.zip xs)) kk=none:=by rw[jx l1 l2];exact YH (by simpa using cc.2)
   have ez:=Z0 (b:=b) (v:=u) l1 l2 hn;have r1':=Rp.go (g2.trans g3).gd _ _ r1;have op':∀m zs,H3 m=some (.tup zs)->m≠a:=λm zs h e=>by subst e;rw[hp] at h;cases h
   obtain⟨ow',E4,s4⟩:=(E.sd ggg).putCh (j:=j) e1 es hS nd t3 ha (u:=nD bx.P bx.w a (yH (ks.zip (bs.zip xs)) kk b u)) (c:=.dN (ks++[kk]) (ds++[v])) Ja (rs.app (.cons r1' .nil)) λhH tu r=>⟨bs++[b],xs++[u],.inl (by rw[←ez];exact hH),by rw[kO,kO,l1];rfl,by rw[kO,kO,l2];rfl,by rw[kO,QX];omega,by rw[←ez];exact(kn.put hb).ts tu,r⟩
   exact⟨a,_,b,kk,rfl,rfl,hp,kn,hb,by rw[uN,uN];omega,z _ _ _ ((Stp.of ggg).trans s4) E4⟩
  ·rw[if_neg cc] at q7;cases q7
 |_=>cases q7
end
def dF2(b:Bx)(f:En->Option Dt):TE:=λσ H Q=>∃B π ow ρ d,zk b B π H σ ρ ow/\f ρ=some d/\∀p(qs:List Addr) H',SD b (Ow B ow) H H'->H p=none->(∀a∈qs,H a=none)->(p::qs).Nodup->Top b true H' (Chd b (λa=>Ow B ow a∨a=p∨a∈qs) H' qs) d p->Q (.ref p) H'
variable{σ:St}{π:Nat->Addr}
theorem zk.innS{bx:Bx}{B:Addr->Prop}{ρ:En}{ow:Os}(E:zk bx B π H σ ρ ow)(k:Nat)(ix:List Nat){N:Addr->Prop}(n:∀a,N a->H a=none)(g:SD bx (Ow B ow) H H')(hN:∀a,N a->∃o,H' a=some o/\Okc a o):
  zk bx (λa=>Ow B ow a∨N a) π H' (yq k ix σ) (L2.inn k ix ρ) noO:=by
 have gd:Gd (Ow B ow) H (Ow (λa=>Ow B ow a∨N a) noO) H':=⟨g.tu,λa o h no=>⟨g.st a o h no,λz=>by
  rcases z with(z|z)|⟨_,z⟩
  ·exact no z
  ·rw[n a z] at h;cases h
  ·exact z⟩⟩
 have E':=E.sd g;have c:=E'.cap k ix;refine⟨c.len,c.tbs,λa h=>h.elim (E'.has a) (hN a),λj d h=>?_,λj io m d h=>?_,λj d h=>?_,c.inj,λi a h=>h.elim⟩
 ·have c0:=E.cap k ix;obtain⟨v,ev,r⟩:=c0.frz j d h;exact⟨v,ev,Rp.go ((show Gd (Ow (Ow B ow) noO) H (Ow B ow) H from⟨λ_ _ h=>h,λa o h no=>⟨.inl h,λz=>no (.inl z)⟩⟩).trans gd) _ _ r⟩
 ·have c0:=E.cap k ix;obtain⟨p,ev,ep,r⟩:=c0.own j io m d h;exact(show False from by cases m with
   |zero=>exact r
   |succ m=>cases m with
    |zero=>exact(r.1 p).mpr rfl
    |succ m=>cases m with
     |zero=>obtain⟨qs,h1,_⟩:=r;exact(h1 p).mpr (.inl rfl)
     |succ m=>exact r).elim
 ·have c0:=E.cap k ix;obtain⟨v,ev,r,nn⟩:=c0.red j d h;exact⟨v,ev,r.go ((show Gd (Ow (Ow B ow) noO) H (Ow B ow) H from⟨λ_ _ h=>h,λa o h no=>⟨.inl h,λz=>no (.inl z)⟩⟩).trans gd) (λ_ _ _ z=>g.nw z),nn⟩
theorem tC2{bx:Bx}{ix:List Nat}{it:En->Option (List Dt)}{h:Dt->En->Option En}{e:En->Option Dt}(hq:dF2 bx (zI k ix it h zY e) σ H Q):va k ix (dIc bx it) (dG bx h) (dT bx zY) (dF bx e) σ H Q:=by
 obtain⟨B,π,ow,ρ,d,E,q,z⟩:=hq;obtain⟨ds,q1,q⟩:=kA.mp q;obtain⟨r,q2,q⟩:=kA.mp q
 cases q;refine⟨B,π,ow,ρ,ds,E,q1,λJ H1 g1 wk D nD=>?_⟩;have E1:=E.sd g1;generalize hf:(λd=>(h d (inn k ix ρ)).bind λρ1=>(zY ρ1).bind λb=>if b=true then(e ρ1).bind λy=>some (some y) else some none)=f at q2;refine⟨λi m H2=>m=ds.length-i/\i<=ds.length/\∃qs out rs,SD bx (Ow B ow) H1 H2/\H2 D=some (.lst (qs.map V.ref))/\(D::qs).Nodup/\(∀a∈qs,H1 a=none)/\Chd bx (λa=>Ow B ow a∨a=D∨a∈qs) H2 qs out (qs.map V.ref)/\out.length=i/\yV f (ds.drop i)=some rs/\out++rs=r,
  ⟨_,rfl,uF _,[],[],r,.new nD _,zM,by simp,(by intro a m;cases m),⟨rfl,rfl,λ_ _ _ _ h2=>nomatch h2⟩,rfl,q2,rfl⟩,?_⟩
 rintro i m H2 ⟨rfl,hi,qs,out,rs,g2,hD,nd,nq,rc,lo,qr,er⟩;have lq:qs.length=i:=by rw[←rc.2.1];exact lo
 have okq:∀a,(a=D∨a∈qs)->∃o,H2 a=some o/\Okc a o:=λa m=>by
  rcases m with rfl|m
  ·exact⟨_,hD,wY⟩
  ·obtain⟨j,hj,ej⟩:=QH.mp m;have:=rc.2.2 j (out[j]'(by rw[rc.2.1];exact hj)) a (kK _) (by rw[kK hj,ej])
   exact this.obj
 have newN:∀a,(a=D∨a∈qs)->H1 a=none:=λa m=>m.elim (λe=>e▸nD) (nq a);have E2:=E1.innS k ix newN g2 okq;have gd:Gd (Ow B ow) H1 (Ow (λa=>Ow B ow a∨a=D∨a∈qs) noO) H2:=⟨g2.tu,λa o h no=>⟨g2.st a o h no,λz=>by
  rcases z with(z|z)|⟨_,z⟩
  ·exact no z
  ·rw[newN a z] at h;cases h
  ·exact z⟩⟩
 obtain⟨go,stop⟩:=wk.2 _ H2 gd E2.has λa o h m=>g2.ow a o h m
 by_cases lt:i<ds.length
 ·rw[QV lt,yV] at qr;obtain⟨o,q3,qr⟩:=kA.mp qr;obtain⟨rs',q4,qr⟩:=kA.mp qr
  cases qr;rw[←hf] at q3;obtain⟨ρ1,q5,q3⟩:=kA.mp q3;obtain⟨b,q6,q3⟩:=kA.mp q3
  cases q6;rw[if_pos rfl] at q3;obtain⟨y',q7,q3⟩:=kA.mp q3
  cases q3;obtain⟨g,y⟩:=go i ds[i] (kK lt);refine .inr ⟨g,λx H3 yl=>?_⟩;obtain⟨g3,r3⟩:=y x H3 yl;refine⟨_,_,_,_,ds[i],ρ1,E2.sd g3,r3,q5,λσ4 H4 ow4 s4 E4=>⟨_,_,ow4,ρ1,true,E4,rfl,λH5 g5=>?_⟩⟩;have sd4:∀{H':Hp},SD bx (Ow (λa=>Ow B ow a∨a=D∨a∈qs) ow4) H4 H'->SD bx (λa=>Ow B ow a∨a=D∨a∈qs) H2 H':=λg=>by
   have k:SD bx (λa=>Ow B ow a∨a=D∨a∈qs) H3 H4:=⟨λ_=>E4.tbs,s4.tu,λa o h m=>(s4.st a o h λ⟨_,z⟩=>z.elim).1.1 m,λa o h _=>(s4.st a o h λ⟨_,z⟩=>z.elim).1.2⟩;exact(g3.less λa z=>.inl z).trans (k.trans (g.less λa z=>.inl z))
  refine xX ⟨_,_,ow4,ρ1,y',E4.sd g5,q7,λp H6 g6 np tp=>?_⟩;have s26:=sd4 (g5.trans g6);have hD6:H6 D=some (.lst (qs.map V.ref)):=s26.ow D _ hD (.inr (.inl rfl));have np2:H2 p=none:=(sd4 g5).free np;have np1:H1 p=none:=g2.free np2;have pD:p≠D:=λe=>by rw[e,hD] at np2;cases np2
  have Dp:D≠p:=λe=>pD e.symm;have pq:p∉qs:=λm=>by obtain⟨o,ho,_⟩:=okq p (.inr m);rw[np2] at ho;cases ho
  have l':(qs.map V.ref).length<sizeLine:=by rw[kL,lq];have:=wk.1;omega
  refine⟨_,hD6,l',ds.length-(i+1),by omega,rfl,lt,qs++[p],out++[y'],rs',?_,by rw[zM,pT];rfl,?_,?_,?_,by rw[kO,lo];rfl,q4,by rw[←er,UN];rfl⟩
  ·have g6':=g2.trans (s26.less λa z=>.inl z);have ne:∀{a o},H1 a=some o->upd H6 D (.lst (qs.map V.ref++[.ref p])) a=H6 a:=λha=>zp (yK ha nD);exact⟨λz t m=>JX hD6 (g6'.lt z t m),λa xs ha=>by rw[ne ha];exact g6'.tu a xs ha,λa o ha m=>by rw[ne ha];exact g6'.ow a o ha m,λa o ha m=>by rw[ne ha];exact g6'.st a o ha m⟩
  ·rw[uS] at nd⊢;refine⟨λh=>(pS.mp h).elim nd.1 λh=>Dp (kf.mp h),?_⟩;rw[QA];exact⟨nd.2,by simp,λx hx y hy e=>pq (by rw[←kf.mp hy,←e];exact hx)⟩
  ·intro a m;rcases pS.mp m with m|m
   ·exact nq a m
   ·rw[kf.mp m];exact np1
  ·have tu6:∀a xs,H6 a=some (.tup xs)->upd H6 D (.lst (qs.map V.ref++[.ref p])) a=some (.tup xs):=λa xs ha=>by rw[zp λz=>by subst z;rw[hD6] at ha;cases ha];exact ha
   have gA:Gd (λa=>Ow B ow a∨a=D∨a∈qs) H2 (λa=>Ow B ow a∨a=D∨a∈qs++[p]) (upd H6 D (.lst (qs.map V.ref++[.ref p]))):=⟨λa xs ha=>tu6 a xs (s26.tu a xs ha),λa o ha no=>⟨by rw[zp λe=>no (.inr (.inl e))];exact s26.st a o ha no,λz=>by
    rcases z with z|z|z
    ·exact no (.inl z)
    ·exact no (.inr (.inl z))
    ·rcases pS.mp z with z|z
     ·exact no (.inr (.inr z))
     ·rw[kf.mp z,np2] at ha;cases ha⟩⟩
   have gB:Gd (λa=>Ow (λa=>Ow B ow a∨a=D∨a∈qs) ow4 a∨a=p) H6 (λa=>Ow B ow a∨a=D∨a∈qs++[p]) (upd H6 D (.lst (qs.map V.ref++[.ref p]))):=⟨tu6,λa o ha no=>⟨.inl (by rw[zp λe=>no (.inl (.inl (.inr (.inl e))))];exact ha),λz=>by
    rcases z with z|z|z
    ·exact no (.inl (.inl (.inl z)))
    ·exact no (.inl (.inl (.inr (.inl z))))
    ·rcases pS.mp z with z|z
     ·exact no (.inl (.inl (.inr (.inr z))))
     ·exact no (.inr (kf.mp z))⟩⟩
   have nDq:∀a∈qs,a≠D:=λa m e=>(uS.mp nd).1 (e▸m);rw[pT];refine rc.snoc (λd a m t=>t.imp (λxs z=>?_) (λu _ z=>z.tt λo ho=>?_) gA.tu λ_ _ y=>Rps.go gA _ _ y) (tp.imp (λxs z=>?_) (λu _ z=>z.tt λo ho=>?_) tu6 λ_ _ y=>Rps.go gB _ _ y)
   ·rw[zp (nDq a m)];exact s26.ow a _ z (.inr (.inr m))
   ·rw[zp (nDq a m)];exact s26.ow a _ ho (.inr (.inr m))
   ·rw[zp pD];exact z
   ·rw[zp pD];exact ho
 ·have e:i=ds.length:=by omega
  subst e;rw[Bb,yV] at qr
  cases qr;rw[uo] at er;subst er;exact .inl ⟨stop,z D qs H2 (g1.trans g2) (g1.free nD) (λa m=>g1.free (nq a m)) nd ⟨qs.map V.ref,hD,by rw[kL,lq];exact wk.1,rc⟩⟩
def zk.setO2{bx:Bx}{B:Addr->Prop}{ρ:En}{ow:Os}{i:Nat}{d:Dt}{p:Addr}(E:zk bx B π H σ ρ ow)(g:SD bx (Ow B ow) H H')(n:H p=none)(nq:∀a∈qs,H a=none)(nd:(p::qs).Nodup)(r:Top bx true H' (Chd bx (λa=>Ow B ow a∨a=p∨a∈qs) H' qs) d p):zk bx B π H' (σ.set i (some (.ref p))) (ρ.set i (.ow false 2 d)) (owP ow i λa=>a=p∨a∈qs)/\Stp B ow H (owP ow i λa=>a=p∨a∈qs) H':=
 E.at i (s:=.ow false 2 d) (Ui) (λj n=>Qg (QM n)) (λa z=>.inr (z.elim (λe=>e▸n) (nq a))) (.inl (g.less λa z=>z.1)) (λa z=>by
  rcases z with rfl|m
  ·exact r.obj
  ·obtain⟨xs,e1,e2,z⟩:=r.chd;obtain⟨j,hj,ej⟩:=QH.mp m;exact(z j ((jb d)[j]'(by rw[e2];exact hj)) a (kK _) (by rw[kK hj,ej])).obj) λl=>by
  refine⟨p,QN (by rw[←E.len];exact l),(λz=>by cases z),qs,λa=>FL,nd,r.imp (λ_ z=>z) (λu _ z=>z) (λ_ _ h=>h) λ_ _ c=>c.mv ⟨λ_ _ h=>h,λa o h no=>⟨.inl h,λz=>no ?_⟩⟩ λm _ o h=>h⟩
  rcases z with z|⟨j,⟨_,z⟩|⟨_,z⟩⟩
  ·exact .inl (.inl z)
  ·exact .inr z
  ·exact .inl (.inr ⟨j,z⟩)
def dSo2(i:Nat)(f:En->Option Dt):En->Option Ou:=λρ=>(f ρ).bind λd=>some (.nx (ρ.set i (.ow false 2 d)))
section
variable{X:Cx}{bx:Bx}{pos:Pos}{scope dsc:Scope}{tg iter elt:Expr}{N P:List Str}{it:En->Option (List Dt)}{h:Dt->En->Option En}{e:En->Option Dt}
theorem J3(i:Nat){pos1:Pos}(S:zA N P dsc)(own:List Str)(ix:List Nat)(hi:PI X tg iter (dIc bx it))(hb:wu X scope own ix tg [] elt (dG bx h) (dT bx zY) (dF bx e))(S':xw dsc N scope own ix:=by exact jk rfl (by decide+kernel))(hc:X.calm=true:=by rfl)(hd:X.env.scope=dsc:=by rfl)(hN':X.N=N:=by rfl)(hx0:X.N[i]?=some x:=by rfl)(hx:Loc X.env.scope x:=by first|exact .inl rfl|exact .inr rfl)
  (hsw:uh (.ListComp elt [⟨tg,iter,[],0⟩] scope pos) (some (.Name x pos')) pos1.line X.env=pure true:=by rfl) (hf:X.fn x=true∨X.env.scope.names.lookup x=some .local:=by first|exact .inl rfl|exact .inr rfl|assumption)
  (hs:∀x,uY iter X.env x=pure x:=by intro _;rfl):PS X (.Assign [.Name x pos'] (.ListComp elt [⟨tg,iter,[],0⟩] scope pos) pos1) (dS bx (dSo2 i (zI own.length ix it h zY e))):=(VS i S own ix hi hb S' hc hd hN' hx0 hx hsw hf hs).imp λD σ H⟨B,π,ow,ρ,o,E,q,z⟩=>by
 obtain⟨d,q1,q2⟩:=kA.mp q
 cases q2;exact tC2 ⟨B,π,ow,ρ,d,E,q1,λp qs H1 g1 n nq nd r1=>let⟨E',s'⟩:=E.setO2 g1 n nq nd r1;z _ H1 _ s' E'⟩
end
end L2
namespace L2
open PySem
theorem JE{X:Cx}(hu:X.A.units+80<cLine):wn X KPp:=zb1 (by omega)
end L2
namespace L2
open PySem PySem.Spec PyProof.Rows
def Itv(K:kF)(l:Addr)(n:Nat):It:=
 ⟨λi H=>∃xs x,SqL K H l xs/\xs.length=n/\i<n/\xs[n-1-i]?=some x,
  λi H v H'=>H'=H/\∀xs,SqL K H l xs->xs[n-1-i]?=some v,
  λi H=>n<=i⟩
theorem zdb{P:kW}{w:kq}{K:kF}{tg:Expr}(a it:Addr)(n:Nat):Turn P w K tg (Itv K a n) [it] it (λi h=>xY h it a (n-i)) where
 mem:=by simp
 obj:=λi h st b hb=>by
  have e:b=it:=by simpa using hb
  subst e;exact⟨_,st,λv z=>by cases z⟩
 keep:=λi h h' st k=>k it (by simp) _ st
 item:=by
  intro X hP hw hK hc i pins s σ H E I hf st hg;subst hP hw hK;obtain⟨xs,x,hq,hn,hi,hx⟩:=hg;obtain⟨its,rv,p,hz⟩:=I.list hq;obtain⟨u,hu,ru⟩:=rv.get hx;obtain⟨f0,f1,f2,f3,f4,f5⟩:=hf it (by simp)
  have em:n-i=(n-1-i)+1:=by omega
  rw[em] at st;refine Zr st p.isList (x:=u) (by simpa using hu) λh' st' sb=>?_
  have I1:Inv X pins σ H {s with heap:=h'}:=I.turned (t':=s.toks) (λb o hb e=>(sb.2 b hb).trans e) f0 f1 f3 f4 f5;exact⟨u,rfl,qD (s:={s with heap:=h'}) st' rfl rfl (by decide) ⟨x,H,I1,ru,⟨rfl,λys hy=>by rw[I.list_inj hy hq];exact hx⟩,by rw[show n-(i+1)=n-1-i by omega];exact st',λb hb=>(hf b hb).1⟩⟩
 done:=by
  intro X hP hw hK hc i pins s σ H E I hf st hg;subst hP hw hK;obtain⟨f0,f1,f2,f3,f4,f5⟩:=hf it (by simp)
  rw[show n-i=0 from Nat.sub_eq_zero_of_le hg] at st;exact J8 (I.ok.hd hc) st λh' eb=>⟨rfl,I.turned (t':=s.toks) (λb o hb e=>eb b o hb e) f0 f1 f3 f4 f5⟩
 self:=λ_ _ _ _ _ st h=>qj st h
def bt_reversed':pp "reversed"=some (.type "reversed"):=by decide+kernel
def rev1:List Dt->Option (List Dt)
 |[.list xs]=>some xs.reverse
 |_=>none
section
variable{X:Cx}{bx:Bx}{tg e a:Expr}{ga:En->Option (List Dt)}{f:En->Option Dt}{pos p p' pos':Pos}
def iRev(K:kF)(ta:TA):TI:=λσ H R=>ta σ H λvs H1=>∃l xs,vs=[.ref l]/\H1 l=some (.lst xs)/\R (Itv K l xs.length) H1
def pi_rev{ta:TA}(hg:Gl X "reversed")(hm:X.mg "reversed"=none)(ha:PA X [a] ta)(hs:kJ [a] X.env=[(false,eval a X.env)]:=by rfl):PI X tg (.Call (.Name "reversed" p) [a] [] pos) (iRev X.K ta):=by
 intro pins s σ H R I h;refine Call_ (xk I hg hm bt_reversed' (py (thn (ha pos pins s σ H _ I h) λus s1⟨vs,H1,I1,r1,q1⟩=>?_) (by rw[hs];rfl) rfl))
 obtain⟨l,xs,e,e1,q⟩:=q1;subst e;obtain⟨u,rfl,ru⟩:=vals1 r1
 cases ru;obtain⟨z,its,n,r',el⟩:=I1.hok l _ e1;have len:=r'.length;refine Jh el ?_;have hr:xY (s1.heap.push (rvO l its.toArray.size)) s1.heap.objs.size l (xs.length-0):=by
  show _=some (rvO l (xs.length-0))
  rw[kQ _ rfl]
  simp[len]
 refine qj hr ?_;refine⟨s1.heap.objs.size,[s1.heap.objs.size],_,_,H1,rfl,I1.kept (t':=s1.toks) λb o e=>kG _ e,zdb l _ xs.length,hr,λb hb=>?_,q⟩;have e:b=s1.heap.objs.size:=by simpa using hb
 subst e;exact I1.fpOk (kN _) (I1.hok.fresh (kN _))
theorem di_rev(hg:Gl X "reversed")(hm:X.mg "reversed"=none)(ha:PA X [a] (dA bx ga))(hs:kJ [a] X.env=[(false,eval a X.env)]:=by rfl):PI X tg (.Call (.Name "reversed" p) [a] [] pos) (dI bx (iC rev1 ga)):=(pi_rev hg hm ha hs).imp λσ H R⟨B,π,ow,ρ,ds,E,q,z⟩=>by
 obtain⟨as,q1,q2⟩:=kA.mp q;unfold rev1 at q2
 split at q2
 ·cases q2
  rename_i xs
  refine⟨B,π,ow,ρ,_,E,q1,λvs H1 g1 r1=>?_⟩;obtain⟨v,rfl,rv⟩:=Xj r1;obtain⟨p,us,rfl,np,dp,lp,sp⟩:=rv.lstE;have len:=sp.len;refine⟨p,us,rfl,dp,z _ H1 g1 ⟨by rw[Qq,len];exact lp,λO' H' g no=>?_⟩⟩
  have s1:SqL X.K H' p us:=.of (g.st p _ dp np).1.lst;refine⟨λi d e=>?_,by show us.length<=_;rw[Qq,len];exact kN _⟩
  have hi:i<xs.length:=by have:=(kM.mp e).1;rw[Qq] at this;exact this
  rw[CI hi] at e;obtain⟨x,ex,rx⟩:=(Rps.go g _ _ sp).get e;rw[len] at ex hi;exact⟨⟨us,x,s1,rfl,hi,ex⟩,λy H2⟨e1,e2⟩=>by subst e1;have:=e2 us s1;rw[ex] at this;cases this;exact⟨.refl _ _,rx⟩⟩
 ·cases q2
def kRev:Dt->Option Dt
 |.list xs=>some (.list xs.reverse)
 |_=>none
theorem Rps.rev{O:Addr->Prop}{H:Hp}:∀{ds:List Dt}{xs:List V},Rps bx O H ds xs->Rps bx O H ds.reverse xs.reverse
 |[],xs,h=>by rw[Rps] at h;subst h;exact .nil
 |d::ds,xs,h=>by
  rw[Rps] at h;obtain⟨x,r,rfl,h1,h2⟩:=h;rw[gu,gu];exact(Rps.rev h2).app (.cons h1 .nil)
theorem zdc(hc:X.calm=true)(hg:Gl X "list")(hm:X.mg "list"=none)(hg':Gl X "reversed")(hm':X.mg "reversed"=none)(he0:PE X e (dM bx true f))(n0:NS e)(he:kJ [e] X.env=(false,eval e X.env)::kJ [] X.env:=by rfl):PE X (.Call (.Name "list" p) [.Call (.Name "reversed" p') [e] [] pos'] [] pos) (dF bx (d1 kRev f)):=(zek hc hg hm j4 hg' hm' bt_reversed' (pa1 he0 n0) (he:=he)).imp λσ H Q⟨B,π,ow,ρ,d,E,q,z⟩=>by
 obtain⟨d0,q1,q⟩:=kA.mp q
 cases d0 with
 |list ds=>
  cases q;refine⟨B,π,ow,ρ,_,E,q1,λv H1 g1 r1=>?_⟩;obtain⟨p,xs,rfl,rd,l,rs⟩:=(RpM.t r1).lst;exact⟨p,xs,rfl,rd,λa n=>z a _ (g1.trans (.new n _)) (g1.free n) (xD n (by rw[Qq];exact l) rs.rev)⟩
 |_=>cases q
end
theorem ZG:∀{ss:List Str}{its:List kC},zr (ss.map V.str) its->StrsAre its ss
 |[],_,r=>by cases r;exact .nil
 |x::ss,_,r=>by
  cases r with
  |cons h t=>obtain⟨tk,rfl⟩:=h;exact .cons x tk (ZG t)
theorem Vr:∀{ss:List Str}{its:List kC},StrsAre its ss->zr (ss.map V.str) its
 |_,_,.nil=>.nil
 |_,_,.cons x t h=>.cons ⟨t,rfl⟩ (Vr h)
section
variable{X:Cx}
def rSortS:List V->Hp->VK->Prop:=λxs H Q=>∃l ns,xs=[.ref l]/\H l=some (.lst (ns.map V.str))/\ns.length<64/\∀D(ms:List Str),H D=none->ms.Perm ns->Ed ms=true->Q (.ref D) (upd H D (.lst (ms.map V.str)))
theorem zdd:yd X (.builtin "sorted") rSortS:=by
 intro pins s σ H xs us Q I r h;obtain⟨l,ns,rfl,hl,h64,q⟩:=h;obtain⟨u,rfl,ru⟩:=vals1 r
 cases ru;obtain⟨its,rv,pl,hz⟩:=I.list (.of hl);have len:ns.length=its.length:=by have:=rv.length;rw[kL] at this;exact this
 refine sorted_strs pl.isList (ZG rv) (by omega) λout ms a1 a2 a3=>?_
 have k0:Keeps s.heap s.heap:=λ_ _ e=>e;have k2:=((k0.push (ko "list" #[] 0)).upd (a:=s.heap.objs.size) (f:=kj (·++its.toArray)) (kN _)).push (ko "list" its.toArray 0);have z2:((s.heap.push (ko "list" #[] 0)).update s.heap.objs.size (kj (·++its.toArray))).objs.size=s.heap.objs.size+1:=by
  rw[BU,Ev]
 have o2:(((s.heap.push (ko "list" #[] 0)).update s.heap.objs.size (kj (·++its.toArray))).push (ko "list" its.toArray 0)).get? (s.heap.objs.size+1)=some (ko "list" its.toArray 0):=
  z2▸kQ _ rfl
 have o3:=Qn o2 λ_=>(#[]:Array kC);have o5:=Qn (kG (ko "list" #[] 0) (kG (ko "tuple" its.toArray 0) o3)) λ_=>out;have k5:Keeps s.heap (sortedAll s.heap its out):=(((k2.upd (a:=s.heap.objs.size+1) (f:=kj λ_=>(#[]:Array kC)) (Qh _)).push (ko "tuple" its.toArray 0)).push (ko "list" #[] 0)).upd (a:=s.heap.objs.size+1) (f:=kj λ_=>out) (Qh _);refine⟨.ref _,upd H (s.heap.objs.size+1) (.lst (ms.map V.str)),I.laid (t':=s.toks) k5 (Qh _) ⟨?_,out.toList,_,Vr a1,o5⟩,rfl,q _ _ (I.hok.fresh (Qh _)) a2 a3⟩;rw[kL,a2.length_eq];exact pd (ub h64) (by decide)
end
theorem W2:∀{a b c:List Nat},ltCps a b=true->ltCps b c=true->ltCps a c=true
 |[],[],_,h,_=>by cases h
 |[],_::_,[],_,h=>by cases h
 |[],_::_,_::_,_,_=>rfl
 |_::_,[],_,h,_=>by cases h
 |_::_,_::_,[],_,h=>by cases h
 |x::a,y::b,z::c,h1,h2=>by
  simp only[ltCps,Bool.or_eq_true,decide_eq_true_eq,ui,beq_iff_eq] at h1 h2⊢;rcases h1 with h1|⟨rfl,h1⟩<;>rcases h2 with h2|⟨rfl,h2⟩
  ·exact .inl (by omega)
  ·exact .inl h1
  ·exact .inl h2
  ·exact .inr ⟨rfl,W2 h1 h2⟩
theorem XT:∀{a b:List Nat},ltCps a b=false->ltCps b a=false->a=b
 |[],[],_,_=>rfl
 |[],_::_,h,_=>by cases h
 |_::_,[],_,h=>by cases h
 |x::a,y::b,h1,h2=>by
  simp only[ltCps,Bool.or_eq_false_iff,decide_eq_false_iff_not,Bool.and_eq_false_iff,beq_eq_false_iff_ne] at h1 h2;have e:x=y:=by omega
  subst e;rw[XT (h1.2.resolve_left λz=>z rfl) (h2.2.resolve_left λz=>z rfl)]
def leS(a b:Str):Prop:=ltCps b.cps.toList a.cps.toList=false
theorem leS_tr{a b c:Str}(h1:leS a b)(h2:leS b c):leS a c:=by
 unfold leS at*
 cases q:ltCps c.cps.toList a.cps.toList with
 |false=>rfl
 |true=>
  cases q2:ltCps b.cps.toList c.cps.toList with
  |true=>rw[W2 q2 q] at h1;cases h1
  |false=>rw[XT q2 h2] at h1;rw[h1] at q;cases q
theorem W4:∀{r:List Str}{x:Str},risingS x r=true->(x::r).Pairwise leS
 |[],x,_=>gY _ _
 |y::r,x,h=>by
  rw[risingS,ui] at h;have p:=W4 h.2;have l:leS x y:=by unfold leS;cases q:ltCps y.cps.toList x.cps.toList with|false=>rfl|true=>rw[q] at h;cases h.1
  refine ue.mpr ⟨λz hz=>?_,p⟩;rcases kX.mp hz with rfl|hz
  ·exact l
  ·exact leS_tr l ((ue.mp p).1 z hz)
theorem JU:∀{r:List Str},Ed r=true->r.Pairwise leS
 |[],_=>.nil
 |_::_,h=>W4 h
open Classical in
noncomputable def xW(ss:List Str):List Str:=if h:∃r:List Str,r.Perm ss/\Ed r=true then h.choose else ss
def V5{ss s':List Str}(hp:s'.Perm ss)(hs:Ed s'=true):s'=xW ss:=by
 have e:∃r:List Str,r.Perm ss/\Ed r=true:=⟨s',hp,hs⟩;unfold xW;rw[dif_pos e];obtain⟨h1,h2⟩:=e.choose_spec;refine List.Perm.eq_of_pairwise (λa b _ _ l1 l2=>?_) (JU hs) (JU h2) (hp.trans h1.symm);have:=XT l2 l1
 cases a;cases b;exact congrArg Str.mk (EA.mp this)
def qE:Dt->Option Str
 |.str x=>some x
 |_=>none
noncomputable def ju:List Dt->Option Dt
 |[d]=>(ofL d).bind λds=>(yr qE ds).bind λns=>if ns.length<64 then some (.list ((xW ns).map .str)) else none
 |_=>none
section
variable{X:Cx}{bx:Bx}{e:Expr}{es:List Expr}{ga:En->Option (List Dt)}{pos p:Pos}
theorem Vn{O:Addr->Prop}{H:Hp}:∀{ds:List Dt}{xs:List V}{ns:List Str},yr qE ds=some ns->Rps bx O H ds xs->xs=ns.map V.str
 |[],xs,ns,e,h=>by cases e;rw[Rps] at h;exact h
 |d::ds,xs,ns,e,h=>by
  obtain⟨n,q1,e⟩:=kA.mp e;obtain⟨ms,q2,e⟩:=kA.mp e
  cases e;rw[Rps] at h;obtain⟨x,r,rfl,h1,h2⟩:=h
  cases d with
  |str y=>cases q1;rw[Rp] at h1;subst h1;rw[Vn q2 h2];rfl
  |_=>cases q1
theorem Vq{O:Addr->Prop}{H:Hp}:∀(ns:List Str),Rps bx O H (ns.map .str) (ns.map V.str)
 |[]=>.nil
 |n::ns=>.cons .str (Vq ns)
theorem Jj(hg:Gl X "sorted")(hm:X.mg "sorted"=none)(ha:PA X (e::es) (dAr bx ga))(he:kJ (e::es) X.env=(false,eval e X.env)::kJ es X.env:=by rfl)(hpl:(pX pos (kJ es X.env)).any (·.1)=false:=by rfl):PE X (.Call (.Name "sorted" p) (e::es) [] pos) (dF bx (dCl ju ga)):=(xS zdd hg hm qe ha (he:=he) (hpl:=hpl)).imp λ_ _ _ h=>zf (λbx O H ds d vs Q _ q r z=>by
  unfold ju at q
  split at q
  ·rename_i d0
   obtain⟨ds,q1,q⟩:=kA.mp q;obtain⟨ns,q2,q⟩:=kA.mp q
   by_cases l:ns.length<64
   ·rw[if_pos l] at q
    cases q;obtain⟨x,rfl,r'⟩:=xu r
    cases d0 with
    |list ds'=>
     cases q1;obtain⟨p,xs,rfl,rd,lx,rs⟩:=r'.lst;rw[Vn q2 rs] at rd;refine⟨p,ns,rfl,rd,l,λD ms n hp hs=>z D _ (.new n _) n ?_⟩;rw[←V5 hp hs];exact xD n (by rw[kL,hp.length_eq];exact pd (ub l) (by decide)) (Vq _)
    |_=>cases q1
   ·rw[if_neg l] at q;cases q
  ·cases q) h
end
end L2
namespace L2
open PySem
def compIn(st:Stmt)(i:Nat):Scope:=match(ya st).getD i (.Pass ⟨0,0,0,0⟩) with
 |.Assign _ (.ListComp _ _ sc _) _=>{sc with names:=sc.names.map λ(n,k)=>if(k==pM&&(zo st).kind==.function&&(zo st).names.lookup n==some .cell) then(n,AG) else(n,k)}
 |_=>zo st
end L2
namespace L2
open PySem PySem.Spec PyProof.Rows
instance(i j:Int):Decidable (CPow i j):=by unfold CPow;infer_instance
def xa:Dt->Dt->Option Dt
 |.str x,.str y=>if x.length+y.length<=sizeLine then some (.str (x++y)) else none
 |_,_=>none
def wO:List Dt->Option Dt
 |[.str z]=>if z.length<=sizeLine then some (.int z.length) else none
 |_=>none
def wW:List Dt->Option Dt
 |[.int i]=>if i.natAbs.log2<1920 then some (.str (Ah i)) else none
 |_=>none
def wU(x:Str):Dt->Option Dt
 |.ins ks ds=>if ks.length=ds.length then(ks.zip ds).lookup x else none
 |_=>none
theorem Rps.look{bx:Bx}{O:Addr->Prop}{H:Hp}{x:Str}{d:Dt}:∀{ks:List Str}{ds:List Dt}{xs:List V},Rps bx O H ds xs->ks.length=ds.length->(ks.zip ds).lookup x=some d->∃v,(ks.zip xs).lookup x=some v/\Rp bx O H d v
 |[],ds,xs,r,l,e=>by cases e
 |k::ks,[],xs,r,l,e=>by cases l
 |k::ks,c::ds,xs,r,l,e=>by
  rw[Rps] at r;obtain⟨y,r',rfl,h1,h2⟩:=r;rw[uc,pb] at e⊢
  by_cases q:(x==k)=true
  ·rw[q] at e⊢;cases e;exact⟨y,rfl,h1⟩
  ·rw[DV.mpr q] at e⊢;exact Rps.look h2 (Nat.succ.inj l) e
variable{K:kF}
section
variable{X:Cx}{bx:Bx}{m:Bool}{e a b:Expr}{es:List Expr}{f g:En->Option Dt}{ga:En->Option (List Dt)}{pos p:Pos}
theorem Yv(ha:PE X a (dM bx true f))(hb:PE X b (dM bx true g)):PE X (.BinOp a .Add b pos) (dM bx m (d2 xa f g)):=o2 zd1 (λbx O H a b d v w Q q ra rb z=>by
 unfold xa at q
 split at q
 ·split at q
  ·rename_i x y h;cases q;exact⟨x,y,ra.str,rb.str,h,z _ H (.refl _ _) .str⟩
  ·cases q
 ·cases q) ha hb
theorem de_lenS(hg:Gl X "len")(hm:X.mg "len"=none)(ha:PA X (e::es) (dAr bx ga))(he:kJ (e::es) X.env=(false,eval e X.env)::kJ es X.env:=by rfl)(hpl:(pX pos (kJ es X.env)).any (·.1)=false:=by rfl):PE X (.Call (.Name "len" p) (e::es) [] pos) (dM bx m (dCl wO ga)):=(xS zf8 hg hm Zq ha (he:=he) (hpl:=hpl)).imp λ_ _ _ h=>zn (λbx O H ds d vs Q _ q r z=>by
  unfold wO at q
  split at q
  ·split at q
   ·rename_i y h
    cases q;obtain⟨x,rfl,r'⟩:=xu r;exact⟨y,by rw[r'.str],h,z _ H (.refl _ _) .int⟩
   ·cases q
  ·cases q) h
theorem de_strI(hg:Gl X "str")(hm:X.mg "str"=none)(ha:PA X (e::es) (dAr bx ga))(he:kJ (e::es) X.env=(false,eval e X.env)::kJ es X.env:=by rfl)(hpl:(pX pos (kJ es X.env)).any (·.1)=false:=by rfl):PE X (.Call (.Name "str" p) (e::es) [] pos) (dM bx m (dCl wW ga)):=(jo zag hg hm Yp ha (he:=he) (hpl:=hpl)).imp λ_ _ _ h=>zn (λbx O H ds d vs Q _ q r z=>by
  unfold wW at q
  split at q
  ·split at q
   ·rename_i y h
    cases q;obtain⟨x,rfl,r'⟩:=xu r;exact⟨y,by rw[r'.int],h,z _ H (.refl _ _) .str⟩
   ·cases q
  ·cases q) h
theorem vx{x:Str}(c:Cls X.K bx.C)(n:yZ X.K bx.C x)(he:PE X e (dM bx true f))(hb:UO e x X.env (eval e X.env)=eval e X.env:=by rfl):PE X (.Attribute e x pos) (dM bx m (d1 (wU x) f)):=(pe_fld he hb).imp λσ H Q⟨B,π,ow,ρ,d,E,q,z⟩=>by
 obtain⟨y,q1,q2⟩:=kA.mp q;refine⟨B,π,ow,ρ,y,E,q1,λv H1 g1 r1=>?_⟩
 cases y with
 |ins ks ds=>
  have q2:(if ks.length=ds.length then(ks.zip ds).lookup x else none)=some d:=q2
  by_cases l:ks.length=ds.length
  ·rw[if_pos l] at q2;have r:=(RpM.t r1).rp rfl;rw[Rp] at r;obtain⟨p,dx,xs,rfl,_,h,_,rs⟩:=r;obtain⟨u,e1,ru⟩:=rs.look l q2;exact⟨p,bx.C,dx,_,u,rfl,h,c,n,e1,z u H1 g1 (.of ru)⟩
  ·rw[if_neg l] at q2;cases q2
 |_=>cases q2
def wK{c:Addr}(h:bx.C=c)(k:Cls K c):Cls K bx.C:=h▸k
def naC{c:Addr}{x:Str}(h:bx.C=c)(k:yZ K c x):yZ K bx.C x:=h▸k
end
def spI(bx:Bx)(ks:List Str)(F:Dt->Option (List Dt)):Sp:=λvs H Q _=>∃(B:Addr->Prop)(x dx:Addr)(v:V)(d:Dt)(es:List Dt),vs=[.ref x,v]/\H x=some (.ins bx.C dx [])/\¬B x/\(∀a,B a->∃o,H a=some o/\Okc a o)/\bx.lt H/\Rp bx (λa=>B a∨a=x) H d v/\F d=some es/\
 ∀H',bx.lt H'->(∀a xs,H a=some (.tup xs)->H' a=some (.tup xs))->(∀a o,H a=some o->a≠x->(B a->H' a=some o)/\Nw a o (H' a))->Rp bx B H' (.ins ks es) (.ref x)->Q .non H'
def vI(ks:List Str)(F:Dt->Option (List Dt))(f:En->Option Dt):En->Option Dt:=λρ=>(f ρ).bind λd=>(F d).bind λes=>some (.ins ks es)
def jf(m:Str)(F:List Dt->Option Dt)(f:En->Option Dt)(ga:En->Option (List Dt)):En->Option Dt:=λρ=>(f ρ).bind λo=>match o with
 |.ins ks es=>if m∈ks then none else(ga ρ).bind λds=>F (.ins ks es::ds)
 |_=>none
theorem WA{m:Str}:∀{ks:List Str}{xs:List V},m∉ks->(ks.zip xs).lookup m=none
 |[],_,_=>rfl
 |_::_,[],_=>rfl
 |k::ks,x::xs,h=>by
  have ne:(m==k)=false:=beq_eq_false_iff_ne.mpr λe=>h (by rw[e];exact pU)
  rw[uc,pb,ne];exact WA λz=>h (pG _ z)
variable{F:Dt->Option (List Dt)}
section
variable{X:Cx}{bx:Bx}{m:Bool}{e o:Expr}{es:List Expr}{f:En->Option Dt}{ga:En->Option (List Dt)}{pos p apos:Pos}{k k':Nat}{fa:Addr}{fd:pZ}{ps:List Str}{x:Str}
def de_make{ks:List Str}(hC:bx.C=fa')(M:Mk X.K fa' fa)(ok:zw X.prog X.w X.K X.mg X.base CX0 k fa fd ps (spI bx ks F))(hb:Binds X.K fd ps [])(hr:zD k' X.A)(hm:X.mg x=some (.ref fa'))(he:PE X e (dM bx false f))(n:NS e)
  (hk:k+1<=k':=by decide)(hg:Gl X x:=by rfl)(hdb:(x==("__debug__":Str))=false:=by decide)(hst:kJ [e] X.env=(false,eval e X.env)::kJ [] X.env:=by rfl)(hpl:(pX pos (kJ [] X.env)).any (·.1)=false:=by rfl):
  PE X (.Call (.Name x p) [e] [] pos) (dM bx m (vI ks F f)):=(Vz (t:=dA bx (za f zb)) (CX:=CX0) (E:=E0) M ok (hr.mono hk) hg hm hb .nil pass0 (zc he n ze) hdb hst hpl).imp λσ H Q⟨B,π,ow,ρ,d,E,q,z⟩=>by
 obtain⟨d1,q1,q⟩:=kA.mp q;obtain⟨es,q2,q⟩:=kA.mp q
 cases q;refine⟨B,π,ow,ρ,[d1],E,by unfold za;rw[q1];rfl,λvs H1 g1 r1 x dx nx ndx ne=>?_⟩
 rw[Rps] at r1;obtain⟨v,r,rfl,r1,rn⟩:=r1;rw[Rps] at rn;subst rn;have hasO:∀a,Ow B ow a->a≠x/\a≠dx:=λa h=>by
  obtain⟨u,hu,_⟩:=(E.sd g1).has a h;exact⟨λz=>(by rw[z,nx] at hu;cases hu),λz=>(by rw[z,ndx] at hu;cases hu)⟩
 have keep:∀{a u},H1 a=some u->upd (upd H1 dx (.own x)) x (.ins bx.C dx []) a=some u:=λ{a u} h=>by
  rw[zp (λz=>by rw[z,nx] at h;cases h),zp (λz=>by rw[z,ndx] at h;cases h)];exact h
 have gd:Gd (Ow B ow) H1 (λa=>Ow B ow a∨a=x) (upd (upd H1 dx (.own x)) x (.ins bx.C dx [])):=⟨λa xs h=>keep h,λa u h no=>⟨.inl (keep h),λz=>z.elim no λy=>by rw[y,nx] at h;cases h⟩⟩
 rw[←hC];refine⟨Ow B ow,x,dx,v,d1,es,rfl,zM,λz=>(hasO x z).1 rfl,λa h=>?_,λt mt=>((E.sd g1).tbs t mt).same λa u h=>keep h,Rp.go gd _ _ r1,q2,λH' lt tu st r=>⟨rfl,z _ H' (g1.trans ⟨λ_=>lt,λa xs h=>tu a xs (keep h),λa u h no=>(st a u (keep h) λy=>by rw[y,nx] at h;cases h).1 no,λa u h no=>(st a u (keep h) λy=>by rw[y,nx] at h;cases h).2⟩) (.of r)⟩⟩
 obtain⟨u,hu,ok⟩:=(E.sd g1).has a h;exact⟨u,keep hu,ok⟩
theorem de_meth{F:List Dt->Option Dt}{mm:Str}{pl:Sem Bool}(hC:bx.C=fa')(c:Cls X.K fa')(hm:Meth X.K fa' mm fa)(ok:zw X.prog X.w X.K X.mg X.base CX0 k fa fd ps (spD bx F))(hb:Binds X.K fd ps [])(hr:zD k' X.A)(ho:PE X o (dM bx false f))(ha:PA X (e::es) (dA bx ga))(hk:k<=k':=by decide)
  (hst:kJ (e::es) X.env=(false,eval e X.env)::kJ es X.env:=by rfl) (hpl:(pX pos (kJ es X.env)).any (·.1)=false:=by rfl)
  (ht:eval (.Call (.Attribute o mm apos) (e::es) [] pos) X.env=(do
   let ov ←eval o X.env
   Ec apos.atName
   let(f,first) ←holding [ov] (Dr ov mm pl)
   callWith pos f first (pX pos (kJ (e::es) X.env)) (UL pos (ux [] X.env))):=by rfl):
  PE X (.Call (.Attribute o mm apos) (e::es) [] pos) (dM bx m (jf mm F f ga)):=(pe_meth (CX:=CX0) (E:=E0) ho c hm ok (hr.mono hk) hb .nil pass0 ha hst hpl ht).imp λσ H Q⟨B,π,ow,ρ,d,E,q,z⟩=>by
 obtain⟨y,q1,q⟩:=kA.mp q;refine⟨B,π,ow,ρ,y,E,q1,λv H1 g1 r1=>?_⟩
 cases y with
 |ins ks es=>
  have q:(if mm∈ks then none else(ga ρ).bind λds=>F (.ins ks es::ds))=some d:=q
  by_cases l:mm∈ks
  ·rw[if_pos l] at q;cases q
  rw[if_neg l] at q;obtain⟨ds,q2,q3⟩:=kA.mp q;have r1:Rp bx (Ow B ow) H1 (.ins ks es) v:=r1;have r:=r1;rw[Rp] at r;obtain⟨p,dx,xs,rfl,_,h,_⟩:=r;refine⟨p,dx,_,rfl,by rw[←hC];exact h,WA l,B,π,ow,ρ,ds,E.sd g1,q2,λvs H2 g2 r2=>?_⟩
  refine⟨Ow B ow,.ins ks es::ds,d,((E.sd g1).sd g2).has,((E.sd g1).sd g2).tbs,?_,q3,λu H3 g3 r3=>z u H3 (g1.trans (g2.trans g3)) (.of r3)⟩;rw[Rps];exact⟨_,_,rfl,Rp.go g2.gd _ _ r1,by rw[uo];exact r2⟩
 |_=>cases q
end
structure FrX(bx:Bx)(B:Addr->Prop)(x:Addr)(H H':Hp):Prop where
 lt:bx.lt H->bx.lt H'
 tu:∀a xs,H a=some (.tup xs)->H' a=some (.tup xs)
 st:∀a o,H a=some o->a≠x->(B a->H' a=some o)/\Nw a o (H' a)
variable{fs fs':List (Str×V)}
section
variable{bx:Bx}{B O:Addr->Prop}{x:Addr}{H H' H2:Hp}
def FrX.trans(g:FrX bx B x H H')(k:FrX bx B x H' H2):FrX bx B x H H2:=⟨λz=>k.lt (g.lt z),λa xs h=>k.tu a xs (g.tu a xs h),λa o h n=>⟨λb=>(k.st a o ((g.st a o h n).1 b) n).1 b,(g.st a o h n).2.trans λo' h'=>(k.st a o' h' n).2⟩⟩
def FrX.sd(g:SD bx O H H')(i:∀a,B a->O a):FrX bx B x H H':=⟨g.lt,g.tu,λa o h n=>⟨λb=>g.ow a o h (i a b),g.nw h⟩⟩
variable{C dx:Addr}
def WK(h:H x=some (.ins C dx fs))(l:bx.lt H):bx.lt (upd H x (.ins C dx fs')):=λt m=>by
 obtain⟨ps,h1,h2,h3⟩:=l t m;refine⟨ps,by rw[zp (λz=>by rw[z,h] at h1;cases h1)];exact h1,h2,h3.imp id λ⟨c,e,hc⟩=>⟨c,e,by rw[zp (λz=>by rw[z,h] at hc;cases hc)];exact hc⟩⟩
def FrX.upd(h:H x=some (.ins C dx fs)):FrX bx B x H (L2.upd H x (.ins C dx fs')):=⟨WK h,λa xs q=>by rw[zp (λz=>by rw[z,h] at q;cases q)];exact q,λa o q n=>by rw[zp n];exact⟨λ_=>q,.inl q⟩⟩
def jW(h:H x=some (.ins C dx fs))(hx:O x):Gd O H O (upd H x (.ins C dx fs')):=⟨λa xs q=>by rw[zp (λz=>by rw[z,h] at q;cases q)];exact q,λa o q no=>by
  have ne:a≠x:=λz=>no (by rw[z];exact hx)
  rw[zp ne];exact⟨.inl q,no⟩⟩
def Wg{a:Addr}:Okc a (.ins C dx fs):=⟨λq z=>(by cases z),λq z=>(by cases z),λq z=>(by cases z)⟩
def zk.updB{π:Nat->Addr}{σ:St}{ρ:En}{ow:Os}(E:zk bx B π H σ ρ ow)(hx:B x)(h:H x=some (.ins C dx fs))(nr:∀(i:Nat)(d:Dt),ρ[i]?≠some (Sl.rd d)):zk bx B π (upd H x (.ins C dx fs')) σ ρ ow where
 len:=E.len
 tbs:=WK h E.tbs
 bd:=λa b=>by
  by_cases q:a=x
  ·exact⟨_,by rw[q];exact zM,Wg⟩
  ·rw[zp q];exact E.bd a b
 frz:=λi d e=>let⟨v,e1,r⟩:=E.frz i d e;⟨v,e1,Rp.go (jW h (.inl hx)) _ _ r⟩
 own:=λi io n d e=>let⟨p,e1,e2,r⟩:=E.own i io n d e;⟨p,e1,e2,r.go (jW h (.inl hx)) λa o s z=>by
  have ne:a≠x:=λy=>(E.ex i a s).2 (by rw[y];exact hx)
  rw[zp ne];exact z⟩
 red:=λi d e=>absurd e (nr i d)
 inj:=E.inj
 ex:=λi a e=>let⟨⟨o,z,n⟩,nb⟩:=E.ex i a e;⟨⟨o,(by
  have ne:a≠x:=λy=>nb (by rw[y];exact hx)
  rw[zp ne];exact z),n⟩,nb⟩
end
variable{N:List Str}{vs:List V}{Q:VK}
theorem J9{bx:Bx}{f1 f2 g1 g2 g3:En->Option Dt}{a b c:Str}{H:Hp}{E:XK}(hN:N.length=3)(ab:a≠b)(ac:a≠c)(bc:b≠c)(cl:Cls K bx.C)(na:yZ K bx.C a)(nb:yZ K bx.C b)(nc:yZ K bx.C c)
  (hF:∀d es,F d=some es->∃t0 t e1 e2 e3,f1 [.un,.fz d,.un]=some t0/\f2 [.un,.fz d,.un]=some t/\g1 [.un,.fz d,.fz t]=some e1/\g2 [.un,.fz d,.fz t]=some e2/\g3 [.un,.fz d,.fz t]=some e3/\es=[e1,e2,e3])
  (h:spI bx [a,b,c] F vs H Q E):vs.length=2/\xP (X4 (dM bx true f1)) (xP (wg (dM bx false f2) (xT 2)) (xP (jz K (yW 0) (dM bx false g1) a) (xP (jz K (yW 0) (dM bx false g2) b) (jz K (yW 0) (dM bx false g3) c)))) {nx:=λ_ H'=>Q .non H',rt:=Q} (start N vs) H:=by
 obtain⟨B,x,dx,v,d,es,rfl,hx,nB,bd,lt,r,q,fin⟩:=h;obtain⟨t0,t,e1,e2,e3,q1,q2,q3,q4,q5,rfl⟩:=hF d es q;refine⟨rfl,?_⟩;have es:start N [.ref x,v]=[some (.ref x),some v,none]:=by unfold start;rw[hN];rfl
 rw[es];generalize hB:(λa=>B a∨a=x)=B' at r;have bx':B' x:=by rw[←hB];exact .inr rfl
 have bi:∀a,B a->B' a:=λa z=>by rw[←hB];exact .inl z
 have E0:zk bx B' (λ_=>0) H [some (.ref x),some v,none] [.un,.fz d,.un] noO:=by
  refine⟨rfl,lt,λy z=>?_,λi d' e=>?_,λi io n d' e=>?_,λi d' e=>?_,λi j a h=>h.elim,λi a h=>h.elim⟩
  ·rw[←hB] at z;rcases z with z|rfl
   ·exact bd y z
   ·exact⟨_,hx,Wg⟩
  ·match i,e with
   |0,e=>cases e
   |2,e=>cases e
   |1,e=>cases e;exact⟨v,rfl,Rp.go ⟨λ_ _ h=>h,λa o h no=>⟨.inl h,λz=>z.elim no λ⟨_,y⟩=>y.elim⟩⟩ _ _ r⟩
  ·match i,e with
   |0,e=>cases e
   |1,e=>cases e
   |2,e=>cases e
  ·match i,e with
   |0,e=>cases e
   |1,e=>cases e
   |2,e=>cases e
 refine⟨B',_,_,_,t0,E0,q1,λ_ H1 s1 _=>⟨B',_,_,_,t,E0.sd s1,q2,λy H2 s2 r2=>?_⟩⟩;have E2:=((E0.sd s1).sd s2).set (i:=2) r2
 change zk bx B' (λ_=>0) H2 [some (.ref x),some v,some y] [.un,.fz d,.fz t] _ at E2
 have nr:∀(i:Nat)(d':Dt),([.un,.fz d,.fz t]:En)[i]?≠some (Sl.rd d'):=λi d' e=>by
  match i,e with
  |0,e=>cases e
  |1,e=>cases e
  |2,e=>cases e
 have F2:FrX bx B x H H2:=(FrX.sd s1 λa z=>.inl (bi a z)).trans (.sd s2 λa z=>.inl (bi a z));have x2:H2 x=some (.ins bx.C dx []):=s2.ow x _ (s1.ow x _ hx (.inl bx')) (.inl bx');show jz K (yW 0) (dM bx false g1) a _ [some (.ref x),some v,some y] H2;generalize owP noO 2 noA=ow2 at E2;refine⟨B',_,_,_,e1,E2,q3,λy1 H3 s3 r3=>⟨.ref x,rfl,x,bx.C,dx,[],rfl,s3.ow x _ x2 (.inl bx'),cl,na,by decide,?_⟩⟩
 have x3:=s3.ow x _ x2 (.inl bx');have E3:=(E2.sd s3).updB (fs':=zP a y1 []) bx' x3 nr;have F3:=F2.trans ((FrX.sd s3 λa z=>.inl (bi a z)).trans (FrX.upd (fs':=zP a y1 []) x3));have r3':Rp bx (Ow B' ow2) _ e1 y1:=Rp.go (jW (fs':=zP a y1 []) x3 (.inl bx')) _ _ r3;refine⟨B',_,_,_,e2,E3,q4,λy2 H4 s4 r4=>⟨.ref x,rfl,x,bx.C,dx,_,rfl,s4.ow x _ zM (.inl bx'),cl,nb,by show 1<1000;decide,?_⟩⟩
 have x4:=s4.ow x _ zM (.inl bx');have E4:=(E3.sd s4).updB (fs':=zP b y2 (zP a y1 [])) bx' x4 nr;have F4:=F3.trans ((FrX.sd s4 λa z=>.inl (bi a z)).trans (FrX.upd (fs':=zP b y2 (zP a y1 [])) x4));have g4:=jW (O:=Ow B' ow2) (fs':=zP b y2 (zP a y1 [])) x4 (.inl bx');have r3'':=Rp.go g4 _ _ (Rp.go s4.gd _ _ r3');have r4':Rp bx (Ow B' ow2) _ e2 y2:=Rp.go g4 _ _ r4;have p2:zP b y2 (zP a y1 [])=[(a,y1),(b,y2)]:=by show(if a=b then _ else _)=_;rw[if_neg ab];rfl
 refine⟨B',_,_,_,e3,E4,q5,λy3 H5 s5 r5=>⟨.ref x,rfl,x,bx.C,dx,_,rfl,s5.ow x _ zM (.inl bx'),cl,nc,by rw[p2];show 2<1000;decide,?_⟩⟩
 have x5:=s5.ow x _ zM (.inl bx');have F5:=F4.trans ((FrX.sd s5 λa z=>.inl (bi a z)).trans (FrX.upd (fs':=zP c y3 (zP b y2 (zP a y1 []))) x5));have g5:=jW (O:=Ow B' ow2) (fs':=zP c y3 (zP b y2 (zP a y1 []))) x5 (.inl bx');have p3:zP c y3 (zP b y2 (zP a y1 []))=[a,b,c].zip [y1,y2,y3]:=by
  rw[p2];show(if a=c then _ else(a,y1)::(if b=c then _ else _))=_;rw[if_neg ac,if_neg bc];rfl
 have gB:∀{G:Hp},Gd (Ow B' ow2) G B G:=⟨λ_ _ h=>h,λa o h no=>⟨.inl h,λz=>no (.inl (bi a z))⟩⟩;refine fin _ (F5.lt lt) F5.tu F5.st ?_;rw[Rp];refine⟨x,dx,[y1,y2,y3],rfl,nB,by rw[←p3];exact zM,rfl,?_⟩
 have w1:=Rp.go gB _ _ (Rp.go g5 _ _ (Rp.go s5.gd _ _ r3''));have w2:=Rp.go gB _ _ (Rp.go g5 _ _ (Rp.go s5.gd _ _ r4'));have w3:=Rp.go gB _ _ (Rp.go g5 _ _ r5);rw[Rps];refine⟨_,_,rfl,w1,?_⟩;rw[Rps];refine⟨_,_,rfl,w2,?_⟩;rw[Rps];refine⟨_,_,rfl,w3,?_⟩;rw[Rps]
def spE(bx:Bx)(C:Addr)(F:List Dt->Prop):Sp:=λvs H _ E=>∃(B:Addr->Prop)(ds:List Dt),(∀a,B a->∃o,H a=some o/\Okc a o)/\bx.lt H/\Rps bx B H ds vs/\F ds/\∀H',SD bx B H H'->E (.ref C) none H'
def dFx(n k:Nat)(f:En->Option Ou):List Dt->Prop:=λds=>ds.length=k/\f (ds.map Sl.fz++uC (n-k) .un)=some .ex
def jB(f:En->Option Dt):En->Option Ou:=λρ=>(f ρ).bind λ_=>some .ex
open Classical in
noncomputable def XL(F:List Dt->Prop)(ga:En->Option (List Dt)):En->Option Ou:=λρ=>(ga ρ).bind λds=>if F ds then some .ex else none
def Bx.up(bx:Bx)(g:Hp->Prop):Bx:={bx with gx:=g}
mutual
theorem Rp.up{bx:Bx}{O:Addr->Prop}{H:Hp}{g:Hp->Prop}:∀(d:Dt)(v:V),Rp bx O H d v->Rp (bx.up g) O H d v
 |.none,v,h=>by rw[Rp] at h⊢;exact h
 |.bool _,v,h=>by rw[Rp] at h⊢;exact h
 |.int _,v,h=>by rw[Rp] at h⊢;exact h
 |.str _,v,h=>by rw[Rp] at h⊢;exact h
 |.scr _,v,h=>by rw[Rp] at h⊢;exact h
 |.tuple ds,v,h=>by rw[Rp] at h⊢;obtain⟨p,xs,a,b,c,d,e⟩:=h;exact⟨p,xs,a,b,c,d,Rps.up ds xs e⟩
 |.list ds,v,h=>by rw[Rp] at h⊢;obtain⟨p,xs,a,b,c,d,e⟩:=h;exact⟨p,xs,a,b,c,d,Rps.up ds xs e⟩
 |.dK _ ds,v,h=>by rw[Rp] at h⊢;obtain⟨p,xs,a,b,c,d,k,e⟩:=h;exact⟨p,xs,a,b,c,d,k,Rps.up ds xs e⟩
 |.dT _ ds,v,h=>by rw[Rp] at h⊢;obtain⟨p,xs,a,b,c,d,k,e⟩:=h;exact⟨p,xs,a,b,c,d,k,Rps.up ds xs e⟩
 |.dN _ ds,v,h=>by rw[Rp] at h⊢;obtain⟨p,bs,xs,a,b,c,d,k,l,m,e⟩:=h;exact⟨p,bs,xs,a,b,c,d,k,l,m,Rps.up ds xs e⟩
 |.ins _ ds,v,h=>by rw[Rp] at h⊢;obtain⟨p,dx,xs,a,b,c,k,e⟩:=h;exact⟨p,dx,xs,a,b,c,k,Rps.up ds xs e⟩
theorem Rps.up{bx:Bx}{O:Addr->Prop}{H:Hp}{g:Hp->Prop}:∀(ds:List Dt)(xs:List V),Rps bx O H ds xs->Rps (bx.up g) O H ds xs
 |[],xs,h=>by rw[Rps] at h⊢;exact h
 |d::ds,xs,h=>by rw[Rps] at h⊢;obtain⟨x,r,e,q,qs⟩:=h;exact⟨x,r,e,Rp.up d x q,Rps.up ds r qs⟩
end
variable{H:Hp}
def WG{bx:Bx}{B:Addr->Prop}{H':Hp}{ow':Os}(lt:bx.lt H')(s:Stp B noO H ow' H'):SD bx B H H':=⟨λ_=>lt,s.tu,λa o h m=>(s.st a o h λ⟨_,z⟩=>z.elim).1.1 m,λa o h _=>(s.st a o h λ⟨_,z⟩=>z.elim).1.2⟩
variable{k:Nat}
def Zv{bx:Bx}{f:En->Option Ou}{E:XK}{C:Addr}{D:Ends}(h:spE bx C (dFx N.length k f) vs H Q E):vs.length=k/\dS (bx.up λH'=>E (.ref C) none H') f D (start N vs) H:=by
 obtain⟨B,ds,bd,ht,r,⟨l,q⟩,z⟩:=h;exact⟨by rw[←r.len];exact l,B,λ_=>0,_,_,.ex,zk.init bd ht (Rps.up _ _ r),by rw[l];exact q,λσ' H' ow' ρ' s e=>z H' (WG (bx:=bx) e.tbs s)⟩
variable{ps:List Str}
def Fun.okE{P:kW}{w:kq}{mg:Str->Option kC}{base:Heap}{bx:Bx}{C:Addr}{x qual:Str}{st:Stmt}{f:Addr}{fd:pZ}{fs:En->Option Ou}(F:Fun K x qual st f fd)(S:zA N ps (zo st))
  (hb:∀(bx:Bx)(cdv:kC)(A:pI)(outer:List Env)(s:kE)(H:Hp)(E:XK),zD k (A.deeper (QL qual (zo st) s.heap.objs.size f cdv))->(∀H',bx.gx H'->E (.ref C) none H')->PSs (ym (CXr P w) P w K mg base N qual (zo st) f cdv A outer s H E) (ya st) (dS bx fs)):
  zw P w K mg base (CXr P w) (k+1) f fd ps (spE bx C (dFx N.length ps.length fs)):=
 F.okX S (λvs H Q E h=>(Zv (D:={nx:=λ_ H'=>Q .non H',rt:=Q}) h).1) λcdv A outer s H vs Q E hr h=>⟨_,hb (bx.up λH'=>E (.ref C) none H') cdv A outer s H E hr (λ_ z=>z),(Zv h).2⟩
section
variable{X:Cx}{bx:Bx}{C:Addr}{E:XK}{x:Str}{np cpos pos p:Pos}{e:Expr}{es:List Expr}{f:En->Option Dt}{ga:En->Option (List Dt)}
def VL(hE:∀H',bx.gx H'->E (.ref C) none H')(hx:Raises X E)(hh:X.A.handled=none)(hc:XC X.K C)(hm:X.mg x=some (.ref C))(he:PE X e (dM bx false f))(n:NS e)(hg:Gl X x:=by rfl)(hdb:(x==("__debug__":Str))=false:=by decide)
  (hst:kJ [e] X.env=(false,eval e X.env)::kJ [] X.env:=by rfl) (hpl:(pX cpos (kJ [] X.env)).any (·.1)=false:=by rfl):
  PS X (.Raise (some (.Call (.Name x np) [e] [] cpos)) none pos) (dS bx (jB f)):=(zcc hx hh hc hg hm (zc he n ze) hdb hst hpl).imp λD σ H⟨B,π,ow,ρ,o,E',q,z⟩=>by
 obtain⟨d,q1,q⟩:=kA.mp q
 cases q;refine⟨B,π,ow,ρ,[d],E',by unfold za;rw[q1];rfl,λvs H1 g1 r1=>⟨?_,hE _ (z _ _ _ _ (Stp.of g1) (E'.sd g1))⟩⟩
 rw[←r1.len];show 1<=sizeLine
 decide
def zba{k':Nat}{fa:Addr}{fd:pZ}{F:List Dt->Prop}{st:Stmt}(ok:zw X.prog X.w X.K X.mg X.base (CXr X.prog X.w) k fa fd ps (spE bx C F))(T:zG X.K X.mg x st ps fa fd)(hE:∀H',bx.gx H'->E (.ref C) none H')(hx:Passes (CXr X.prog X.w) X E)(hr:zD k' X.A)(ha:PA X (e::es) (dA bx ga))(hk:k<=k':=by decide)(hg:Gl X x:=by rfl)(hdb:(x==("__debug__":Str))=false:=by decide)
  (hst:kJ (e::es) X.env=(false,eval e X.env)::kJ es X.env:=by rfl) (hpl:(pX cpos (kJ es X.env)).any (·.1)=false:=by rfl) (hsw:uh (.Call (.Name x p) (e::es) [] cpos) none pos.line X.env=pure false:=by rfl):
  PS X (.Expr (.Call (.Name x p) (e::es) [] cpos) pos) (dS bx (XL F ga)):=(wz (J7 (dvs:=[]) ok (hr.mono hk) hg T.mg T.fn.kp T.bn .nil hx ha hdb hst hpl) hsw).imp λD σ H⟨B,π,ow,ρ,o,E',q,z⟩=>by
 obtain⟨ds,q1,q⟩:=kA.mp q
 by_cases c:F ds
 ·rw[if_pos c] at q
  cases q;refine⟨B,π,ow,ρ,ds,E',q1,λvs H1 g1 r1=>⟨Ow B ow,ds,(E'.sd g1).has,(E'.sd g1).tbs,by rw[uo];exact r1,c,λH2 g2=>hE _ (z _ _ _ _ (Stp.of (g1.trans g2)) ((E'.sd g1).sd g2))⟩⟩
 ·rw[if_neg c] at q;cases q
def spEI(bx:Bx)(C:Addr)(F:Dt->Prop):Sp:=λvs H _ E=>∃(B:Addr->Prop)(x dx:Addr)(v:V)(d:Dt),vs=[.ref x,v]/\H x=some (.ins bx.C dx [])/\¬B x/\(∀a,B a->∃o,H a=some o/\Okc a o)/\bx.lt H/\Rp bx (λa=>B a∨a=x) H d v/\F d/\∀H',FrX bx B x H H'->E (.ref C) none H'
theorem JQ{f:En->Option Ou}{F:Dt->Prop}{u:TS}{D:Ends}(hN:N.length=3)(hF:∀d,F d->f [.un,.fz d,.un]=some .ex)(h:spEI bx C F vs H Q E):vs.length=2/\xP (dS (bx.up λH'=>E (.ref C) none H') f) u D (start N vs) H:=by
 obtain⟨B,x,dx,v,d,rfl,hx,nB,bd,lt,r,q,z0⟩:=h;refine⟨rfl,?_⟩;have es:start N [.ref x,v]=[some (.ref x),some v,none]:=by unfold start;rw[hN];rfl
 rw[es];refine⟨λa=>B a∨a=x,λ_=>0,noO,[.un,.fz d,.un],.ex,?_,hF d q,λσ' H' ow' ρ' s e=>z0 H' (.sd (WG (bx:=bx) e.tbs s) λa z=>.inl z)⟩;refine⟨rfl,lt,λy z=>?_,λi d' e=>?_,λi io n d' e=>?_,λi d' e=>?_,λi j a h=>h.elim,λi a h=>h.elim⟩
 ·rcases z with z|rfl
  ·exact bd y z
  ·exact⟨_,hx,Wg⟩
 ·match i,e with
  |0,e=>cases e
  |2,e=>cases e
  |1,e=>cases e;exact⟨v,rfl,Rp.go ⟨λ_ _ h=>h,λa o h no=>⟨.inl h,λz=>z.elim no λ⟨_,y⟩=>y.elim⟩⟩ _ _ (Rp.up _ _ r)⟩
 ·match i,e with
  |0,e=>cases e
  |1,e=>cases e
  |2,e=>cases e
 ·match i,e with
  |0,e=>cases e
  |1,e=>cases e
  |2,e=>cases e
end
def rIsiD:List V->Hp->VK->Prop:=λxs H Q=>Ys "str" xs H Q∨∃p kvs,xs=[.ref p,.ty "str"]/\At false H p (.dT kvs)/\Q (.bl false) H
def yL:Dt->Option Dt
 |.dT _ _=>some (.bool false)
 |d=>jY "str" d
section
variable{X:Cx}{bx:Bx}{m:Bool}{a b:Expr}{f:En->Option Dt}{pos p p2:Pos}
def zaz:yd X (.builtin "isinstance") rIsiD:=by
 intro pins s σ H xs us Q I r h;rcases h with h|⟨p,kvs,rfl,h,q⟩
 ·exact isiF zdf pins s σ H xs us Q I r h
 ·obtain⟨u,w',rfl,ru,rw'⟩:=vals2 r
  cases rw'
  cases ru;have ty:∃o,s.heap.get? p=some o/\o.cls=.type "dict":=by
   have k:∀{u},H p=some u->(u=.dT kvs∨∃ob,u=.frz ob (.dT kvs))->∃o,s.heap.get? p=some o/\o.cls=.type "dict":=λ{u} hp e=>by
    have ok:=I.hok p u hp;have fin:zV X.prog X.w H s.heap p (.dT kvs)->∃o,s.heap.get? p=some o/\o.cls=.type "dict":=λ⟨_,_,xs,_,o,es,ep,e1,e2,_⟩=>⟨o,e1,e2.1⟩;rcases e with rfl|⟨ob,rfl⟩
    ·exact fin ok
    ·exact fin ok.2
   rcases h with h|⟨_,o,h⟩
   ·exact k h (.inl rfl)
   ·exact k h (.inr ⟨o,rfl⟩)
  exact Ql (CC (by decide+kernel) ZJ (by rw[kz];kernel_rfl)) ⟨ty,⟨.bl false,H,I.tok _,rfl,q⟩⟩
theorem VU(hg:Gl X "isinstance")(hm:X.mg "isinstance"=none)(ha:PE X a (dM bx true f))(n1:NS a)(hb:PE X b (tC (.ty "str")))(n2:NS b)(he:kJ [a,b] X.env=(false,eval a X.env)::kJ [b] X.env:=by rfl)(hpl:(pX pos (kJ [b] X.env)).any (·.1)=false:=by rfl):PE X (.Call (.Name "isinstance" p) [a,b] [] pos) (dM bx m (d1 yL f)):=
 (xS zaz hg hm Yb (pa2 ha n1 hb n2) (he:=he) (hpl:=hpl)).imp λσ H Q⟨B,π,ow,ρ,d,E,q,z⟩=>by
 obtain⟨d0,q1,q⟩:=kA.mp q;refine⟨B,π,ow,ρ,d0,E,q1,λv H1 g1 r1=>?_⟩;have go:jY "str" d0=some d->rIsiD [v,.ty "str"] H1 Q:=λq=>by
  obtain⟨t,q2,q⟩:=kA.mp q
  cases q;exact .inl ⟨v,t,rfl,tyD_F q2 (RpM.t r1),z _ H1 g1 (.of .bl)⟩
 cases d0 with
 |dT ks ds=>
  cases q;obtain⟨p,rfl,xs,h,_⟩:=(RpM.t r1).top rfl;exact .inr ⟨p,_,rfl,h,z _ H1 g1 (.of .bl)⟩
 |_=>exact go q
end
def walk_ofT2{l:By}{n:Nat}{q:kW}{loose:List Str}{XP:(Str->Option kC)->Heap->Prop}{YP:kq->Heap->Prop}{d:DefRec}{K:Params->kF}{CX:kq->CXT}{sp:kq->List Addr->Sp}{x:Str}{ds:List Str}{tm:List Addr}
  (hn:l.most=some n)(hn2:n<=sizeLine)(hdf:d.params.defaults=[])(hr:zD k Cg)
  (hY:∀(w:kq)(h:Heap),YP w h->(K w.params).In h)(hYt:∀(w:kq)(h:Heap),YP w h->∀b∈tm,h.get? b=some (CT #[]))
  (hD:∀y,y∈ds->∃e,(recsOf q).find? (λe=>e.name==y)=some e)
  (F:∀(w:kq)(mg:Str->Option kC)(fa:Addr)(h:Heap),(K w.params).In h->h.Ns km mg->mg d.name=some (.ref fa)->
   ∃(fd:pZ)(ts:List Addr),(∀b,b∈ts->(K w.params).lookup b=none/\((∃y c,y∈ds/\Um (K w.params) y=some (c,b))∨(b∈tm/\∃c,Qa (K w.params) c b=true)))/\(∀(s:kE)(u:kC),Cf s fd ⟨[u],[]⟩ [(x,u)])/\
    ∀base:Heap,(K w.params).In base->base.Ns km mg->(∀b,b∈ts->base.BuiltinsAt mg b)->zw l.prog w (K w.params) mg base (CX w) k fa fd [x] (sp w ts))
  (hsp:∀(w:kq)(H:Hp)(a:Addr)(ns:List Int)(ts:List Addr),ns.length<=n->jH ts H->SqL (K w.params) H a (ns.map V.int)->sp w ts [.ref a] H (λv _=>v=.bl true) λ_ _ _=>False)
  (hCX:∀(w:kq)(H:Hp)(s:kE)(e:kC)(s':kE),CX w [] H s (λ_ _ _=>False) e s'->False):
  FE q loose XP YP l.row.toRowW d [] (λf vs=>El f vs):=by
 refine Att.attach_call hn hdf λw s₀ s₁ mg mb fa o pm cd doc a vs ns G Y ho hd hcd hmg hobj hints hlen hg=>?_;have KX:=hY w _ Y;obtain⟨fd,ts,ht,hb,hF⟩:=F w mg fa _ KX G.T.g hmg;refine Z8 (ts:=ts) KX G.T.g G.T.b G.T.builtins G.T.nolimit hg hobj hints (pd hlen hn2) hr (λb hb'=>?_) G.T.bmain hF hb (λH hO hS=>hsp w H a ns ts hlen hO hS) λH e s'=>hCX w H s₁ e s';obtain⟨hk,h⟩:=ht b hb';rcases h with⟨y,c,hy,e⟩|⟨hm,c,e⟩
 ·obtain⟨r,hr'⟩:=hD y hy;obtain⟨C,hP⟩:=PySem.W.tab_of G.T KX hr' e;exact⟨hP,hk,(C.tab hP).isCodeTable⟩
 ·have hP:=hYt w _ Y b hm;exact⟨hP,hk,((Qr KX e).tab hP).isCodeTable⟩
open PySem.W (kla_fn kla_obj envX tabObj CodeHd KasT kas_sort kas_ask)
def d64(g h:En->Option Dt):En->Option Dt:=λρ=>(g ρ).bind λd=>(ofL d).bind λds=>if ds.length<64 then h ρ else none
theorem ord_pw{n:Nat}{ans:Nat->Nat->Bool}{p:Array Nat}(T:Wk ans)(ho:Ord n p)(h:2<=n->p=ansT ans (kas_sort n)):p.toList.Pairwise (λi j=>ans j i=false):=by
 have z:p.toList.length=n:=by have:=ho.length_eq;rwa [uO] at this
 by_cases h2:2<=n
 ·have u:=Z7 (n:=n) T (by omega)
  rw[←h h2] at u;refine List.pairwise_iff_getElem.mpr λi j hi hj hij=>?_;have e:∀k(hk:k<p.toList.length),p.toList[k]=p.getD k 0:=λk hk=>by
   have:k<p.size:=by simpa using hk
   simp[Er,this]
  rw[e,e];exact u i j hij (by omega)
 ·match p.toList,z with
  |[],_=>exact .nil
  |[a],_=>exact gY _ _
  |a::b::r,z=>simp at z;omega
section
variable{X:Cx}{bx:Bx}{e:Expr}{pos p lpos kpos:Pos}{params:Qy}{body:Expr}{sc:Scope}{f g:En->Option Dt}
theorem Jb{κ:Type}{i0:Nat}{x y:Str}{P c0 c:Addr}(ky:KyK κ)(hKP:wn X ky.KP)(hG:Yh ky.KP)(hr:zD (k+2) X.A)(hg:Gl X "sorted")(hm:X.mg "sorted"=none)(he0:PE X e (dM bx true g))(n0:NS e)(S:jq x y sc)(hN:X.N[i0]?=some y)(hk:X.env.scope.names.lookup y=some .cell)(hcl:X.env.cells.lookup y=some c)
  (hclos:gQ sc X.env=pure [(y,c)])(hdef:Au params X.env=([],[]))(hcode:X.env.code=.ref c0)(C:CodeHd X.base c0 P)(hB:X.base.BuiltinsAt X.mg P)
  (hbind:∀(pm cd ctv u:kC),QW (kla_fn "<lambda>" (X.env.qual++"<lambda>") params body sc [(y,c)] pm cd ctv) ⟨[u],[]⟩=pure [(x,u)])
  (hbody:∀(fa c':Addr)(A:pI)(s:kE)(H:Hp),A.units+64<cLine->PE (vZ X.prog X.w X.K X.mg X.base x y (X.env.qual++"<lambda>") sc fa (.ref c') c A X.stack s H) body (dM bx false f))(L:Lam1 bx P lpos (X.env.qual++"<lambda>"))
  (he:pX pos (kJ [e] X.env)=(false,eval e X.env)::pX pos (kJ [] X.env):=by rfl)(hpl:(pX pos (kJ [e] X.env)).any (·.1)=false:=by rfl):
  PE X (.Call (.Name "sorted" p) [e] [⟨some "key",.Lambda params body sc lpos,kpos⟩] pos) (dF bx (d64 g (dSrt ky i0 f g))):=(zab hKP hr hg hm (pa1 he0 n0) S hN hk hcl hclos hdef hcode C hB hbind hbody he hpl).imp λσ H Q⟨B,π,ow,ρ,d,E,q,z⟩=>by
 obtain⟨dd,y1,q⟩:=kA.mp q;obtain⟨dds,y2,q⟩:=kA.mp q
 by_cases h64:dds.length<64
 case neg=>rw[if_neg h64] at q;cases q
 rw[if_pos h64] at q;obtain⟨d0,q1,q⟩:=kA.mp q;obtain rfl:dd=d0:=pL (y1.symm.trans q1);obtain⟨ds,q2,q⟩:=kA.mp q;obtain⟨s,q3,q⟩:=kA.mp q;obtain⟨d1,q4,q⟩:=kA.mp q;obtain⟨kds,q5,q⟩:=kA.mp q;obtain⟨ks,q6,q⟩:=kA.mp q;obtain⟨r,q7,q⟩:=kA.mp q
 cases q
 cases dd with
 |list ds'=>
  cases q2;have e:ds=dds:=pL y2;subst e;have hv:∃vy,σ[i0]?=some (some vy):=by
   cases s with
   |fz d=>obtain⟨v,e,_⟩:=E.frz i0 _ q3;exact⟨v,e⟩
   |ow io n d=>obtain⟨v,e,_⟩:=E.own i0 _ _ _ q3;exact⟨_,e⟩
   |rd d=>obtain⟨v,e,_⟩:=E.red i0 _ q3;exact⟨v,e⟩
   |un=>cases q4
  obtain⟨vy,hvy⟩:=hv;refine⟨B,π,ow,ρ,_,E,y1,λv H1 g1 r1=>?_⟩;obtain⟨l,vs,rfl,hl,lz,rs⟩:=(RpM.t r1).lst;have E1:=E.sd g1;refine⟨l,vs,vy,rfl,hl,by rw[←rs.len];exact h64,hvy,E1.tbs _ L.mem,λc' H2 st lt hc=>?_⟩
  have g2:=SD.lam E1 L st lt;have E2:=E1.sd g2;have rs2:=Rps.go g2.gd _ _ rs;have nc:¬Ow B ow c':=λm=>by
   obtain⟨o,h,n⟩:=E2.has c' m;rw[hc] at h;cases h;exact n.2.2 _ rfl
  have lk:kds.length=ds.length:=jZ q5;refine⟨λi zs H'=>SD bx (Ow B ow) H2 H'/\zs.length=i/\Rps bx (Ow B ow) H' (kds.take i) zs,⟨.refl _ _,rfl,by rw[Ay];exact .nil⟩,λi zs H' h=>(h.1.st c' _ hc nc).code,λi zs H' h=>h.2.1,λi zs H' v hv h=>?_,λzs H' h=>?_⟩
  ·obtain⟨g3,lz',rz⟩:=h;have hi:i<ds.length:=by rw[rs2.len];exact(kM.mp hv).1
   obtain⟨x0,ex,rx⟩:=(Rps.go g3.gd _ _ rs2).get (kK hi);rw[hv] at ex;cases ex;obtain⟨kd,ek,ek2⟩:=ja q5 (kK hi);have E3:=((E2.sd g3).cap 1 [i0]).set (i:=0) (d:=ds[i]) (v:=v) (Rp.go ⟨λ_ _ h=>h,λa o h no=>⟨.inl h,λz=>z.elim no λ⟨_,z⟩=>z.elim⟩⟩ _ _ rx);have es:(yq 1 [i0] σ).set 0 (some v)=[some v,some vy]:=by unfold yq;simp[hvy]
   have er:(inn 1 [i0] ρ).set 0 (.fz ds[i])=[.fz ds[i],yU s]:=by unfold inn;simp[q3]
   rw[es,er] at E3;refine⟨_,π,_,_,kd,E3,ek,λu H'' g4 r4=>⟨g3.trans (g4.less λa m=>.inl m),by rw[kO,lz'];rfl,?_⟩⟩
   rw[Dj,ek2];exact(Rps.go (g4.less (O':=Ow B ow) λa m=>.inl m).gd _ _ rz).app (.cons (Rp.go ⟨λ_ _ h=>h,λa o h no=>⟨.inl h,λz=>no (.inl z)⟩⟩ _ _ r4) .nil)
  ·obtain⟨g3,lz',rz⟩:=h;rw[gz (by rw[lk,rs2.len];exact kN _)] at rz
   refine⟨_,ky.kp q6 rz,λD pA hD hp hs=>?_⟩;have lv:vs.length=ds.length:=rs2.len.symm;have hs:=ord_pw (hG.wk (ky.kp q6 rz)) hp hs;have hp:pA.toList.Perm (pe vs.length):=hp;generalize pA.toList=p at hp hs⊢;rw[lv] at hp;have rr:=ZI (Rps.go g3.gd _ _ rs2) (p:=p) λi m=>UV.mp (hp.mem_iff.mp m);rw[zfa q7 hp hs] at rr;refine z D _ (g1.trans (g2.trans (g3.trans (.new hD _)))) (g1.free (g2.free (g3.free hD))) (xD hD ?_ rr);rw[kL,hp.length_eq,uO,←lv];exact lz
 |_=>cases q2
end
variable{g:En->Option Dt}
def d64_le{h h':En->Option Dt}(H:∀ρ d,h ρ=some d->h' ρ=some d)(ρ:En)(d:Dt)(q:d64 g h ρ=some d):d64 g h' ρ=some d:=by
 obtain⟨d0,q1,q⟩:=kA.mp q;obtain⟨ds,q2,q⟩:=kA.mp q;unfold d64;rw[q1,pC,q2,pC]
 by_cases c:ds.length<64
 ·rw[if_pos c] at q⊢;exact H ρ d q
 ·rw[if_neg c] at q;cases q
def Zz{X:Cx}{bx:Bx}{e:Expr}{f:En->Option Dt}{κ:Type}(ky:KyK κ){i0:Nat}(h:PE X e (dF bx (d64 g (dSrt ky i0 f g)))):PE X e (dF bx (d64 g (qd ky.of ky.lt ky.dflt i0 f g))):=h.imp λ_ _ _=>dF_le (d64_le zav)
end L2
namespace Mine
open PySem L2
def top(i:Nat):Stmt:=PySem.Challenge.pw_acre_k65_no_name.main.body.getD i (.Pass ⟨0,0,0,0⟩)
abbrev XF:Stmt:=top 9
def zas:zA ["thing"] ["thing"] (zo XF):=zH rfl (by decide+kernel)
abbrev Y9:Stmt:=top 10
def vO:zA ["one","other","great","small","rest"] ["one","other"] (zo Y9):=zH rfl (by decide+kernel)
abbrev Wm:Stmt:=top 12
def YX:zA ["top","bottom","factor"] ["top","bottom"] (zo Wm):=zH rfl (by decide+kernel)
abbrev XZ:Stmt:=top 13
def zao:zA ["one","other"] ["one","other"] (zo XZ):=zH rfl (by decide+kernel)
abbrev Yu:Stmt:=top 15
def XB:zA ["x","y","w","factor"] ["x","y","w"] (zo Yu):=zH rfl (by decide+kernel)
abbrev Ym:Stmt:=top 16
def zeh:zA ["P"] ["P"] (zo Ym):=zH rfl (by decide+kernel)
abbrev YN:Stmt:=top 17
def Y7:zA ["P","Q","left","right"] ["P","Q"] (zo YN):=zH rfl (by decide+kernel)
abbrev XO:Stmt:=top 18
def zdq:zA ["number"] ["number"] (zo XO):=zH rfl (by decide+kernel)
abbrev X2:Stmt:=top 19
def zbo:zA ["P","Q"] ["P","Q"] (zo X2):=zH rfl (by decide+kernel)
abbrev Y4:Stmt:=top 20
def zcb:zA ["line","P"] ["line","P"] (zo Y4):=zH rfl (by decide+kernel)
abbrev Wf:Stmt:=top 21
def sc_turn:zA ["P","Q","R"] ["P","Q","R"] (zo Wf):=zH rfl (by decide+kernel)
abbrev YD:Stmt:=top 22
def qp:zA ["one","other","w","x","y"] ["one","other"] (zo YD):=zH rfl (by decide+kernel)
abbrev Xf:Stmt:=top 23
def vz:zA ["points","greatest","scale","keys","P"] ["points"] (zo Xf):=zH rfl (by decide+kernel)
abbrev xF:Stmt:=top 24
def Z3:zA ["points","keys"] ["points"] (zo xF):=zH rfl (by decide+kernel)
abbrev xv:Stmt:=top 25
def qk:zA ["things","points","thing","keys"] ["things"] (zo xv):=zH rfl (by decide+kernel)
abbrev YE:Stmt:=top 27
def xJ:zA ["many","is_past","low","high","middle"] ["many","is_past"] (zo YE):=zH rfl (by decide+kernel)
abbrev Xy:Stmt:=top 28
def qw:zA ["things","numbers","number","thing"] ["things"] (zo Xy):=zH rfl (by decide+kernel)
abbrev Yx:Stmt:=top 30
def zep:zA ["P","Q"] ["P","Q"] (zo Yx):=zH rfl (by decide+kernel)
abbrev Yo:Stmt:=top 31
def Zx:zA ["fences"] ["fences"] (zo Yo):=zH rfl (by decide+kernel)
abbrev X6:Stmt:=top 32
def YT:zA ["stretches","ends","S"] ["stretches"] (zo X6):=zH rfl (by decide+kernel)
abbrev YO:Stmt:=top 33
def vo:zA ["one","other","line","sides","other_line","other_sides","end","side"] ["one","other"] (zo YO):=zH rfl (by decide+kernel)
abbrev XD:Stmt:=top 34
def Wv:zA ["one","other","first","second"] ["one","other"] (zo XD):=zH rfl (by decide+kernel)
abbrev XW:Stmt:=top 36
def zcu:zA ["S"] ["S"] (zo XW):=zH rfl (by decide+kernel)
abbrev Yl:Stmt:=top 38
def Yr:zA ["stretches","lying"] ["stretches"] (zo Yl):=zH rfl (by decide+kernel)
abbrev Xq:Stmt:=top 39
def qB:zA ["P","numbers","stretches","begins","through","ends"] ["P","numbers","stretches"] (zo Xq):=zH rfl (by decide+kernel)
abbrev Y2:Stmt:=top 40
def wM:zA ["stretches","lying","number","S","P","one","other"] ["stretches"] (zo Y2):=zH rfl (by decide+kernel)
abbrev YL:Stmt:=top 41
def sc_note:zA ["lying","P","number"] ["lying","P","number"] (zo YL):=zH rfl (by decide+kernel)
abbrev Xa:Stmt:=top 42
def zb6:zA ["common"] ["common"] (zo Xa):=zH rfl (by decide+kernel)
abbrev xE:Stmt:=top 43
def yR:zA ["stretches","keys","lows","highs","lasts","pairs","standing","number","first","low","high","near"] ["stretches"] (zo xE):=zH rfl (by decide+kernel)
abbrev Wj:Stmt:=top 44
def wb:zA ["stretches","owners","reached","P","begins","through","ends","number"] ["stretches"] (zo Wj):=zH rfl (by decide+kernel)
abbrev qW:Stmt:=top 46
def wf:zA ["pairs","fences","numbers","number","pair","names","cut","places"] ["pairs"] (zo qW):=zH rfl (by decide+kernel)
abbrev XA:Stmt:=top 47
def qT:zA ["parts","places","P","place"] ["parts"] (zo XA):=zH rfl (by decide+kernel)
abbrev Y0:Stmt:=top 48
def wl:zA ["cut","places","names","numbers","layers","S","own","first","last","marks","k"] ["cut","places","names"] (zo Y0):=zH rfl (by decide+kernel)
abbrev XY:Stmt:=top 49
def Xt:zA ["S","places","line","between"] ["S","places"] (zo XY):=zH rfl (by decide+kernel)
abbrev Ws:Stmt:=top 50
def wP:zA ["layer","names","told","over","S","own"] ["layer","names"] (zo Ws):=zH rfl (by decide+kernel)
abbrev Y1:Stmt:=top 51
def Jf:zA ["numbers","names"] ["numbers","names"] (zo Y1):=zH rfl (by decide+kernel)
abbrev X9:Stmt:=top 52
def jL:zA ["cut","places","names","numbers","told","S","own"] ["cut","places","names"] (zo X9):=zH rfl (by decide+kernel)
abbrev YM:Stmt:=W6 (top 54) 0
def vt:zA ["self","pairs","told"] ["self","pairs"] (zo YM):=zH rfl (by decide+kernel)
abbrev xC:Stmt:=W6 (top 54) 1
def Yg:zA ["self","P","x","number"] ["self","P"] (zo xC):=zH rfl (by decide+kernel)
abbrev YU:Stmt:=top 55
def v3:zA ["names","seen","name"] ["names"] (zo YU):=zH rfl (by decide+kernel)
abbrev xB:Stmt:=top 56
def JG:zA ["layer","P","place","own"] ["layer","P"] (zo xB):=zH rfl (by decide+kernel)
abbrev Xc:Stmt:=top 57
def zaq:zA ["layer","place"] ["layer","place"] (zo Xc):=zH rfl (by decide+kernel)
abbrev V9:Stmt:=top 62
abbrev VQ:Stmt:=top 63
abbrev Y8:Stmt:=top 65
def ze1:zA ["_law_script","_law_k"] ["_law_script","_law_k"] (zo Y8):=zH rfl (by decide+kernel)
abbrev XX:Stmt:=top 66
def ji:zA ["_law_number","_law_some","_law_word","_law_k"] ["_law_number"] (zo XX):=zH rfl (by decide+kernel)
abbrev X0:Stmt:=top 67
def WQ:zA ["_law_pairs","e"] ["_law_pairs"] (zo X0):=zH rfl (by decide+kernel)
abbrev XE:Stmt:=top 68
def yG:zA ["_law_script","_law_pairs","_law_k","_law_number","_law_name_here","_law_land","_law_cell","_law_at","_law_wrong","_law_handed","_law_other","_law_found","_law_due"] ["_law_script"] (zo XE):=zH rfl (by decide+kernel)
def Fd(K:kF)(x:Str)(st:Stmt)(f:Addr)(fd:pZ):Prop:=pO K km x=some (some (.ref f))/\Fun K x x st f fd
def fd_mk{K:kF}{x:Str}{st:Stmt}{f:Addr}{oc:kC}{od an:Option Addr}{sl:Array (Option kC)}{kV dc pm cd ct:kC}(a:pO K km x=some (some (.ref f)))(l:K.lookup f=some ⟨oc,od,.func (uG x x (yJ st) (ya st) (zo st) .none kV dc pm an cd ct),sl⟩)(c:QP K cd x=true)(k:uf K (.ref f)=true):Fd K x st f (uG x x (yJ st) (ya st) (zo st) .none kV dc pm an cd ct):=⟨a,fun_mk l c k⟩
def Fd.at{K:kF}{h:Heap}{mg:Str->Option kC}{x:Str}{st:Stmt}{f:Addr}{d:pZ}{ps:List Str}(q:Fd K x st f d)(X:K.In h)(G:h.Ns km mg)(b:∀(kV doc pm:kC)(an:Option Addr)(cdv ct:kC)(us:List kC),us.length=ps.length->QW (uG x x (yJ st) (ya st) (zo st) .none kV doc pm an cdv ct) ⟨us,[]⟩=pure (ps.zip us)):zG K mg x st ps f d:=⟨q.2,q.2.binds b,Qf X G q.1⟩
structure MtAt(K:kF)(x qual:Str)(st:Stmt)(ps:List Str)(f:Addr)(fd:pZ):Prop where
 fn:Fun K x qual st f fd
 bn:Binds K fd ps []
structure Txt(K:kF)(mg:Str->Option kC)(ad:Nat->Addr)(fd:Nat->pZ)(ca:Nat->Addr):Prop where
 is_whole:zG K mg "is_whole" XF ["thing"] (ad 0) (fd 0)
 divisor:zG K mg "divisor" Y9 ["one","other"] (ad 1) (fd 1)
 fraction:zG K mg "fraction" Wm ["top","bottom"] (ad 2) (fd 2)
 under:zG K mg "under" XZ ["one","other"] (ad 3) (fd 3)
 point:zG K mg "point" Yu ["x","y","w"] (ad 4) (fd 4)
 across:zG K mg "across" Ym ["P"] (ad 5) (fd 5)
 before:zG K mg "before" YN ["P","Q"] (ad 6) (fd 6)
 sign_of:zG K mg "sign_of" XO ["number"] (ad 7) (fd 7)
 line_of:zG K mg "line_of" X2 ["P","Q"] (ad 8) (fd 8)
 side_of:zG K mg "side_of" Y4 ["line","P"] (ad 9) (fd 9)
 turn:zG K mg "turn" Wf ["P","Q","R"] (ad 10) (fd 10)
 met:zG K mg "met" YD ["one","other"] (ad 11) (fd 11)
 order_keys:zG K mg "order_keys" Xf ["points"] (ad 12) (fd 12)
 in_order:zG K mg "in_order" xF ["points"] (ad 13) (fd 13)
 in_order_c:xi K "in_order" "in_order" xF (ad 13) (fd 13) (ad 48) (ad 49)
 by_points:zG K mg "by_points" xv ["things"] (ad 14) (fd 14)
 by_points_c:xi K "by_points" "by_points" xv (ad 14) (fd 14) (ad 50) (ad 51)
 halved:zG K mg "halved" YE ["many","is_past"] (ad 15) (fd 15)
 numbers_of:zG K mg "numbers_of" Xy ["things"] (ad 16) (fd 16)
 stretch:zG K mg "stretch" Yx ["P","Q"] (ad 17) (fd 17)
 stretches_of:zG K mg "stretches_of" Yo ["fences"] (ad 18) (fd 18)
 ends_of:zG K mg "ends_of" X6 ["stretches"] (ad 19) (fd 19)
 meet:zG K mg "meet" YO ["one","other"] (ad 20) (fd 20)
 meet_on_line:zG K mg "meet_on_line" XD ["one","other"] (ad 21) (fd 21)
 is_upright:zG K mg "is_upright" XW ["S"] (ad 22) (fd 22)
 stops:zG K mg "stops" Yl ["stretches"] (ad 23) (fd 23)
 stop_at:zG K mg "stop_at" Xq ["P","numbers","stretches"] (ad 24) (fd 24)
 lying_at:zG K mg "lying_at" Y2 ["stretches"] (ad 25) (fd 25)
 note:zG K mg "note" YL ["lying","P","number"] (ad 26) (fd 26)
 shared_ends:zG K mg "shared_ends" Xa ["common"] (ad 27) (fd 27)
 near_pairs:zG K mg "near_pairs" xE ["stretches"] (ad 28) (fd 28)
 near_pairs_c:xi K "near_pairs" "near_pairs" xE (ad 28) (fd 28) (ad 52) (ad 53)
 pieces:zG K mg "pieces" Wj ["stretches"] (ad 29) (fd 29)
 slabs:zG K mg "slabs" qW ["pairs"] (ad 30) (fd 30)
 places_of:zG K mg "places_of" XA ["parts"] (ad 31) (fd 31)
 layers_of:zG K mg "layers_of" Y0 ["cut","places","names"] (ad 32) (fd 32)
 marks_along:zG K mg "marks_along" XY ["S","places"] (ad 33) (fd 33)
 layer_told:zG K mg "layer_told" Ws ["layer","names"] (ad 34) (fd 34)
 named:zG K mg "named" Y1 ["numbers","names"] (ad 35) (fd 35)
 uprights_of:zG K mg "uprights_of" X9 ["cut","places","names"] (ad 36) (fd 36)
 Map___init__:MtAt K "__init__" "Map.__init__" YM ["self","pairs"] (ad 37) (fd 37)
 Map_found:MtAt K "found" "Map.found" xC ["self","P"] (ad 38) (fd 38)
 Map_found_c:xi K "found" "Map.found" xC (ad 38) (fd 38) (ad 54) (ad 55)
 check_names:zG K mg "check_names" YU ["names"] (ad 39) (fd 39)
 found_between:zG K mg "found_between" xB ["layer","P"] (ad 40) (fd 40)
 found_between_c:xi K "found_between" "found_between" xB (ad 40) (fd 40) (ad 56) (ad 57)
 over_names:zG K mg "over_names" Xc ["layer","place"] (ad 41) (fd 41)
 each_once:zG K mg "each_once" V9 ["names"] (ad 42) (fd 42)
 without:zG K mg "without" VQ ["names","others"] (ad 43) (fd 43)
 law_cell_at:zG K mg "_law_cell_at" Y8 ["_law_script","_law_k"] (ad 44) (fd 44)
 law_name:zG K mg "_law_name" XX ["_law_number"] (ad 45) (fd 45)
 law_refused:zG K mg "_law_refused" X0 ["_law_pairs"] (ad 46) (fd 46)
 law:zG K mg "law" XE ["_law_script"] (ad 47) (fd 47)
 tne01:ad 49≠ad 51
 tne02:ad 49≠ad 53
 tne12:ad 51≠ad 53
 tne03:ad 49≠ad 55
 tne13:ad 51≠ad 55
 tne23:ad 53≠ad 55
 tne04:ad 49≠ad 57
 tne14:ad 51≠ad 57
 tne24:ad 53≠ad 57
 tne34:ad 55≠ad 57
 b_ValueError:mg "ValueError"=none
 b_abs:mg "abs"=none
 b_bool:mg "bool"=none
 b_enumerate:mg "enumerate"=none
 b_int:mg "int"=none
 b_isinstance:mg "isinstance"=none
 b_len:mg "len"=none
 b_list:mg "list"=none
 b_max:mg "max"=none
 b_min:mg "min"=none
 b_range:mg "range"=none
 b_reversed:mg "reversed"=none
 b_sorted:mg "sorted"=none
 b_str:mg "str"=none
 b_zip:mg "zip"=none
 x_AcreError:mg "AcreError"=some (.ref (ca 0))
 x_NoNumber:mg "NoNumber"=some (.ref (ca 1))
 x_NoPoint:mg "NoPoint"=some (.ref (ca 2))
 x_NoStretch:mg "NoStretch"=some (.ref (ca 3))
 x_NoName:mg "NoName"=some (.ref (ca 4))
 x_NoText:mg "NoText"=some (.ref (ca 5))
 x_NoRow:mg "NoRow"=some (.ref (ca 6))
 x_Map:mg "Map"=some (.ref (ca 7))
 xc_NoName:XC K (ca 4)
 xi_NoName:XI K (ca 4)
 is_NoName_AcreError:gf K (.ref (ca 4)) (.ref (ca 0))=some true
 is_NoName_ValueError:gf K (.ref (ca 4)) (.type "ValueError")=some true
 ex_NoName_NoNumber:uV K (.ref (ca 4)) (.ref (ca 1))=some false
 ex_NoName_NoPoint:uV K (.ref (ca 4)) (.ref (ca 2))=some false
 ex_NoName_NoRow:uV K (.ref (ca 4)) (.ref (ca 6))=some false
 ex_NoName_NoStretch:uV K (.ref (ca 4)) (.ref (ca 3))=some false
 ex_NoName_NoText:uV K (.ref (ca 4)) (.ref (ca 5))=some false
 ex_NoName_NoName:uV K (.ref (ca 4)) (.ref (ca 4))=some true
 cl_Map:Cls K (ca 7)
 mk_Map:Mk K (ca 7) (ad 37)
 me_Map_found:Meth K (ca 7) "found" (ad 38)
 na_Map_places:yZ K (ca 7) "places"
 na_Map_layers:yZ K (ca 7) "layers"
 na_Map_uprights:yZ K (ca 7) "uprights"
end Mine
namespace Mine
open PySem L2
namespace Nu
def vW:List Dt->Option Dt:=dFn 1 1
  (dRt (vX (d1 (jY "int") (dV 0)) (d1 kNot (d1 (jY "bool") (dV 0)))))
def qR:List Dt->Option Dt:=dFn 5 2
  (dSq (zy 2 (dCl kAbs (za (dV 0) zb)))
  (dSq (zy 3 (dCl kAbs (za (dV 1) zb)))
  (dSq (dWhN 40000 [4] (dB (d2 j6 (dV 3) (dC (.int 0)))) (dSq (zy 4 (d2 zK (dV 2) (dV 3)))
  (dSq (zy 2 (dV 3))
  (zy 3 (dV 4)))))
  (dRt (dV 2)))))
def ZR:List Dt->Option Dt:=dFn 3 2
  (dSq (zE (bOr (xc (dB (dCl vW (za (dV 0) zb)))) (xc (dB (dCl vW (za (dV 1) zb))))) yY dNx)
  (dSq (zE (dB (d2 yn (dV 1) (dC (.int 0)))) yY dNx)
  (dSq (zy 2 (dCl qR (za (dV 0) (za (dV 1) zb))))
  (dSq (zE (dB (d2 kLt (dV 1) (dC (.int 0)))) (zy 2 (d1 jc (dV 2))) dNx)
  (dRt (zx (za (d2 zS (dV 0) (dV 2)) (za (d2 zS (dV 1) (dV 2)) zb))))))))
def Vm:List Dt->Option Dt:=dFn 4 3
  (dSq (zE (bOr (xc (dB (dCl vW (za (dV 0) zb)))) (bOr (xc (dB (dCl vW (za (dV 1) zb)))) (xc (dB (dCl vW (za (dV 2) zb)))))) yY dNx)
  (dSq (zE (dB (d2 yn (dV 2) (dC (.int 0)))) yY dNx)
  (dSq (zy 3 (dCl qR (za (dCl qR (za (dV 2) (za (dV 0) zb))) (za (dV 1) zb))))
  (dSq (zE (dB (d2 kLt (dV 2) (dC (.int 0)))) (zy 3 (d1 jc (dV 3))) dNx)
  (dRt (zx (za (d2 zS (dV 0) (dV 3)) (za (d2 zS (dV 1) (dV 3)) (za (d2 zS (dV 2) (dV 3)) zb)))))))))
def jd:List Dt->Option Dt:=dFn 1 1
  (dRt (dCl ZR (za (d2 kIx (dV 0) (dC (.int 0))) (za (d2 kIx (dV 0) (dC (.int 2))) zb))))
def jF:List Dt->Option Dt:=dFn 4 2
  (dSq (zy 2 (d2 zU (d2 kIx (dV 0) (dC (.int 0))) (d2 kIx (dV 1) (dC (.int 2)))))
  (dSq (zy 3 (d2 zU (d2 kIx (dV 1) (dC (.int 0))) (d2 kIx (dV 0) (dC (.int 2)))))
  (dSq (zE (dB (d2 j6 (dV 2) (dV 3))) (dRt (d2 kLt (dV 2) (dV 3))) dNx)
  (dRt (d2 kLt (d2 zU (d2 kIx (dV 0) (dC (.int 1))) (d2 kIx (dV 1) (dC (.int 2)))) (d2 zU (d2 kIx (dV 1) (dC (.int 1))) (d2 kIx (dV 0) (dC (.int 2)))))))))
def Wx:List Dt->Option Dt:=dFn 1 1
  (dSq (zE (dB (d2 kGt (dV 0) (dC (.int 0)))) (dRt (dC (.int 1))) dNx)
  (dSq (zE (dB (d2 kLt (dV 0) (dC (.int 0)))) (dRt (d1 jc (dC (.int 1)))) dNx)
  (dRt (dC (.int 0)))))
def jU:List Dt->Option Dt:=dFn 2 2
  (dRt (zx (za (d2 x6 (d2 zU (d2 kIx (dV 0) (dC (.int 1))) (d2 kIx (dV 1) (dC (.int 2)))) (d2 zU (d2 kIx (dV 0) (dC (.int 2))) (d2 kIx (dV 1) (dC (.int 1))))) (za (d2 x6 (d2 zU (d2 kIx (dV 0) (dC (.int 2))) (d2 kIx (dV 1) (dC (.int 0)))) (d2 zU (d2 kIx (dV 0) (dC (.int 0))) (d2 kIx (dV 1) (dC (.int 2))))) (za (d2 x6 (d2 zU (d2 kIx (dV 0) (dC (.int 0))) (d2 kIx (dV 1) (dC (.int 1)))) (d2 zU (d2 kIx (dV 0) (dC (.int 1))) (d2 kIx (dV 1) (dC (.int 0))))) zb)))))
def vK:List Dt->Option Dt:=dFn 2 2
  (dRt (dCl Wx (za (d2 yD (d2 yD (d2 zU (d2 kIx (dV 0) (dC (.int 0))) (d2 kIx (dV 1) (dC (.int 0)))) (d2 zU (d2 kIx (dV 0) (dC (.int 1))) (d2 kIx (dV 1) (dC (.int 1))))) (d2 zU (d2 kIx (dV 0) (dC (.int 2))) (d2 kIx (dV 1) (dC (.int 2))))) zb)))
def Wo:List Dt->Option Dt:=dFn 3 3
  (dRt (dCl vK (za (dCl jU (za (dV 0) (za (dV 1) zb))) (za (dV 2) zb))))
def Wu:List Dt->Option Dt:=dFn 5 2
  (dSq (zy 2 (d2 x6 (d2 zU (d2 kIx (dV 0) (dC (.int 0))) (d2 kIx (dV 1) (dC (.int 1)))) (d2 zU (d2 kIx (dV 0) (dC (.int 1))) (d2 kIx (dV 1) (dC (.int 0))))))
  (dSq (zE (dB (d2 yn (dV 2) (dC (.int 0)))) (dRt (dC .none)) dNx)
  (dSq (zy 3 (d2 x6 (d2 zU (d2 kIx (dV 0) (dC (.int 1))) (d2 kIx (dV 1) (dC (.int 2)))) (d2 zU (d2 kIx (dV 0) (dC (.int 2))) (d2 kIx (dV 1) (dC (.int 1))))))
  (dSq (zy 4 (d2 x6 (d2 zU (d2 kIx (dV 0) (dC (.int 2))) (d2 kIx (dV 1) (dC (.int 0)))) (d2 zU (d2 kIx (dV 0) (dC (.int 0))) (d2 kIx (dV 1) (dC (.int 2))))))
  (dRt (dCl Vm (za (dV 3) (za (dV 4) (za (dV 2) zb)))))))))
def Ya:List Dt->Option Dt:=dFn 5 1
  (dSq (zy 1 (dMax (zI 1 [] (iL (dV 0)) (gN 0) zY (d2 kIx (dV 0) (dC (.int 2)))) (dC (.int 1))))
  (dSq (zy 2 (d2 zU (dV 1) (dV 1)))
  (dSq (dSo 3 (dC (.dT [] [])))
  (dSq (yb [4] (iL (dV 0)) (gN 4)
  (zE (dB (xN true (dV 4) (dVr 3))) (wQ 3 (dV 4) (zx (za (d2 zS (d2 zU (d2 kIx (dV 4) (dC (.int 0))) (dV 2)) (d2 kIx (dV 4) (dC (.int 2)))) (za (d2 zS (d2 zU (d2 kIx (dV 4) (dC (.int 1))) (dV 2)) (d2 kIx (dV 4) (dC (.int 2)))) zb)))) dNx))
  (dFz 3 (dRt (dV 3)))))))
def X3:List Dt->Option Dt:=dFn 2 1
  (dSq (zy 1 (dCl Ya (za (dV 0) zb)))
  (dRt (d64 (dCl jA (za (dV 1) zb)) (qd asP ltK (0,0) 1 (y0 (dV 1) (dV 0)) (dCl jA (za (dV 1) zb))))))
def Wb:List Dt->Option Dt:=dFn 4 1
  (dSq (dSo 1 (zC zb))
  (dSq (yb [] (iL (dV 0)) (gN 2)
  (dEx 1 (iT (dV 2))))
  (dSq (dFz 1 (zy 3 (dCl Ya (za (dV 1) zb))))
  (dRt (d64 (dV 0) (qd asL ltL [] 3 (zI 1 [1] (iT (dV 0)) (gN 0) zY (y0 (dV 1) (dV 0))) (dV 0)))))))
def YC:List Dt->Option Dt:=dFn 4 1
  (dSq (dSo 1 (dC (.dT [] [])))
  (dSq (yb [2,3] (iC enu1 (za (dV 0) zb)) (gT 2 (gsC (gN 2) (gsC (gN 3) gs0)))
  (wQ 1 (dV 3) (dV 2)))
  (dFz 1 (dRt (dV 1)))))
def V4:List Dt->Option Dt:=dFn 2 2
  (dSq (zE (dB (d2 kEq (dV 0) (dV 1))) yY dNx)
  (dSq (zE (dB (dCl jF (za (dV 0) (za (dV 1) zb)))) (dRt (zx (za (dV 0) (za (dV 1) zb)))) dNx)
  (dRt (zx (za (dV 1) (za (dV 0) zb))))))
def Jz:List Dt->Option Dt:=dFn 1 1
  (dRt (zI 2 [] (iL (dV 0)) (gT 2 (gsC (gN 0) (gsC (gN 1) gs0))) zY (dCl V4 (za (dV 0) (za (dV 1) zb)))))
def YG:List Dt->Option Dt:=dFn 3 1
  (dSq (dSo 1 (zC zb))
  (dSq (yb [2] (iL (dV 0)) (gN 2)
  (dEx 1 (iT (dV 2))))
  (dFz 1 (dRt (dV 1)))))
def Vp:List Dt->Option Dt:=dFn 4 2
  (dSq (zy 2 (dIf (dB (dCl jF (za (d2 kIx (dV 0) (dC (.int 0))) (za (d2 kIx (dV 1) (dC (.int 0))) zb)))) (d2 kIx (dV 1) (dC (.int 0))) (d2 kIx (dV 0) (dC (.int 0)))))
  (dSq (zy 3 (dIf (dB (dCl jF (za (d2 kIx (dV 0) (dC (.int 1))) (za (d2 kIx (dV 1) (dC (.int 1))) zb)))) (d2 kIx (dV 0) (dC (.int 1))) (d2 kIx (dV 1) (dC (.int 1)))))
  (dSq (zE (dB (dCl jF (za (dV 3) (za (dV 2) zb)))) (dRt (dC .none)) dNx)
  (dSq (zE (dB (d2 kEq (dV 2) (dV 3))) (dRt (zx (za (dC (.str "spot")) (za (dV 2) zb)))) dNx)
  (dRt (zx (za (dC (.str "part")) (za (zx (za (dV 2) (za (dV 3) zb))) zb))))))))
def WH:List Dt->Option Dt:=dFn 8 2
  (dSq (zy 2 (dCl jU (za (d2 kIx (dV 0) (dC (.int 0))) (za (d2 kIx (dV 0) (dC (.int 1))) zb))))
  (dSq (zy 3 (zx (za (dCl vK (za (dV 2) (za (d2 kIx (dV 1) (dC (.int 0))) zb))) (za (dCl vK (za (dV 2) (za (d2 kIx (dV 1) (dC (.int 1))) zb))) zb))))
  (dSq (zE (dB (d2 kEq (dV 3) (zx (za (dC (.int 0)) (za (dC (.int 0)) zb))))) (dRt (dCl Vp (za (dV 0) (za (dV 1) zb)))) dNx)
  (dSq (zE (dB (d2 yn (d2 kIx (dV 3) (dC (.int 0))) (d2 kIx (dV 3) (dC (.int 1))))) (dRt (dC .none)) dNx)
  (dSq (zy 4 (dCl jU (za (d2 kIx (dV 1) (dC (.int 0))) (za (d2 kIx (dV 1) (dC (.int 1))) zb))))
  (dSq (zy 5 (zx (za (dCl vK (za (dV 4) (za (d2 kIx (dV 0) (dC (.int 0))) zb))) (za (dCl vK (za (dV 4) (za (d2 kIx (dV 0) (dC (.int 1))) zb))) zb))))
  (dSq (zE (dB (d2 yn (d2 kIx (dV 5) (dC (.int 0))) (d2 kIx (dV 5) (dC (.int 1))))) (dRt (dC .none)) dNx)
  (dSq (yb [6,7] (iC zip2T (za (d2 qC (dV 1) (dV 0)) (za (d2 qC (dV 3) (dV 5)) zb))) (gT 2 (gsC (gN 6) (gsC (gN 7) gs0)))
  (zE (dB (d2 yn (dV 7) (dC (.int 0)))) (dRt (zx (za (dC (.str "spot")) (za (dV 6) zb)))) dNx))
  (dRt (zx (za (dC (.str "spot")) (za (dCl Wu (za (dV 2) (za (dV 4) zb))) zb))))))))))))
def VM:List Dt->Option Dt:=dFn 1 1
  (dSq (zE (dB (d2 kIsN (dV 0) (dC .none))) (dRt (zx zb)) dNx)
  (dSq (zE (dB (d2 kEq (d2 kIx (dV 0) (dC (.int 0))) (dC (.str "spot")))) (dRt (zx (za (d2 kIx (dV 0) (dC (.int 1))) zb))) dNx)
  (dRt (d2 kIx (dV 0) (dC (.int 1))))))
def JZ:List Dt->Option Dt:=dFn 12 1
  (dSq (zy 1 (dCl Ya (za (dCl YG (za (dV 0) zb)) zb)))
  (dSq (dSo 2 (zI 1 [1] (iL (dV 0)) (gN 0) zY (dCl (vR λi j=>if j<i then j else i) (za (d2 kIx (y0 (dV 1) (d2 kIx (dV 0) (dC (.int 0)))) (dC (.int 1))) (za (d2 kIx (y0 (dV 1) (d2 kIx (dV 0) (dC (.int 1)))) (dC (.int 1))) zb)))))
  (dSq (dSo 3 (zI 1 [1] (iL (dV 0)) (gN 0) zY (dCl (vR λi j=>if j>i then j else i) (za (d2 kIx (y0 (dV 1) (d2 kIx (dV 0) (dC (.int 0)))) (dC (.int 1))) (za (d2 kIx (y0 (dV 1) (d2 kIx (dV 0) (dC (.int 1)))) (dC (.int 1))) zb)))))
  (dSq (dSo 4 (zI 1 [1] (iL (dV 0)) (gN 0) zY (y0 (dV 1) (d2 kIx (dV 0) (dC (.int 1))))))
  (dSq (dSo 5 (zC zb))
  (dSq (dSo 6 (zC zb))
  (dSq (yb [7,8,9,10,11] (iL (dSrtR asP ltK (0,0) [0,1] (y0 (dV 2) (d2 kIx (d2 kIx (dV 1) (dV 0)) (dC (.int 0)))) (za (dCl yN (za (dV 0) zb)) zb))) (gN 7)
  (dSq (zy 8 (y0 (dV 1) (d2 kIx (d2 kIx (dV 0) (dV 7)) (dC (.int 0)))))
  (dSq (zy 9 (d2 kIx (dVr 2) (dV 7)))
  (dSq (zy 10 (d2 kIx (dVr 3) (dV 7)))
  (dSq (dSo 6 (zI 1 [4,8] (iL (dVr 6)) (gN 0) (dB (d2 kGe2 (d2 kIx (dVr 1) (dV 0)) (dV 2))) (dV 0)))
  (dSq (dSo 11 (zI 1 [2,10] (iL (dVr 6)) (gN 0) (dB (d2 kLe (d2 kIx (dVr 1) (dV 0)) (dV 2))) (dV 0)))
  (dSq (dEx 5 (iL (zI 1 [3,7,9] (iL (dVr 11)) (gN 0) (dB (d2 kGe (d2 kIx (dVr 1) (dV 0)) (dV 3))) (zx (za (dV 2) (za (dV 0) zb))))))
  (dAp 6 (dV 7)))))))))
  (dFz 5 (dRt (dV 5))))))))))
def Zb:List Dt->Option Dt:=dFn 6 3
  (dSq (dSo 3 (zI 1 [0,2] (iL (dV 1)) (gN 0) (dB (d2 kEq (d2 kIx (d2 kIx (dV 2) (dV 0)) (dC (.int 0))) (dV 1))) (dV 0)))
  (dSq (dSo 4 (zI 1 [0,2] (iL (dV 1)) (gN 0) (dB (d2 (kIn true true) (dV 1) (d2 kIx (dV 2) (dV 0)))) (dV 0)))
  (dSq (dSo 5 (zI 1 [0,2] (iL (dV 1)) (gN 0) (dB (d2 kEq (d2 kIx (d2 kIx (dV 2) (dV 0)) (dC (.int 1))) (dV 1))) (dV 0)))
  (dFz 3 (dFz 4 (dFz 5 (dRt (zx (za (dV 0) (za (dV 3) (za (dV 4) (za (dV 5) zb))))))))))))
def qm:Dt->List Dt->Option Dt:=dFnW 3 3
  (dSq (zE (dB (jE true (dV 1) 0)) (dPutN 0 (dV 1) (dC (.dK [] []))) dNx)
  (dPut2 0 (dV 1) (dV 2) (dC (.bool true))))
def Vv:List Dt->Option Dt:=dFn 7 1
  (dSq (dSo 1 (dC (.dT [] [])))
  (dSq (yb [2,3,4] (iC enu1 (za (dV 0) zb)) (gT 2 (gsC (gN 2) (gsC (gN 3) gs0)))
  (yb [4] (iT (dV 3)) (gN 4)
  (dIo 1 qm (za (dV 4) (za (dV 2) zb)))))
  (dSq (yb [4,5,6] (iL (dCl JZ (za (dV 0) zb))) (gT 2 (gsC (gN 5) (gsC (gN 6) gs0)))
  (yb [4] (iT (dCl VM (za (dCl WH (za (d2 kIx (dV 0) (dV 5)) (za (d2 kIx (dV 0) (dV 6)) zb))) zb))) (gN 4)
  (dSq (dIo 1 qm (za (dV 4) (za (dV 5) zb)))
  (dIo 1 qm (za (dV 4) (za (dV 6) zb))))))
  (dFz 1 (dRt (dV 1))))))
def WP:List Dt->Option Dt:=dFn 2 1
  (dSq (zy 1 (dCl Vv (za (dV 0) zb)))
  (dRt (zI 1 [0,1] (iL (dCl X3 (za (dCl jA (za (dV 1) zb)) zb))) (gN 0) zY (dCl Zb (za (dV 0) (za (dCl qq (za (dCl Wq (za (y0 (dV 2) (dV 0)) zb)) zb)) (za (dV 1) zb)))))))
def WI:List Dt->Option Dt:=dFn 8 1
  (dSq (dSo 1 (dC (.dN [] [])))
  (dSq (dSo 2 (dC (.dK [] [])))
  (dSq (yb [3,4,5,6,7] (iL (dCl WP (za (dV 0) zb))) (gT 4 (gsC (gN 3) (gsC (gN 4) (gsC (gN 5) (gsC (gN 6) gs0)))))
  (dSq (yb [7] (iL (dCl qq (za (d2 yu (dV 5) (dV 6)) zb))) (gN 7)
  (dSdAp 1 (zx (za (y0 (dVr 2) (dV 7)) (za (dV 3) zb))) 7))
  (yb [7] (iL (d2 yu (dV 4) (dV 5))) (gN 7)
  (wQ 2 (dV 7) (dV 3)))))
  (dFz 1 (dRt (zI 1 [1] (iL (dCl Wb (za (d1 qO (dV 1)) zb))) (gN 0) zY (zx (za (dV 0) (za (d2 Wt (dV 1) (dV 0)) zb)))))))))
def WR:List Dt->Option Dt:=dFn 1 1
  (dRt (d2 yn (d2 zU (d2 kIx (d2 kIx (dV 0) (dC (.int 0))) (dC (.int 0))) (d2 kIx (d2 kIx (dV 0) (dC (.int 1))) (dC (.int 2)))) (d2 zU (d2 kIx (d2 kIx (dV 0) (dC (.int 1))) (dC (.int 0))) (d2 kIx (d2 kIx (dV 0) (dC (.int 0))) (dC (.int 2))))))
def Zd:List Dt->Option Dt:=dFn 4 1
  (dSq (dSo 1 (zC zb))
  (dSq (yb [2,3] (iL (dCl X3 (za (dCl YG (za (dV 0) zb)) zb))) (gN 2)
  (dSq (zy 3 (dCl jd (za (dV 2) zb)))
  (zE (bOr (dB (d2 kEq (dVr 1) (zC zb))) (dB (d2 kNe (d2 kIx (dVr 1) (d1 jc (dC (.int 1)))) (dV 3)))) (dAp 1 (dV 3)) dNx)))
  (dFz 1 (dRt (dV 1)))))
def VH:List Dt->Option Dt:=dFn 4 2
  (dSq (zy 2 (dCl jU (za (d2 kIx (dV 0) (dC (.int 0))) (za (d2 kIx (dV 0) (dC (.int 1))) zb))))
  (dSq (dSo 3 (zI 2 [2] (iL (dV 1)) (gT 2 (gsC (gN 0) (gsC (gN 1) gs0))) zY (dCl Wu (za (dV 2) (za (zx (za (dV 1) (za (dC (.int 0)) (za (d1 jc (dV 0)) zb)))) zb)))))
  (dRt (d2 yu (d2 yu (zC (za (d2 kIx (dV 0) (dC (.int 0))) zb)) (dVr 3)) (zC (za (d2 kIx (dV 0) (dC (.int 1))) zb))))))
noncomputable def qL:List Dt->Option Dt:=dFn 2 2
  (dRt (dCl ju (za (zI 1 [1] (iL (dV 0)) (gN 0) zY (d2 kIx (dV 1) (dV 0))) zb)))
noncomputable def WV:List Dt->Option Dt:=dFn 6 2
  (dSq (dSo 2 (zC zb))
  (dSq (dSo 3 (zC zb))
  (dSq (yb [4,5] (iC rev1 (za (dCl Wb (za (d1 qO (dV 0)) zb)) zb)) (gN 4)
  (dSq (zy 5 (d2 Wt (dV 0) (dV 4)))
  (dSq (dFz 3 (dAp 2 (zx (za (dV 4) (za (dCl qL (za (dV 3) (za (dV 1) zb))) (za (dCl qL (za (dV 5) (za (dV 1) zb))) zb))))))
  (dSo 3 (d2 yu (zI 1 [5] (iL (dV 3)) (gN 0) (dB (d2 (kIn false true) (dV 0) (dV 1))) (dV 0)) (zI 1 [3] (iL (dV 5)) (gN 0) (dB (d2 (kIn false true) (dV 0) (dV 1))) (dV 0)))))))
  (dRt (d1 kRev (dVr 2))))))
noncomputable def J5:List Dt->Option Dt:=dFn 11 3
  (dSq (zy 3 (dCl YC (za (dV 1) zb)))
  (dSq (dSo2 4 (zI 1 [] (iL (dSl (dV 1) (oS (dC (.int 1))) oN)) (gN 0) zY (dC (.dN [] []))))
  (dSq (yb [5,6,7,8,9,10] (iL (dV 0)) (gT 2 (gsC (gN 5) (gsC (gN 6) gs0)))
  (dSq (zy 7 (y0 (dV 3) (dCl jd (za (d2 kIx (dV 5) (dC (.int 0))) zb))))
  (dSq (zy 8 (y0 (dV 3) (dCl jd (za (d2 kIx (dV 5) (dC (.int 1))) zb))))
  (dSq (zy 9 (dCl VH (za (dV 5) (za (dSl (dV 1) (oS (d2 yD (dV 7) (dC (.int 1)))) (oS (dV 8))) zb))))
  (yb [10] (iC rng2 (za (dV 7) (za (dV 8) zb))) (gN 10)
  (V3 4 (dV 10) (zx (za (d2 kIx (dV 9) (d2 x6 (dV 10) (dV 7))) (za (d2 kIx (dV 9) (d2 yD (d2 x6 (dV 10) (dV 7)) (dC (.int 1)))) zb))) (dV 6)))))))
  (dFz 4 (dRt (zI 1 [2] (iL (dV 4)) (gN 0) zY (dCl WV (za (dV 0) (za (dV 1) zb)))))))))
noncomputable def Vx:List Dt->Option Dt:=dFn 7 3
  (dSq (zy 3 (dCl YC (za (dV 1) zb)))
  (dSq (dSo2 4 (zI 1 [] (iL (dV 1)) (gN 0) zY (zC zb)))
  (dSq (yb [5,6] (iL (dV 0)) (gT 2 (gsC (gN 5) (gsC (gN 6) gs0)))
  (zE (dB (dCl WR (za (dV 5) zb))) (dAp2 4 (y0 (dV 3) (dCl jd (za (d2 kIx (dV 5) (dC (.int 0))) zb))) (zx (za (dV 5) (za (dCl qL (za (dV 6) (za (dV 2) zb))) zb)))) dNx))
  (dFz 4 (dRt (dV 4))))))
noncomputable def qJ:List Dt->Option Dt:=dFn 8 1
  (dSq (dSo 1 (zC zb))
  (dSq (dSo 2 (zC zb))
  (dSq (yb [3] (iC enu1 (za (dV 0) zb)) (gT 2 (gsC (gN 3) (gsC (gN 4) gs0)))
  (dSq (dEx 1 (iL (d2 kIx (dV 4) (dC (.int 1)))))
  (dEx 2 (iL (zI 1 [3] (iL (d2 kIx (dV 4) (dC (.int 1)))) (gN 0) zY (dV 1))))))
  (dSq (dSo 5 (zI 1 [] (iL (dV 0)) (gN 0) zY (d2 kIx (dV 0) (dC (.int 0)))))
  (dSq (dFz 1 (dSo 6 (zI 2 [2] (iL (dCl WI (za (dCl Jz (za (dV 1) zb)) zb))) (gT 2 (gsC (gN 0) (gsC (gN 1) gs0))) zY (zx (za (dV 0) (za (zI 1 [2] (iL (dV 1)) (gN 0) zY (d2 kIx (dVr 1) (dV 0))) zb))))))
  (dSq (zy 7 (dCl Zd (za (zI 2 [] (iL (dVr 6)) (gT 2 (gsC (gN 0) (gsC (gN 1) gs0))) zY (dV 0)) zb)))
  (dFz 6 (dFz 5 (dRt (zx (za (dV 7) (za (dCl J5 (za (dV 6) (za (dV 7) (za (dV 5) zb)))) (za (dCl Vx (za (dV 6) (za (dV 7) (za (dV 5) zb)))) zb)))))))))))))
def ZK:List Dt->Option Dt:=dFn 2 2
  (dRt (d2 kLt (d2 zU (d2 kIx (dV 0) (dC (.int 0))) (d2 kIx (dV 1) (dC (.int 1)))) (d2 zU (d2 kIx (dV 1) (dC (.int 0))) (d2 kIx (dV 0) (dC (.int 1))))))
def Vb:List Dt->Option Dt:=dFn 2 2
  (dRt (dIf (dB (d2 kGt (dV 1) (dC (.int 0)))) (dCl jV (za (d2 kIx (d2 kIx (dV 0) (d2 x6 (dV 1) (dC (.int 1)))) (dC (.int 1))) zb)) (zC zb)))
def qy:List Dt->Option Dt:=dFn 3 1
  (dSq (dSo 1 (dC (.dK [] [])))
  (yb [2] (iL (dV 0)) (gN 2)
  (dSq (zE (xc (dB (d1 yL (dV 2)))) yY dNx)
  (dSq (zE (dB (xN false (dV 2) (dVr 1))) yY dNx)
  (wQ 1 (dV 2) (dC (.bool true)))))))
def ZU:List Dt->Option Dt:=dFn 4 2
  (dSq (zy 2 (dHlv [0,1] (d2 kLe (dCl Wo (za (d2 kIx (d2 kIx (d2 kIx (dV 1) (dV 0)) (dC (.int 0))) (dC (.int 0))) (za (d2 kIx (d2 kIx (d2 kIx (dV 1) (dV 0)) (dC (.int 0))) (dC (.int 1))) (za (dV 2) zb)))) (dC (.int 0))) (dCl yN (za (dV 0) zb))))
  (dSq (zE (bAnd (dB (d2 kLt (dV 2) (dCl yN (za (dV 0) zb)))) (dB (d2 yn (dCl Wo (za (d2 kIx (d2 kIx (d2 kIx (dV 0) (dV 2)) (dC (.int 0))) (dC (.int 0))) (za (d2 kIx (d2 kIx (d2 kIx (dV 0) (dV 2)) (dC (.int 0))) (dC (.int 1))) (za (dV 1) zb)))) (dC (.int 0))))) (dSq yY
  yY) dNx)
  (dRt (zx (za (dCl Vb (za (dV 0) (za (dV 2) zb))) (za (zC zb) zb))))))
def vB:List Dt->Option Dt:=dFn 4 2
  (dSq (zy 2 (dCl jd (za (dV 1) zb)))
  (dSq (zy 3 (dHlv [2,0] (d1 kNot (dCl ZK (za (d2 kIx (d1 (wU "places") (dV 2)) (dV 0)) (za (dV 1) zb)))) (dCl yN (za (d1 (wU "places") (dV 0)) zb))))
  (dSq (zE (bAnd (dB (d2 kLt (dV 3) (dCl yN (za (d1 (wU "places") (dV 0)) zb)))) (dB (d2 kEq (d2 kIx (d1 (wU "places") (dV 0)) (dV 3)) (dV 2)))) yY dNx)
  (dSq (zE (bOr (dB (d2 yn (dV 3) (dC (.int 0)))) (dB (d2 yn (dV 3) (dCl yN (za (d1 (wU "places") (dV 0)) zb))))) (dRt (zx (za (zC zb) (za (zC zb) zb)))) dNx)
  (dRt (dCl ZU (za (d2 kIx (d1 (wU "layers") (dV 0)) (d2 x6 (dV 3) (dC (.int 1)))) (za (dV 1) zb))))))))
def xG:List Dt->Option Dt:=dFn 2 2
  (dSq (zE (dB (d2 kLt (dV 1) (dCl yN (za (dV 0) zb)))) (dRt (d2 kIx (dV 0) (dV 1))) dNx)
  (dRt (dC (.int 0))))
def vU:List Dt->Option Dt:=dFn 4 1
  (dSq (zy 1 (dC (.str "abcdefghijklmnopqrstuvwxyzABCDEFGHIJKLMNOPQRSTUVWXYZ0123456789 _-.,;")))
  (dSq (zy 2 (dC (.str "")))
  (dSq (yb [3] (iC rng1 (za (d2 zK (dV 0) (dC (.int 4))) zb)) (gN 3)
  (zy 2 (d2 xa (dV 2) (d2 kIx (dV 1) (d2 zK (d2 zS (dV 0) (d2 yD (dC (.int 4)) (d2 zU (dC (.int 97)) (dV 3)))) (dCl wO (za (dV 1) zb)))))))
  (dRt (dV 2)))))
end Nu
end Mine
set_option maxHeartbeats 400000
namespace Mine
open PySem L2
section
variable{P:kW}{w:kq}{K:kF}{mg:Str->Option kC}{base:Heap}{ad:Nat->Addr}{fd:Nat->pZ}{ca:Nat->Addr}{bx:Bx}
seal L2.PE L2.PT L2.PW L2.PA L2.PS L2.PSs L2.PG L2.PGs L2.PI L2.PO L2.PIf
namespace Nu
def lmq(x:Str)(st:Stmt):Str:=(QL x (zo st) 0 0 .none).qual++"<lambda>"
structure Lams(bx:Bx)(ad:Nat->Addr)(P:kW)(w:kq)(ca:Nat->Addr):Prop where
 p:P=bx.P
 w:w=bx.w
 c:bx.C=ca 7
 in_order:Lam1 bx (ad 49) ⟨86,34,86,51⟩ (lmq "in_order" xF)
 by_points:Lam1 bx (ad 51) ⟨92,30,92,68⟩ (lmq "by_points" xv)
 near_pairs:Lam1 bx (ad 53) ⟨185,52,185,83⟩ (lmq "near_pairs" xE)
 Map_found:Lam1 bx (ad 55) ⟨264,42,264,80⟩ (lmq "Map.found" xC)
 found_between:Lam1 bx (ad 57) ⟨291,31,291,85⟩ (lmq "found_between" xB)
def jS(T:Txt K mg ad fd ca):zw P w K mg base CX0 1 (ad 0) (fd 0) ["thing"] (spD bx vW):=T.is_whole.fn.okD zas λcdv A outer s H E hr=>
   (zm (zB (Ju (Jl (isiF zef) rfl T.b_isinstance (dv 0) zg (jg (v:=.ty "int") rfl T.b_int bt_int rfl) zg) (Jd (WF (Jl (isiF zev) rfl T.b_isinstance (dv 0) zg (jg (v:=.ty "bool") rfl T.b_bool bt_bool rfl) zg))))))
def Xp(T:Txt K mg ad fd ca):zw P w K mg base CX0 1 (ad 1) (fd 1) ["one","other"] (spD bx qR):=T.divisor.fn.okD vO λcdv A outer s H E hr=>
   (zj (zF 2 vO.nd (WJ rfl T.b_abs (yj (dv 0) zg yk)))
   (zj (zF 3 vO.nd (WJ rfl T.b_abs (yj (dv 1) zg yk)))
   (zj (ds_whN 40000 (zd0 [4] pF (ZF (dv 3) zd) (zj (zF 4 vO.nd (we (dv 2) (dv 3)))
   (zj (zF 2 vO.nd (dv 3))
   (zm (zF 3 vO.nd (dv 4)))))))
   (zm (zB (dv 2))))))
def zc5(T:Txt K mg ad fd ca):zw P w K mg base CX0 2 (ad 2) (fd 2) ["top","bottom"] (spD bx ZR):=T.fraction.fn.okD YX λcdv A outer s H E hr=>
   (zj (zO (PW.pt (jm (wX (xK (zu (jS T) T.is_whole hr (zc (dv 0) zg ze)))) (qM (wX (xK (zu (jS T) T.is_whole hr (zc (dv 1) zg ze))))))) (zm wa) zQ)
   (zj (zO (xI (dv 1) zd) (zm wa) zQ)
   (zj (zF 2 YX.nd (zu (Xp T) T.divisor hr (zc (dv 0) zg (zc (dv 1) zg ze))))
   (zj (zO (vC (dv 1) zd) (zm (zF 2 YX.nd (jp (dv 2)))) zQ)
   (zm (zB (zL (zc (xL (dv 0) (dv 2)) yQ (zc (xL (dv 1) (dv 2)) yQ ze)))))))))
def zen(T:Txt K mg ad fd ca):zw P w K mg base CX0 2 (ad 4) (fd 4) ["x","y","w"] (spD bx Vm):=T.point.fn.okD XB λcdv A outer s H E hr=>
   (zj (zO (PW.pt (jm (wX (xK (zu (jS T) T.is_whole hr (zc (dv 0) zg ze)))) (jm (wX (xK (zu (jS T) T.is_whole hr (zc (dv 1) zg ze)))) (qM (wX (xK (zu (jS T) T.is_whole hr (zc (dv 2) zg ze)))))))) (zm wa) zQ)
   (zj (zO (xI (dv 2) zd) (zm wa) zQ)
   (zj (zF 3 XB.nd (zu (Xp T) T.divisor hr (zc (zu (Xp T) T.divisor hr (zc (dv 2) zg (zc (dv 0) zg ze))) yf (zc (dv 1) zg ze))))
   (zj (zO (vC (dv 2) zd) (zm (zF 3 XB.nd (jp (dv 3)))) zQ)
   (zm (zB (zL (zc (xL (dv 0) (dv 3)) yQ (zc (xL (dv 1) (dv 3)) yQ (zc (xL (dv 2) (dv 3)) yQ ze))))))))))
def j7(T:Txt K mg ad fd ca):zw P w K mg base CX0 3 (ad 5) (fd 5) ["P"] (spD bx jd):=T.across.fn.okD zeh λcdv A outer s H E hr=>
   (zm (zB (zu (zc5 T) T.fraction hr (zc (zh (dv 0) zd) zJ (zc (zh (dv 0) zd) zJ ze)))))
def qZ(T:Txt K mg ad fd ca):zw P w K mg base CX0 1 (ad 6) (fd 6) ["P","Q"] (spD bx jF):=T.before.fn.okD Y7 λcdv A outer s H E hr=>
   (zj (zF 2 Y7.nd (yh (zh (dv 0) zd) (zh (dv 1) zd)))
   (zj (zF 3 Y7.nd (yh (zh (dv 1) zd) (zh (dv 0) zd)))
   (zj (zO (ZF (dv 2) (dv 3)) (zm (zB (Wa (dv 2) (dv 3)))) zQ)
   (zm (zB (Wa (yh (zh (dv 0) zd) (zh (dv 1) zd)) (yh (zh (dv 1) zd) (zh (dv 0) zd))))))))
def zbr(T:Txt K mg ad fd ca):zw P w K mg base CX0 1 (ad 7) (fd 7) ["number"] (spD bx Wx):=T.sign_of.fn.okD zdq λcdv A outer s H E hr=>
   (zj (zO (dt_gt (dv 0) zd) (zm (zB zd)) zQ)
   (zj (zO (vC (dv 0) zd) (zm (zB (jp zd))) zQ)
   (zm (zB zd))))
def qG(T:Txt K mg ad fd ca):zw P w K mg base CX0 1 (ad 8) (fd 8) ["P","Q"] (spD bx jU):=T.line_of.fn.okD zbo λcdv A outer s H E hr=>
   (zm (zB (zL (zc (x9 (yh (zh (dv 0) zd) (zh (dv 1) zd)) (yh (zh (dv 0) zd) (zh (dv 1) zd))) yQ (zc (x9 (yh (zh (dv 0) zd) (zh (dv 1) zd)) (yh (zh (dv 0) zd) (zh (dv 1) zd))) yQ (zc (x9 (yh (zh (dv 0) zd) (zh (dv 1) zd)) (yh (zh (dv 0) zd) (zh (dv 1) zd))) yQ ze))))))
def jI(T:Txt K mg ad fd ca):zw P w K mg base CX0 2 (ad 9) (fd 9) ["line","P"] (spD bx vK):=T.side_of.fn.okD zcb λcdv A outer s H E hr=>
   (zm (zB (zu (zbr T) T.sign_of hr (zc (wD (wD (yh (zh (dv 0) zd) (zh (dv 1) zd)) (yh (zh (dv 0) zd) (zh (dv 1) zd))) (yh (zh (dv 0) zd) (zh (dv 1) zd))) yQ ze))))
def VE(T:Txt K mg ad fd ca):zw P w K mg base CX0 3 (ad 10) (fd 10) ["P","Q","R"] (spD bx Wo):=T.turn.fn.okD sc_turn λcdv A outer s H E hr=>
   (zm (zB (zu (jI T) T.side_of hr (zc (zu (qG T) T.line_of hr (zc (dv 0) zg (zc (dv 1) zg ze))) yf (zc (dv 2) zg ze)))))
def VW(T:Txt K mg ad fd ca):zw P w K mg base CX0 3 (ad 11) (fd 11) ["one","other"] (spD bx Wu):=T.met.fn.okD qp λcdv A outer s H E hr=>
   (zj (zF 2 qp.nd (x9 (yh (zh (dv 0) zd) (zh (dv 1) zd)) (yh (zh (dv 0) zd) (zh (dv 1) zd))))
   (zj (zO (xI (dv 2) zd) (zm (zB vY)) zQ)
   (zj (zF 3 qp.nd (x9 (yh (zh (dv 0) zd) (zh (dv 1) zd)) (yh (zh (dv 0) zd) (zh (dv 1) zd))))
   (zj (zF 4 qp.nd (x9 (yh (zh (dv 0) zd) (zh (dv 1) zd)) (yh (zh (dv 0) zd) (zh (dv 1) zd))))
   (zm (zB (zu (zen T) T.point hr (zc (dv 3) zg (zc (dv 4) zg (zc (dv 2) zg ze))))))))))
def Yw(T:Txt K mg ad fd ca):zw P w K mg base CX0 1 (ad 12) (fd 12) ["points"] (spD bx Ya):=T.order_keys.fn.okD vz λcdv A outer s H E hr=>
   (zj (zF 1 vz.nd (de_maxD rfl rfl T.b_max (fe (yM vz ["P"] [] (ic (zR (dv 0))) (λcl C fp s2 H2 xe=>⟨(zv 0 (show pE (["P"]:List Str) from by decide+kernel)),yB,(zh (dv 0) zd)⟩))) wx zd))
   (zj (zF 2 vz.nd (yh (dv 1) (dv 1)))
   (zj (yg 3 vz.nd qv)
   (zj (yo [4] pF rfl (zR (dv 0)) (zv 4 vz.nd) (zm (zO (dt_dni (yx hr) (dv 4) (dvr 3)) (zm (jC 3 (yx hr) (dv 4) (zL (zc (xL (yh (zh (dv 4) zd) (dv 2)) (zh (dv 4) zd)) yQ (zc (xL (yh (zh (dv 4) zd) (dv 2)) (zh (dv 4) zd)) yQ ze))))) zQ)))
   (zm (yw 3 (zB (dv 3))))))))
theorem VN(T:Txt K mg ad fd ca)(hK:K.In base)(hB:∀b,b∈([ad 49,ad 51,ad 53,ad 55,ad 57]:List Addr)->base.BuiltinsAt mg b)(hL:Lams bx ad P w ca):zw P w K mg base CX0 3 (ad 13) (fd 13) ["points"] (spD bx X3):=T.in_order_c.okD Z3 λA outer s H E hr=>
   (zj (zF 1 Z3.nd (zu (Yw T) T.order_keys hr (zc (dv 0) zg ze)))
   (zm (zB (fe (Zz kyP (Jb (P:=ad 49) (c0:=ad 48) (x:="P") (y:="keys") (c:=s.heap.objs.size+1) (i0:=1) kyP (JE (hu80 hr)) zdp hr rfl T.b_sorted (fe (V6 rfl rfl T.b_list (yj (dv 1) zg yk))) yf ⟨rfl,rfl,rfl,rfl,rfl,by decide+kernel,by decide+kernel⟩ rfl rfl rfl rfl rfl rfl (Qr hK T.in_order_c.hd) (hB _ (by simp)) (λ_ _ _ _=>rfl) (by intro fa2 c2 A2 s3 H3 hu2;exact(xo (by show A2.units+3+1<cLine;omega) (dv 1) (dv 0))) hL.in_order))))))
theorem ZX(T:Txt K mg ad fd ca)(hK:K.In base)(hB:∀b,b∈([ad 49,ad 51,ad 53,ad 55,ad 57]:List Addr)->base.BuiltinsAt mg b)(hL:Lams bx ad P w ca):zw P w K mg base CX0 3 (ad 14) (fd 14) ["things"] (spD bx Wb):=T.by_points_c.okD qk λA outer s H E hr=>
   (zj (yg 1 qk.nd (zZ ze))
   (zj (yo [] pF rfl (zR (dv 0)) (zv 2 qk.nd) (zm (Vd 1 (dv 2) zg)))
   (zj (yw 1 (zF 3 qk.nd (zu (Yw T) T.order_keys hr (zc (dv 1) zg ze))))
   (zm (zB (fe (Zz kyL (Jb (P:=ad 51) (c0:=ad 50) (x:="thing") (y:="keys") (c:=s.heap.objs.size+1) (i0:=3) kyL (zeb (hu80 hr)) zac hr rfl T.b_sorted (dv 0) zg ⟨rfl,rfl,rfl,rfl,rfl,by decide+kernel,by decide+kernel⟩ rfl rfl rfl rfl rfl rfl (Qr hK T.by_points_c.hd) (hB _ (by simp)) (λ_ _ _ _=>rfl) (by intro fa2 c2 A2 s3 H3 hu2;exact(fe (VD (dsc:=(lamAt xv).1) (N:=["thing","keys"]) (own:=["P"]) (ix:=[1]) rfl rfl rfl ⟨rfl,by decide+kernel,by decide+kernel,by decide+kernel,by decide+kernel⟩ (ic (YA (dv 0))) (λcl C fp s2 H2 xe=>⟨(zv 0 (show pE (["P","keys"]:List Str) from by decide+kernel)),yB,(xo (by show A2.units+3+1<cLine;omega) (dv 1) (dv 0))⟩)))) hL.by_points))))))))
def Zo(T:Txt K mg ad fd ca):zw P w K mg base CX0 1 (ad 16) (fd 16) ["things"] (spD bx YC):=T.numbers_of.fn.okD qw λcdv A outer s H E hr=>
   (zj (yg 1 qw.nd qv)
   (zj (yo [2,3] pF rfl (Y6 rfl T.b_enumerate (zc (dv 0) zg ze)) (xg 2 rfl (zW (zv 2 qw.nd) (zW (zv 3 qw.nd) xb))) (zm (jC 1 (yx hr) (dv 3) (dv 2))))
   (zm (yw 1 (zB (dv 1))))))
def zat(T:Txt K mg ad fd ca):zw P w K mg base CX0 2 (ad 17) (fd 17) ["P","Q"] (spD bx V4):=T.stretch.fn.okD zep λcdv A outer s H E hr=>
   (zj (zO (wG (hu64 hr) (dv 0) (dv 1)) (zm wa) zQ)
   (zj (zO (xK (zu (qZ T) T.before hr (zc (dv 0) zg (zc (dv 1) zg ze)))) (zm (zB (zL (zc (dv 0) zg (zc (dv 1) zg ze))))) zQ)
   (zm (zB (zL (zc (dv 1) zg (zc (dv 0) zg ze)))))))
def zeo(T:Txt K mg ad fd ca):zw P w K mg base CX0 3 (ad 18) (fd 18) ["fences"] (spD bx Jz):=T.stretches_of.fn.okD Zx λcdv A outer s H E hr=>
   (zm (zB (fe (yM Zx ["P","Q"] [] (ic (zR (dv 0))) (λcl C fp s2 H2 xe=>⟨(xg 2 rfl (zW (zv 0 (show pE (["P","Q"]:List Str) from by decide+kernel)) (zW (zv 1 (show pE (["P","Q"]:List Str) from by decide+kernel)) xb))),yB,(zu (zat T) T.stretch hr (zc (dv 0) zg (zc (dv 1) zg ze)))⟩)))))
def ZS(T:Txt K mg ad fd ca):zw P w K mg base CX0 1 (ad 19) (fd 19) ["stretches"] (spD bx YG):=T.ends_of.fn.okD YT λcdv A outer s H E hr=>
   (zj (yg 1 YT.nd (zZ ze))
   (zj (yo [2] pF rfl (zR (dv 0)) (zv 2 YT.nd) (zm (Vd 1 (dv 2) zg)))
   (zm (yw 1 (zB (dv 1))))))
end Nu
end
end Mine
set_option maxHeartbeats 400000
namespace Mine
open PySem L2
section
variable{P:kW}{w:kq}{K:kF}{mg:Str->Option kC}{base:Heap}{ad:Nat->Addr}{fd:Nat->pZ}{ca:Nat->Addr}{bx:Bx}
seal L2.PE L2.PT L2.PW L2.PA L2.PS L2.PSs L2.PG L2.PGs L2.PI L2.PO L2.PIf
namespace Nu
def zak(T:Txt K mg ad fd ca):zw P w K mg base CX0 2 (ad 21) (fd 21) ["one","other"] (spD bx Vp):=T.meet_on_line.fn.okD Wv λcdv A outer s H E hr=>
   (zj (zF 2 Wv.nd (XR (xK (zu (qZ T) T.before hr (zc (zh (dv 0) zd) zJ (zc (zh (dv 1) zd) zJ ze)))) (zh (dv 1) zd) (zh (dv 0) zd)))
   (zj (zF 3 Wv.nd (XR (xK (zu (qZ T) T.before hr (zc (zh (dv 0) zd) zJ (zc (zh (dv 1) zd) zJ ze)))) (zh (dv 0) zd) (zh (dv 1) zd)))
   (zj (zO (xK (zu (qZ T) T.before hr (zc (dv 3) zg (zc (dv 2) zg ze)))) (zm (zB vY)) zQ)
   (zj (zO (wG (hu64 hr) (dv 2) (dv 3)) (zm (zB (zL (zc xz zN (zc (dv 2) zg ze))))) zQ)
   (zm (zB (zL (zc xz zN (zc (zL (zc (dv 2) zg (zc (dv 3) zg ze))) yP ze)))))))))
def ok_meet(T:Txt K mg ad fd ca):zw P w K mg base CX0 4 (ad 20) (fd 20) ["one","other"] (spD bx WH):=T.meet.fn.okD vo λcdv A outer s H E hr=>
   (zj (zF 2 vo.nd (zu (qG T) T.line_of hr (zc (zh (dv 0) zd) zJ (zc (zh (dv 0) zd) zJ ze))))
   (zj (zF 3 vo.nd (zL (zc (zu (jI T) T.side_of hr (zc (dv 2) zg (zc (zh (dv 1) zd) zJ ze))) yf (zc (zu (jI T) T.side_of hr (zc (dv 2) zg (zc (zh (dv 1) zd) zJ ze))) yf ze))))
   (zj (zO (wG (hu64 hr) (dv 3) (zL (zc zd zN (zc zd zN ze)))) (zm (zB (zu (zak T) T.meet_on_line hr (zc (dv 0) zg (zc (dv 1) zg ze))))) zQ)
   (zj (zO (xI (zh (dv 3) zd) (zh (dv 3) zd)) (zm (zB vY)) zQ)
   (zj (zF 4 vo.nd (zu (qG T) T.line_of hr (zc (zh (dv 1) zd) zJ (zc (zh (dv 1) zd) zJ ze))))
   (zj (zF 5 vo.nd (zL (zc (zu (jI T) T.side_of hr (zc (dv 4) zg (zc (zh (dv 0) zd) zJ ze))) yf (zc (zu (jI T) T.side_of hr (zc (dv 4) zg (zc (zh (dv 0) zd) zJ ze))) yf ze))))
   (zj (zO (xI (zh (dv 5) zd) (zh (dv 5) zd)) (zm (zB vY)) zQ)
   (zj (yo [6,7] pF rfl (di_zipT rfl T.b_zip (zc (JL (dv 1) (dv 0)) yQ (zc (JL (dv 3) (dv 5)) yQ ze))) (xg 2 rfl (zW (zv 6 vo.nd) (zW (zv 7 vo.nd) xb))) (zm (zO (xI (dv 7) zd) (zm (zB (zL (zc xz zN (zc (dv 6) zg ze))))) zQ)))
   (zm (zB (zL (zc xz zN (zc (zu (VW T) T.met hr (zc (dv 2) zg (zc (dv 4) zg ze))) yf ze)))))))))))))
def zer(T:Txt K mg ad fd ca):zw P w K mg base CX0 1 (ad 27) (fd 27) ["common"] (spD bx VM):=T.shared_ends.fn.okD zb6 λcdv A outer s H E hr=>
   (zj (zO (dt_isN (dv 0) vY) (zm (zB (zL ze))) zQ)
   (zj (zO (wG (hu64 hr) (zh (dv 0) zd) xz) (zm (zB (zL (zc (zh (dv 0) zd) zJ ze)))) zQ)
   (zm (zB (zh (dv 0) zd)))))
theorem zbv(T:Txt K mg ad fd ca)(hK:K.In base)(hB:∀b,b∈([ad 49,ad 51,ad 53,ad 55,ad 57]:List Addr)->base.BuiltinsAt mg b)(hL:Lams bx ad P w ca):zw P w K mg base CX0 3 (ad 28) (fd 28) ["stretches"] (spD bx JZ):=T.near_pairs_c.okD yR λA outer s H E hr=>
   (zj (zF 1 yR.nd (zu (Yw T) T.order_keys hr (zc (zu (ZS T) T.ends_of hr (zc (dv 0) zg ze)) yf ze)))
   (zj (yg 2 yR.nd (yM yR ["S"] [1] (ic (zR (dv 0))) (λcl C fp s2 H2 xe=>⟨(zv 0 (show pE (["S","keys"]:List Str) from by decide+kernel)),yB,(de_min2 rfl rfl T.b_min (yj (zh (xo (yx hr) (dv 1) (zh (dv 0) zd)) zd) zJ (yj (zh (xo (yx hr) (dv 1) (zh (dv 0) zd)) zd) zJ yk)))⟩)))
   (zj (yg 3 yR.nd (yM yR ["S"] [1] (ic (zR (dv 0))) (λcl C fp s2 H2 xe=>⟨(zv 0 (show pE (["S","keys"]:List Str) from by decide+kernel)),yB,(de_max2 rfl rfl T.b_max (yj (zh (xo (yx hr) (dv 1) (zh (dv 0) zd)) zd) zJ (yj (zh (xo (yx hr) (dv 1) (zh (dv 0) zd)) zd) zJ yk)))⟩)))
   (zj (yg 4 yR.nd (yM yR ["S"] [1] (ic (zR (dv 0))) (λcl C fp s2 H2 xe=>⟨(zv 0 (show pE (["S","keys"]:List Str) from by decide+kernel)),yB,(xo (yx hr) (dv 1) (zh (dv 0) zd))⟩)))
   (zj (yg 5 yR.nd (zZ ze))
   (zj (yg 6 yR.nd (zZ ze))
   (zj (yo [7,8,9,10,11] pF rfl (zR (fe (zdg (P:=ad 53) (c0:=ad 52) (x:="k") (clos:=[("stretches",s.heap.objs.size+1),("keys",s.heap.objs.size+9)]) (js:=[0,1]) kyP (JE (hu80 hr)) hr rfl T.b_sorted rfl T.b_range (zc (wm rfl T.b_len (yj (dv 0) zg yk)) yf ze) ⟨rfl,rfl,rfl,rfl,(show ∀y,y∈(["stretches","keys"]:List Str)->_=some pM from by decide+kernel),by decide+kernel,(show ∀z,z∈(BD _)->z.2=pM->z.1∈(["stretches","keys"]:List Str) from by decide+kernel)⟩ (show pE (["stretches","keys"]:List Str) from by decide+kernel) (.cons rfl rfl rfl (.cons rfl rfl rfl .nil)) rfl rfl rfl (Qr hK T.near_pairs_c.hd) (hB _ (by simp)) (λ_ _ _ _=>rfl) (by intro fa2 c2 A2 s3 H3 hu2;exact(xo (by show A2.units+3+1<cLine;omega) (dv 2) (zh (zh (dv 1) (dv 0)) zd))) hL.near_pairs))) (zv 7 yR.nd) (zj (zF 8 yR.nd (xo (yx hr) (dv 1) (zh (zh (dv 0) (dv 7)) zd)))
   (zj (zF 9 yR.nd (zh (dvr 2) (dv 7)))
   (zj (zF 10 yR.nd (zh (dvr 3) (dv 7)))
   (zj (wH 6 yR ["other"] [4,8] (v4 (dvr 6)) (λcl C fp s2 H2 xe=>⟨(zv 0 (show pE (["other","lasts","first"]:List Str) from by decide+kernel)),(wq (dt_ge2 (hu64 hr) (zh (dvr 1) (dv 0)) (dv 2))),(dv 0)⟩))
   (zj (wH 11 yR ["other"] [2,10] (v4 (dvr 6)) (λcl C fp s2 H2 xe=>⟨(zv 0 (show pE (["other","lows","high"]:List Str) from by decide+kernel)),(wq (dt_le (zh (dvr 1) (dv 0)) (dv 2))),(dv 0)⟩))
   (zj (X7 5 (fe (yM yR ["other"] [3,7,9] (v4 (dvr 11)) (λcl C fp s2 H2 xe=>⟨(zv 0 (show pE (["other","highs","number","low"]:List Str) from by decide+kernel)),(wq (dt_ge (zh (dvr 1) (dv 0)) (dv 3))),(zL (zc (dv 2) zg (zc (dv 0) zg ze)))⟩))) wx)
   (zm (qS 6 (he:=(dv 7)) (n:=zg))))))))))
   (zm (yw 5 (zB (dv 5)))))))))))
def zar(T:Txt K mg ad fd ca):zw P w K mg base CX0 1 (ad 24) (fd 24) ["P","numbers","stretches"] (spD bx Zb):=T.stop_at.fn.okD qB λcdv A outer s H E hr=>
   (zj (wH 3 qB ["number"] [0,2] (ic (zR (dv 1))) (λcl C fp s2 H2 xe=>⟨(zv 0 (show pE (["number","P","stretches"]:List Str) from by decide+kernel)),(wq (wG (hu64 hr) (zh (zh (dv 2) (dv 0)) zd) (dv 1))),(dv 0)⟩))
   (zj (wH 4 qB ["number"] [0,2] (ic (zR (dv 1))) (λcl C fp s2 H2 xe=>⟨(zv 0 (show pE (["number","P","stretches"]:List Str) from by decide+kernel)),(wq (dt_niT (hu64 hr) (dv 1) (zh (dv 2) (dv 0)))),(dv 0)⟩))
   (zj (wH 5 qB ["number"] [0,2] (ic (zR (dv 1))) (λcl C fp s2 H2 xe=>⟨(zv 0 (show pE (["number","P","stretches"]:List Str) from by decide+kernel)),(wq (wG (hu64 hr) (zh (zh (dv 2) (dv 0)) zd) (dv 1))),(dv 0)⟩))
   (zm (yw 3 (yw 4 (yw 5 (zB (zL (zc (dv 0) zg (zc (dv 3) zg (zc (dv 4) zg (zc (dv 5) zg ze)))))))))))))
def YF(T:Txt K mg ad fd ca):zw P w K mg base CX0 1 (ad 26) (fd 26) ["lying","P","number"] (spW bx qm):=T.note.fn.okW sc_note λcdv A outer s H E hr=>
   (zj (zO (dt_dni2 0 (yx hr) (dv 1)) (zm (zcs 0 (yx hr) (dv 1) qx)) zQ)
   (zm (zf9 0 (yx hr) (dv 1) (dv 2) qV)))
def zcn(T:Txt K mg ad fd ca)(hK:K.In base)(hB:∀b,b∈([ad 49,ad 51,ad 53,ad 55,ad 57]:List Addr)->base.BuiltinsAt mg b)(hL:Lams bx ad P w ca):zw P w K mg base CX0 5 (ad 25) (fd 25) ["stretches"] (spD bx Vv):=T.lying_at.fn.okD wM λcdv A outer s H E hr=>
   (zj (yg 1 wM.nd qv)
   (zj (yo [2,3,4] pF rfl (Y6 rfl T.b_enumerate (zc (dv 0) zg ze)) (xg 2 rfl (zW (zv 2 wM.nd) (zW (zv 3 wM.nd) xb))) (zm (yo [4] pF rfl (YA (dv 3)) (zv 4 wM.nd) (zm (YV 1 (YF T) T.note hr (zc (dv 4) zg (zc (dv 2) zg ze)))))))
   (zj (yo [4,5,6] pF rfl (zR (zu (zbv T hK hB hL) T.near_pairs hr (zc (dv 0) zg ze))) (xg 2 rfl (zW (zv 5 wM.nd) (zW (zv 6 wM.nd) xb))) (zm (yo [4] pF rfl (YA (zu (zer T) T.shared_ends hr (zc (zu (ok_meet T) T.meet hr (zc (zh (dv 0) (dv 5)) zJ (zc (zh (dv 0) (dv 6)) zJ ze))) yf ze))) (zv 4 wM.nd) (zj (YV 1 (YF T) T.note hr (zc (dv 4) zg (zc (dv 5) zg ze)))
   (zm (YV 1 (YF T) T.note hr (zc (dv 4) zg (zc (dv 6) zg ze))))))))
   (zm (yw 1 (zB (dv 1)))))))
def zbw(T:Txt K mg ad fd ca)(hK:K.In base)(hB:∀b,b∈([ad 49,ad 51,ad 53,ad 55,ad 57]:List Addr)->base.BuiltinsAt mg b)(hL:Lams bx ad P w ca):zw P w K mg base CX0 6 (ad 23) (fd 23) ["stretches"] (spD bx WP):=T.stops.fn.okD Yr λcdv A outer s H E hr=>
   (zj (zF 1 Yr.nd (zu (zcn T hK hB hL) T.lying_at hr (zc (dv 0) zg ze)))
   (zm (zB (fe (yM Yr ["P"] [0,1] (ic (zR (zu (VN T hK hB hL) T.in_order hr (zc (fe (V6 rfl rfl T.b_list (yj (dv 1) zg yk))) yf ze)))) (λcl C fp s2 H2 xe=>⟨(zv 0 (show pE (["P","stretches","lying"]:List Str) from by decide+kernel)),yB,(zu (zar T) T.stop_at hr (zc (dv 0) zg (zc (fe (ZZ (hu100 hr) rfl T.b_sorted (yj (fe (zby rfl rfl T.b_list (yj (xo (yx hr) (dv 2) (dv 0)) zJ yk))) yf yk))) yf (zc (dv 1) zg ze))))⟩))))))
def zaf(T:Txt K mg ad fd ca)(hK:K.In base)(hB:∀b,b∈([ad 49,ad 51,ad 53,ad 55,ad 57]:List Addr)->base.BuiltinsAt mg b)(hL:Lams bx ad P w ca):zw P w K mg base CX0 7 (ad 29) (fd 29) ["stretches"] (spD bx WI):=T.pieces.fn.okD wb λcdv A outer s H E hr=>
   (zj (yg 1 wb.nd (df_dN hL.p hL.w))
   (zj (yg 2 wb.nd qx)
   (zj (yo [3,4,5,6,7] pF rfl (zR (zu (zbw T hK hB hL) T.stops hr (zc (dv 0) zg ze))) (xg 4 rfl (zW (zv 3 wb.nd) (zW (zv 4 wb.nd) (zW (zv 5 wb.nd) (zW (zv 6 wb.nd) xb))))) (zj (yo [7] pF rfl (zR (fe (ZZ (hu100 hr) rfl T.b_sorted (yj (fe (ww (dv 5) (dv 6))) yQ yk)))) (zv 7 wb.nd) (zm (ds_sdap 1 7 hL.p hL.w (hu64 hr) (zL (zc (xo (yx hr) (dvr 2) (dv 7)) zJ (zc (dv 3) zg ze))))))
   (zm (yo [7] pF rfl (zR (fe (ww (dv 4) (dv 5)))) (zv 7 wb.nd) (zm (jC 2 (yx hr) (dv 7) (dv 3)))))))
   (zm (yw 1 (zB (fe (yM wb ["S"] [1] (ic (zR (zu (ZX T hK hB hL) T.by_points hr (zc (fe (V2 hL.p hL.w rfl rfl T.b_list (dv 1) zg)) yf ze)))) (λcl C fp s2 H2 xe=>⟨(zv 0 (show pE (["S","owners"]:List Str) from by decide+kernel)),yB,(zL (zc (dv 0) zg (zc (V1 hL.p hL.w (hu64 hr) (dv 1) (dv 0)) zJ ze)))⟩)))))))))
end Nu
end
end Mine
set_option maxHeartbeats 400000
namespace Mine
open PySem L2
section
variable{P:kW}{w:kq}{K:kF}{mg:Str->Option kC}{base:Heap}{ad:Nat->Addr}{fd:Nat->pZ}{ca:Nat->Addr}{bx:Bx}
seal L2.PE L2.PT L2.PW L2.PA L2.PS L2.PSs L2.PG L2.PGs L2.PI L2.PO L2.PIf
namespace Nu
def zd4(T:Txt K mg ad fd ca):zw P w K mg base CX0 1 (ad 22) (fd 22) ["S"] (spD bx WR):=T.is_upright.fn.okD zcu λcdv A outer s H E hr=>
   (zm (zB (de_eqI (yh (zh (zh (dv 0) zd) zd) (zh (zh (dv 0) zd) zd)) (yh (zh (zh (dv 0) zd) zd) (zh (zh (dv 0) zd) zd)))))
def zeg(T:Txt K mg ad fd ca)(hK:K.In base)(hB:∀b,b∈([ad 49,ad 51,ad 53,ad 55,ad 57]:List Addr)->base.BuiltinsAt mg b)(hL:Lams bx ad P w ca):zw P w K mg base CX0 4 (ad 31) (fd 31) ["parts"] (spD bx Zd):=T.places_of.fn.okD qT λcdv A outer s H E hr=>
   (zj (yg 1 qT.nd (zZ ze))
   (zj (yo [2,3] pF rfl (zR (zu (VN T hK hB hL) T.in_order hr (zc (zu (ZS T) T.ends_of hr (zc (dv 0) zg ze)) yf ze))) (zv 2 qT.nd) (zj (zF 3 qT.nd (zu (j7 T) T.across hr (zc (dv 2) zg ze)))
   (zm (zO (PW.pt (jm (wG (hu64 hr) (dvr 1) (fe (zZ ze))) (qM (dt_ne (hu64 hr) (zh (dvr 1) (jp zd)) (dv 3))))) (zm (qS 1 (he:=(dv 3)) (n:=zg))) zQ))))
   (zm (yw 1 (zB (dv 1))))))
def zdm(T:Txt K mg ad fd ca):zw P w K mg base CX0 4 (ad 33) (fd 33) ["S","places"] (spD bx VH):=T.marks_along.fn.okD Xt λcdv A outer s H E hr=>
   (zj (zF 2 Xt.nd (zu (qG T) T.line_of hr (zc (zh (dv 0) zd) zJ (zc (zh (dv 0) zd) zJ ze))))
   (zj (wH 3 Xt ["top","bottom"] [2] (ic (zR (dv 1))) (λcl C fp s2 H2 xe=>⟨(xg 2 rfl (zW (zv 0 (show pE (["top","bottom","line"]:List Str) from by decide+kernel)) (zW (zv 1 (show pE (["top","bottom","line"]:List Str) from by decide+kernel)) xb))),yB,(zu (VW T) T.met hr (zc (dv 2) zg (zc (zL (zc (dv 1) zg (zc zd zN (zc (jp (dv 0)) ze8 ze)))) yP ze)))⟩))
   (zm (zB (fe (ww (fe (ww (fe (zZ (zc (zh (dv 0) zd) zJ ze))) (dvr 3))) (fe (zZ (zc (zh (dv 0) zd) zJ ze)))))))))
end Nu
end
end Mine
set_option maxHeartbeats 400000
namespace Mine
open PySem L2
section
variable{P:kW}{w:kq}{K:kF}{mg:Str->Option kC}{base:Heap}{ad:Nat->Addr}{fd:Nat->pZ}{ca:Nat->Addr}{bx:Bx}
seal L2.PE L2.PT L2.PW L2.PA L2.PS L2.PSs L2.PG L2.PGs L2.PI L2.PO L2.PIf
namespace Nu
def Y3(T:Txt K mg ad fd ca):zw P w K mg base CX0 1 (ad 35) (fd 35) ["numbers","names"] (spD bx qL):=T.named.fn.okD Jf λcdv A outer s H E hr=>
   (zm (zB (fe (Jj rfl T.b_sorted (yj (fe (yM Jf ["k"] [1] (ic (zR (dv 0))) (λcl C fp s2 H2 xe=>⟨(zv 0 (show pE (["k","names"]:List Str) from by decide+kernel)),yB,(zh (dv 1) (dv 0))⟩))) wx yk)))))
def Z5(T:Txt K mg ad fd ca)(hK:K.In base)(hB:∀b,b∈([ad 49,ad 51,ad 53,ad 55,ad 57]:List Addr)->base.BuiltinsAt mg b)(hL:Lams bx ad P w ca):zw P w K mg base CX0 4 (ad 34) (fd 34) ["layer","names"] (spD bx WV):=T.layer_told.fn.okD wP λcdv A outer s H E hr=>
   (zj (yg 2 wP.nd (zZ ze))
   (zj (yg 3 wP.nd (zZ ze))
   (zj (yo [4,5] pF rfl (di_rev rfl T.b_reversed (zc (zu (ZX T hK hB hL) T.by_points hr (zc (fe (V2 hL.p hL.w rfl rfl T.b_list (dv 0) zg)) yf ze)) yf ze)) (zv 4 wP.nd) (zj (zF 5 wP.nd (V1 hL.p hL.w (hu64 hr) (dv 0) (dv 4)))
   (zj (yw 3 (qS 2 (he:=(zL (zc (dv 4) zg (zc (zu (Y3 T) T.named hr (zc (dv 3) zg (zc (dv 1) zg ze))) yf (zc (zu (Y3 T) T.named hr (zc (dv 5) zg (zc (dv 1) zg ze))) yf ze))))) (n:=yP)))
   (zm (yg 3 wP.nd (ww (fe (yM wP ["k"] [5] (ic (zR (dv 3))) (λcl C fp s2 H2 xe=>⟨(zv 0 (show pE (["k","own"]:List Str) from by decide+kernel)),(wq (VZ (hu64 hr) (dv 0) (dv 1))),(dv 0)⟩))) (fe (yM wP ["k"] [3] (ic (zR (dv 5))) (λcl C fp s2 H2 xe=>⟨(zv 0 (show pE (["k","over"]:List Str) from by decide+kernel)),(wq (VZ (hu64 hr) (dv 0) (dv 1))),(dv 0)⟩)))))))))
   (zm (zB (fe (zdc rfl rfl T.b_list rfl T.b_reversed (dvr 2) zg)))))))
def zec(T:Txt K mg ad fd ca)(hK:K.In base)(hB:∀b,b∈([ad 49,ad 51,ad 53,ad 55,ad 57]:List Addr)->base.BuiltinsAt mg b)(hL:Lams bx ad P w ca):zw P w K mg base CX0 5 (ad 32) (fd 32) ["cut","places","names"] (spD bx J5):=T.layers_of.fn.okD wl λcdv A outer s H E hr=>
   (zj (zF 3 wl.nd (zu (Zo T) T.numbers_of hr (zc (dv 1) zg ze)))
   (zj (J3 4 wl ["place"] [] (ic (zR (fe (vS (dv 1) (vp zd) jw)))) (λcl C fp s2 H2 xe=>⟨(zv 0 (show pE (["place"]:List Str) from by decide+kernel)),yB,(df_dN hL.p hL.w)⟩))
   (zj (yo [5,6,7,8,9,10] pF rfl (zR (dv 0)) (xg 2 rfl (zW (zv 5 wl.nd) (zW (zv 6 wl.nd) xb))) (zj (zF 7 wl.nd (xo (yx hr) (dv 3) (zu (j7 T) T.across hr (zc (zh (dv 5) zd) zJ ze))))
   (zj (zF 8 wl.nd (xo (yx hr) (dv 3) (zu (j7 T) T.across hr (zc (zh (dv 5) zd) zJ ze))))
   (zj (zF 9 wl.nd (zu (zdm T) T.marks_along hr (zc (dv 5) zg (zc (fe (vS (dv 1) (vp (wD (dv 7) zd)) (vp (dv 8)))) zJ ze))))
   (zm (yo [10] pF rfl (di_rng2 rfl T.b_range (zc (dv 7) zg (zc (dv 8) zg ze))) (zv 10 wl.nd) (zm (zdv 4 hL.p hL.w (hu64 hr) (dv 10) (zL (zc (zh (dv 9) (x9 (dv 10) (dv 7))) zJ (zc (zh (dv 9) (wD (x9 (dv 10) (dv 7)) zd)) zJ ze))) (dv 6)))))))))
   (zm (yw 4 (zB (fe (yM wl ["layer"] [2] (ic (zR (dv 4))) (λcl C fp s2 H2 xe=>⟨(zv 0 (show pE (["layer","names"]:List Str) from by decide+kernel)),yB,(zu (Z5 T hK hB hL) T.layer_told hr (zc (dv 0) zg (zc (dv 1) zg ze)))⟩)))))))))
def zdr(T:Txt K mg ad fd ca):zw P w K mg base CX0 4 (ad 36) (fd 36) ["cut","places","names"] (spD bx Vx):=T.uprights_of.fn.okD jL λcdv A outer s H E hr=>
   (zj (zF 3 jL.nd (zu (Zo T) T.numbers_of hr (zc (dv 1) zg ze)))
   (zj (J3 4 jL ["place"] [] (ic (zR (dv 1))) (λcl C fp s2 H2 xe=>⟨(zv 0 (show pE (["place"]:List Str) from by decide+kernel)),yB,(zZ ze)⟩))
   (zj (yo [5,6] pF rfl (zR (dv 0)) (xg 2 rfl (zW (zv 5 jL.nd) (zW (zv 6 jL.nd) xb))) (zm (zO (xK (zu (zd4 T) T.is_upright hr (zc (dv 5) zg ze))) (zm (ds_app2 4 (xo (yx hr) (dv 3) (zu (j7 T) T.across hr (zc (zh (dv 5) zd) zJ ze))) (zL (zc (dv 5) zg (zc (zu (Y3 T) T.named hr (zc (dv 6) zg (zc (dv 2) zg ze))) yf ze))) yP)) zQ)))
   (zm (yw 4 (zB (dv 4)))))))
def WM(T:Txt K mg ad fd ca)(hK:K.In base)(hB:∀b,b∈([ad 49,ad 51,ad 53,ad 55,ad 57]:List Addr)->base.BuiltinsAt mg b)(hL:Lams bx ad P w ca):zw P w K mg base CX0 8 (ad 30) (fd 30) ["pairs"] (spD bx qJ):=T.slabs.fn.okD wf λcdv A outer s H E hr=>
   (zj (yg 1 wf.nd (zZ ze))
   (zj (yg 2 wf.nd (zZ ze))
   (zj (yo [3] pF rfl (Y6 rfl T.b_enumerate (zc (dv 0) zg ze)) (xg 2 rfl (zW (zv 3 wf.nd) (zW (zv 4 wf.nd) xb))) (zj (X7 1 (zh (dv 4) zd) zJ)
   (zm (X7 2 (fe (yM wf ["fence"] [3] (ic (zR (zh (dv 4) zd))) (λcl C fp s2 H2 xe=>⟨(zv 0 (show pE (["fence","number"]:List Str) from by decide+kernel)),yB,(dv 1)⟩))) wx))))
   (zj (wH 5 wf ["pair"] [] (ic (zR (dv 0))) (λcl C fp s2 H2 xe=>⟨(zv 0 (show pE (["pair"]:List Str) from by decide+kernel)),yB,(zh (dv 0) zd)⟩))
   (zj (yw 1 (wH 6 wf ["S","owners"] [2] (ic (zR (zu (zaf T hK hB hL) T.pieces hr (zc (zu (zeo T) T.stretches_of hr (zc (dv 1) zg ze)) yf ze)))) (λcl C fp s2 H2 xe=>⟨(xg 2 rfl (zW (zv 0 (show pE (["S","owners","numbers"]:List Str) from by decide+kernel)) (zW (zv 1 (show pE (["S","owners","numbers"]:List Str) from by decide+kernel)) xb))),yB,(zL (zc (dv 0) zg (zc (fe (VD (dsc:=(compIn qW 4)) (N:=["S","owners","numbers"]) (own:=["k"]) (ix:=[2]) rfl (by rfl) rfl ⟨rfl,by decide+kernel,by decide+kernel,by decide+kernel,by decide+kernel⟩ (ic (zR (dv 1))) (λcl C fp s2 H2 xe=>⟨(zv 0 (show pE (["k","numbers"]:List Str) from by decide+kernel)),yB,(zh (dvr 1) (dv 0))⟩))) wx ze)))⟩)))
   (zj (zF 7 wf.nd (zu (zeg T hK hB hL) T.places_of hr (zc (fe (yM wf ["S","own"] [] (v4 (dvr 6)) (λcl C fp s2 H2 xe=>⟨(xg 2 rfl (zW (zv 0 (show pE (["S","own"]:List Str) from by decide+kernel)) (zW (zv 1 (show pE (["S","own"]:List Str) from by decide+kernel)) xb))),yB,(dv 0)⟩))) wx ze)))
   (zm (yw 6 (yw 5 (zB (zL (zc (dv 7) zg (zc (zu (zec T hK hB hL) T.layers_of hr (zc (dv 6) zg (zc (dv 7) zg (zc (dv 5) zg ze)))) yf (zc (zu (zdr T) T.uprights_of hr (zc (dv 6) zg (zc (dv 7) zg (zc (dv 5) zg ze)))) yf ze))))))))))))))
def zf6(T:Txt K mg ad fd ca):zw P w K mg base CX0 1 (ad 39) (fd 39) ["names"] (spD bx qy):=T.check_names.fn.okD v3 λcdv A outer s H E hr=>
   (zj (yg 1 v3.nd qx)
   (zm (yo [2] pF rfl (zR (dv 0)) (zv 2 v3.nd) (zj (zO (wX (xK (VU rfl T.b_isinstance (dv 2) zg (jg (v:=.ty "str") rfl T.b_str Yp rfl) zg))) (zm wa) zQ)
   (zj (zO (ZL (yx hr) (dv 2) (dvr 1)) (zm wa) zQ)
   (zm (jC 1 (yx hr) (dv 2) qV)))))))
end Nu
end
end Mine
set_option maxHeartbeats 400000
namespace Mine
open PySem L2
section
variable{P:kW}{w:kq}{K:kF}{mg:Str->Option kC}{base:Heap}{ad:Nat->Addr}{fd:Nat->pZ}{ca:Nat->Addr}{bx:Bx}
seal L2.PE L2.PT L2.PW L2.PA L2.PS L2.PSs L2.PG L2.PGs L2.PI L2.PO L2.PIf
namespace Nu
def zaa(T:Txt K mg ad fd ca):zw P w K mg base CX0 1 (ad 3) (fd 3) ["one","other"] (spD bx ZK):=T.under.fn.okD zao λcdv A outer s H E hr=>
   (zm (zB (Wa (yh (zh (dv 0) zd) (zh (dv 1) zd)) (yh (zh (dv 1) zd) (zh (dv 0) zd)))))
def zdy(T:Txt K mg ad fd ca):zw P w K mg base CX0 1 (ad 41) (fd 41) ["layer","place"] (spD bx Vb):=T.over_names.fn.okD zaq λcdv A outer s H E hr=>
   (zm (zB (XR (dt_gt (dv 1) zd) (fe (W9 rfl T.b_list (yj (zh (zh (dv 0) (x9 (dv 1) zd)) zd) zJ yk))) (fe (zZ ze)))))
def zbz(T:Txt K mg ad fd ca)(hK:K.In base)(hB:∀b,b∈([ad 49,ad 51,ad 53,ad 55,ad 57]:List Addr)->base.BuiltinsAt mg b)(hL:Lams bx ad P w ca):zw P w K mg base CX0 6 (ad 40) (fd 40) ["layer","P"] (spD bx ZU):=T.found_between_c.okD JG λA outer s H E hr=>
   (zj (zF 2 JG.nd (Vf (P:=ad 57) (c0:=ad 56) (px:="k") (clos:=[("layer",s.heap.objs.size+1),("P",s.heap.objs.size+2)]) (js:=[0,1]) T.halved xJ hr (wm rfl T.b_len (yj (dv 0) zg yk)) yf ⟨rfl,rfl,rfl,rfl,(show ∀y,y∈(["layer","P"]:List Str)->_=some pM from by decide+kernel),by decide+kernel,(show ∀z,z∈(BD _)->z.2=pM->z.1∈(["layer","P"]:List Str) from by decide+kernel)⟩ (show pE (["layer","P"]:List Str) from by decide+kernel) (.cons rfl rfl rfl (.cons rfl rfl rfl .nil)) rfl rfl rfl (Qr hK T.found_between_c.hd) (hB _ (by simp)) (λ_ _ _ _=>rfl) (by intro fa2 c2 A2 out2 s3 H3 hr;exact(de_le (zu (VE T) T.turn hr (zc (zh (zh (zh (dv 1) (dv 0)) zd) zd) zJ (zc (zh (zh (zh (dv 1) (dv 0)) zd) zd) zJ (zc (dv 2) zg ze)))) zd)) hL.found_between (λcdv2 s2 H2 fa2 c2 pm2 ctv2 vys2 te2 lv2 hr2 inj2 hl2 hb2=>yI (xA 2 xJ.nd wZ) (yI (xA 3 xJ.nd (pv 0)) (yI (Wp pF (XG qc (pv 2) (pv 3) (nomark _)) (yI (xA 4 xJ.nd (wv Va (wv jv (pv 2) (pv 3)) wZ)) (xh (Xn (Xb (pe_fv (i:=1) lv2 hr2 ⟨rfl,rfl,rfl,rfl,(show ∀y,y∈(["layer","P"]:List Str)->_=some pM from by decide+kernel),by decide+kernel,(show ∀z,z∈(BD _)->z.2=pM->z.1∈(["layer","P"]:List Str) from by decide+kernel)⟩ (show pE (["layer","P"]:List Str) from by decide+kernel) inj2 hl2 (λ_=>rfl) (pv 4) zg hb2)) (xh (xA 3 xJ.nd (pv 4))) (xh (xA 2 xJ.nd (wv jv (pv 4) wZ))))))) (xh (jr (pv 2))))))))
   (zj (zO (PW.pt (Vh (vC (dv 2) (wm rfl T.b_len (yj (dv 0) zg yk))) (Zl (xI (zu (VE T) T.turn hr (zc (zh (zh (zh (dv 0) (dv 2)) zd) zd) zJ (zc (zh (zh (zh (dv 0) (dv 2)) zd) zd) zJ (zc (dv 1) zg ze)))) zd)))) (zj wa
   (zm wa)) zQ)
   (zm (zB (zL (zc (zu (zdy T) T.over_names hr (zc (dv 0) zg (zc (dv 2) zg ze))) yf (zc (fe (zZ ze)) wV ze)))))))
def zap(T:Txt K mg ad fd ca)(hK:K.In base)(hB:∀b,b∈([ad 49,ad 51,ad 53,ad 55,ad 57]:List Addr)->base.BuiltinsAt mg b)(hL:Lams bx ad P w ca):zw P w K mg base CX0 7 (ad 38) (fd 38) ["self","P"] (spD bx vB):=T.Map_found_c.okD Yg λA outer s H E hr=>
   (zj (zF 2 Yg.nd (zu (j7 T) T.across hr (zc (dv 1) zg ze)))
   (zj (zF 3 Yg.nd (Vf (P:=ad 55) (c0:=ad 54) (px:="k") (clos:=[("x",s.heap.objs.size+2),("self",s.heap.objs.size+1)]) (js:=[2,0]) T.halved xJ hr (wm rfl T.b_len (yj (vx (wK hL.c T.cl_Map) (naC hL.c T.na_Map_places) (dv 0)) Wh yk)) yf ⟨rfl,rfl,rfl,rfl,(show ∀y,y∈(["x","self"]:List Str)->_=some pM from by decide+kernel),by decide+kernel,(show ∀z,z∈(BD _)->z.2=pM->z.1∈(["x","self"]:List Str) from by decide+kernel)⟩ (show pE (["x","self"]:List Str) from by decide+kernel) (.cons rfl rfl rfl (.cons rfl rfl rfl .nil)) rfl rfl rfl (Qr hK T.Map_found_c.hd) (hB _ (by simp)) (λ_ _ _ _=>rfl) (by intro fa2 c2 A2 out2 s3 H3 hr;exact(WF (zu (zaa T) T.under hr (zc (zh (vx (wK hL.c T.cl_Map) (naC hL.c T.na_Map_places) (dv 2)) (dv 0)) zJ (zc (dv 1) zg ze))))) hL.Map_found (λcdv2 s2 H2 fa2 c2 pm2 ctv2 vys2 te2 lv2 hr2 inj2 hl2 hb2=>yI (xA 2 xJ.nd wZ) (yI (xA 3 xJ.nd (pv 0)) (yI (Wp pF (XG qc (pv 2) (pv 3) (nomark _)) (yI (xA 4 xJ.nd (wv Va (wv jv (pv 2) (pv 3)) wZ)) (xh (Xn (Xb (pe_fv (i:=1) lv2 hr2 ⟨rfl,rfl,rfl,rfl,(show ∀y,y∈(["x","self"]:List Str)->_=some pM from by decide+kernel),by decide+kernel,(show ∀z,z∈(BD _)->z.2=pM->z.1∈(["x","self"]:List Str) from by decide+kernel)⟩ (show pE (["x","self"]:List Str) from by decide+kernel) inj2 hl2 (λ_=>rfl) (pv 4) zg hb2)) (xh (xA 3 xJ.nd (pv 4))) (xh (xA 2 xJ.nd (wv jv (pv 4) wZ))))))) (xh (jr (pv 2))))))))
   (zj (zO (PW.pt (Vh (vC (dv 3) (wm rfl T.b_len (yj (vx (wK hL.c T.cl_Map) (naC hL.c T.na_Map_places) (dv 0)) Wh yk))) (Zl (wG (hu64 hr) (zh (vx (wK hL.c T.cl_Map) (naC hL.c T.na_Map_places) (dv 0)) (dv 3)) (dv 2))))) (zm wa) zQ)
   (zj (zO (PW.pt (jm (xI (dv 3) zd) (qM (xI (dv 3) (wm rfl T.b_len (yj (vx (wK hL.c T.cl_Map) (naC hL.c T.na_Map_places) (dv 0)) Wh yk)))))) (zm (zB (zL (zc (fe (zZ ze)) wV (zc (fe (zZ ze)) wV ze))))) zQ)
   (zm (zB (zu (zbz T hK hB hL) T.found_between hr (zc (zh (vx (wK hL.c T.cl_Map) (naC hL.c T.na_Map_layers) (dv 0)) (x9 (dv 3) zd)) zJ (zc (dv 1) zg ze)))))))))
def YW(T:Txt K mg ad fd ca):zw P w K mg base CX0 1 (ad 44) (fd 44) ["_law_script","_law_k"] (spD bx xG):=T.law_cell_at.fn.okD ze1 λcdv A outer s H E hr=>
   (zj (zO (vC (dv 1) (wm rfl T.b_len (yj (dv 0) zg yk))) (zm (zB (zh (dv 0) (dv 1)))) zQ)
   (zm (zB zd)))
def zda(T:Txt K mg ad fd ca):zw P w K mg base CX0 1 (ad 45) (fd 45) ["_law_number"] (spD bx vU):=T.law_name.fn.okD ji λcdv A outer s H E hr=>
   (zj (zF 1 ji.nd xz)
   (zj (zF 2 ji.nd xz)
   (zj (yo [3] pF rfl (VP rfl T.b_range (zc (we (dv 0) zd) yQ ze)) (zv 3 ji.nd) (zm (zF 2 ji.nd (Yv (dv 2) (zh (dv 1) (we (xL (dv 0) (wD zd (yh zd (dv 3)))) (de_lenS rfl T.b_len (yj (dv 1) zg yk))))))))
   (zm (zB (dv 2))))))
end Nu
end
end Mine
set_option maxHeartbeats 400000
namespace Mine
open PySem L2
section
variable{P:kW}{w:kq}{K:kF}{mg:Str->Option kC}{base:Heap}{ad:Nat->Addr}{fd:Nat->pZ}{ca:Nat->Addr}{bx:Bx}
namespace Nu
def wS:En->Option Dt:=zI 2 [] (iL (dV 1)) (gT 2 (gsC (gN 0) (gsC (gN 1) gs0))) zY (dV 0)
noncomputable def wj(d:Dt):Option (List Dt):=(wS [.un,.fz d,.un]).bind λns=>(qy [ns]).bind λ_=>(qJ [d]).bind λt=>(kIx t (.int 0)).bind λa=>(kIx t (.int 1)).bind λb=>(kIx t (.int 2)).bind λc=>some [a,b,c]
def Wz(d:Dt)(es:List Dt)(q:wj d=some es):∃t0 t e1 e2 e3,(dCl qy (za wS zb)) [.un,.fz d,.un]=some t0/\(dCl qJ (za (dV 1) zb)) [.un,.fz d,.un]=some t/\(d2 kIx (dV 2) (dC (.int 0))) [.un,.fz d,.fz t]=some e1/\(d2 kIx (dV 2) (dC (.int 1))) [.un,.fz d,.fz t]=some e2/\(d2 kIx (dV 2) (dC (.int 2))) [.un,.fz d,.fz t]=some e3/\es=[e1,e2,e3]:=by
 obtain⟨ns,q1,q⟩:=kA.mp q;obtain⟨t0,q2,q⟩:=kA.mp q;obtain⟨t,q3,q⟩:=kA.mp q;obtain⟨a,q4,q⟩:=kA.mp q;obtain⟨b,q5,q⟩:=kA.mp q;obtain⟨c,q6,q⟩:=kA.mp q
 cases q;refine⟨t0,t,a,b,c,?_,q3,q4,q5,q6,rfl⟩;unfold dCl za;rw[q1];exact q2
def ok_init(T:Txt K mg ad fd ca)(hK:K.In base)(hB:∀b,b∈([ad 49,ad 51,ad 53,ad 55,ad 57]:List Addr)->base.BuiltinsAt mg b)(hL:Lams bx ad P w ca):zw P w K mg base CX0 9 (ad 37) (fd 37) ["self","pairs"] (spI bx ["places","layers","uprights"] wj):=
 T.Map___init__.fn.ok vt (λvs H Q E h=>(J9 (K:=K) (N:=["self","pairs","told"]) rfl (by decide) (by decide) (by decide) (wK hL.c T.cl_Map) (naC hL.c T.na_Map_places) (naC hL.c T.na_Map_layers) (naC hL.c T.na_Map_uprights) Wz h).1) λcdv A outer s H vs Q E hr h=>⟨_,
  yI (wz (zu (zf6 T) T.check_names hr (zc (fe (yM vt ["name","land"] [] (ic (zR (dv 1))) (λcl C fp s2 H2 xe=>⟨(xg 2 rfl (zW (zv 0 (show pE (["name","land"]:List Str) from by decide+kernel)) (zW (zv 1 (show pE (["name","land"]:List Str) from by decide+kernel)) xb))),yB,(dv 0)⟩))) wx ze)))
  (yI (xA 2 vt.nd (zu (WM T hK hB hL) T.slabs hr (zc (dv 1) zg ze)))
  (yI (vq (pv 0) (zh (dv 2) zd) rfl) (yI (vq (pv 0) (zh (dv 2) zd) rfl) (xh (vq (pv 0) (zh (dv 2) zd) rfl))))),
  (J9 (K:=K) (N:=["self","pairs","told"]) rfl (by decide) (by decide) (by decide) (wK hL.c T.cl_Map) (naC hL.c T.na_Map_places) (naC hL.c T.na_Map_layers) (naC hL.c T.na_Map_uprights) Wz h).2⟩
end Nu
end
end Mine
set_option maxHeartbeats 400000
namespace Mine
open PySem L2
section
variable{P:kW}{w:kq}{K:kF}{mg:Str->Option kC}{base:Heap}{ad:Nat->Addr}{fd:Nat->pZ}{ca:Nat->Addr}{bx:Bx}
namespace Nu
def fsC:En->Option Ou:=dSq (dSo 1 (dC (.dK [] [])))
  (yb [2] (iL (dV 0)) (gN 2)
  (dSq (zE (xc (dB (d1 yL (dV 2)))) (jB (dC (.str "a name is a text"))) dNx)
  (dSq (zE (dB (xN false (dV 2) (dVr 1))) (jB (dC (.str "each name stands once"))) dNx)
  (wQ 1 (dV 2) (dC (.bool true))))))
def zel(T:Txt K mg ad fd ca):zw P w K mg base (CXr P w) 1 (ad 39) (fd 39) ["names"] (spE bx (ca 4) (dFx 3 1 fsC)):=T.check_names.fn.okE v3 λbx cdv A outer s H E hr hE=>
   (zj (yg 1 v3.nd qx)
   (zm (yo [2] PassesOwn.leaving rfl (zR (dv 0)) (zv 2 v3.nd) (zj (zO (wX (xK (VU rfl T.b_isinstance (dv 2) zg (jg (v:=.ty "str") rfl T.b_str Yp rfl) zg))) (zm (VL hE Je hr.hd T.xc_NoName T.x_NoName xz zN)) zQ)
   (zj (zO (ZL (yx hr) (dv 2) (dvr 1)) (zm (VL hE Je hr.hd T.xc_NoName T.x_NoName xz zN)) zQ)
   (zm (jC 1 (yx hr) (dv 2) qV)))))))
def jR(d:Dt):Prop:=∃ns,wS [.un,.fz d,.un]=some ns/\dFx 3 1 fsC [ns]
def initX(d:Dt)(h:jR d):(XL (dFx 3 1 fsC) (za wS zb)) [.un,.fz d,.un]=some .ex:=by
 obtain⟨ns,q,h⟩:=h;unfold XL za;rw[q];exact if_pos h
def za2(T:Txt K mg ad fd ca)(hK:K.In base)(hB:∀b,b∈([ad 49,ad 51,ad 53,ad 55,ad 57]:List Addr)->base.BuiltinsAt mg b)(hL:Lams bx ad P w ca):zw P w K mg base (CXr P w) 9 (ad 37) (fd 37) ["self","pairs"] (spEI bx (ca 4) jR):=
 T.Map___init__.fn.okX vt (λvs H Q E h=>(JQ (N:=["self","pairs","told"]) (u:=tNext) (D:={nx:=λ_ H'=>Q .non H',rt:=Q}) rfl initX h).1) λcdv A outer s H vs Q E hr h=>⟨_,
  yI (zba (zel T) T.check_names (λ_ z=>z) pass_cx hr (zc (fe (yM vt ["name","land"] [] (ic (zR (dv 1))) (λcl C fp s2 H2 xe=>⟨(xg 2 rfl (zW (zv 0 (show pE (["name","land"]:List Str) from by decide+kernel)) (zW (zv 1 (show pE (["name","land"]:List Str) from by decide+kernel)) xb))),yB,(dv 0)⟩))) wx ze))
  (yI (xA 2 vt.nd (zu (bx:=bx) (m:=false) (WM T hK hB hL) T.slabs hr (zc (dv 1) zg ze)))
  (yI (vq (pv 0) (zh (bx:=bx) (m:=false) (dv 2) zd) rfl) (yI (vq (pv 0) (zh (bx:=bx) (m:=false) (dv 2) zd) rfl) (xh (vq (pv 0) (zh (bx:=bx) (m:=false) (dv 2) zd) rfl))))),
  (JQ (N:=["self","pairs","told"]) rfl initX h).2⟩
open Classical in
noncomputable def xy:List Dt->Option Dt
 |[d]=>if jR d then some (.bool true) else none
 |_=>none
theorem ZH(T:Txt K mg ad fd ca)(hK:K.In base)(hB:∀b,b∈([ad 49,ad 51,ad 53,ad 55,ad 57]:List Addr)->base.BuiltinsAt mg b)(hL:Lams bx ad P w ca):zw P w K mg base CX0 11 (ad 46) (fd 46) ["_law_pairs"] (spD bx xy):=by
 have rd:∀{vs H Q E},spD bx xy vs H Q E->∃v d B,vs=[v]/\jR d/\(∀a,B a->∃o,H a=some o/\Okc a o)/\bx.lt H/\Rp bx B H d v/\∀H',SD bx B H H'->Q (.bl true) H':=λ{vs H Q E} h=>by
  obtain⟨B,ds,d,bd,ht,r,q,z⟩:=h;unfold xy at q
  split at q
  ·rename_i d1
   rw[Rps] at r;obtain⟨v,r',rfl,r1,r2⟩:=r;rw[Rps] at r2;subst r2
   by_cases c:jR d1
   ·rw[if_pos c] at q;cases q;exact⟨v,d1,B,rfl,c,bd,ht,r1,λH' g=>z _ H' g (by rw[Rp])⟩
   ·rw[if_neg c] at q;cases q
  ·cases q
 refine T.law_refused.fn.ok WQ (λvs H Q E h=>by obtain⟨v,d,B,rfl,_⟩:=rd h;rfl) (λcdv A outer s H vs Q E hr h=>?_)
 obtain⟨v,d,B,rfl,c,bd,ht,r,z⟩:=rd h;refine⟨_,yI (zez (n:=2) (K:=K) (i:=1) rfl T.x_NoNumber rfl T.x_NoPoint rfl T.x_NoRow rfl T.x_NoStretch rfl T.x_NoText rfl rfl rfl rfl rfl WQ.nd rfl rfl rfl T.x_NoName
  (λW pn E hp=>xh (wz (Vz (dvs:=[]) T.mk_Map (za2 T hK hB hL) (hr.mono (by decide)) rfl T.x_Map T.Map___init__.bn .nil hp (pa1 (pv 0) zg))))
  (λea pn=>(xh (jr (WU (xS (zbk (K:=K) (C:=ca 0) rfl) rfl T.b_isinstance Yb (pa2 (pv 1) zg (pe_glob (v:=.ref (ca 0)) rfl T.x_AcreError rfl) zg)) (Zp (xS (zbi (K:=K) (T:="ValueError") rfl) rfl T.b_isinstance Yb (pa2 (pv 1) zg (jg (v:=.ty "ValueError") rfl T.b_ValueError zeu rfl) zg))))))))
  (xh (jr pe_bl)),?_⟩
 refine⟨λcls _ H'=>cls=.ref (ca 4)/\SD bx B H H',⟨v,rfl,λx dx nx ndx ne=>?_⟩,?_⟩
 ·have keep:∀{a u},H a=some u->upd (upd H dx (.own x)) x (.ins (ca 7) dx []) a=some u:=λ{a u} h=>by
   rw[zp (λz=>by rw[z,nx] at h;cases h),zp (λz=>by rw[z,ndx] at h;cases h)];exact h
  have gd:Gd B H (λa=>B a∨a=x) (upd (upd H dx (.own x)) x (.ins (ca 7) dx [])):=⟨λa xs h=>keep h,λa u h no=>⟨.inl (keep h),λz=>z.elim no λy=>by rw[y,nx] at h;cases h⟩⟩
  refine⟨B,x,dx,v,d,rfl,by rw[hL.c];exact zM,λz=>?_,λa h=>?_,λt m=>(ht t m).same λa u h=>keep h,Rp.go gd _ _ r,c,λH' g=>⟨rfl,λ_=>g.lt λt m=>(ht t m).same λa u h=>keep h,λa xs h=>g.tu a xs (keep h),λa u h m=>(g.st a u (keep h) λy=>by rw[y,nx] at h;cases h).1 m,λa u h m=>(g.st a u (keep h) λy=>by rw[y,nx] at h;cases h).2⟩⟩
  ·obtain⟨o,h,_⟩:=bd x z;rw[nx] at h;cases h
  ·obtain⟨o,h',k⟩:=bd a h;exact⟨o,keep h',k⟩
 ·rintro cls dx H' ⟨rfl,g⟩;refine⟨ca 4,rfl,λC hC=>?_,T.ex_NoName_NoName,λea hea=>?_⟩
  ·simp only[kX,pi,or_false] at hC;rcases hC with rfl|rfl|rfl|rfl|rfl
   ·exact T.ex_NoName_NoNumber
   ·exact T.ex_NoName_NoPoint
   ·exact T.ex_NoName_NoRow
   ·exact T.ex_NoName_NoStretch
   ·exact T.ex_NoName_NoText
  ·have k:SD bx B H (upd H' ea (excO ea (ca 4))):=g.trans (.new hea _);exact⟨.ref ea,rfl,ea,ca 4,true,rfl,zM,T.xi_NoName,T.is_NoName_AcreError,true,rfl,xX ⟨.ref ea,rfl,ea,ca 4,true,rfl,zM,T.xi_NoName,T.is_NoName_ValueError,z _ k⟩⟩
end Nu
end
end Mine
set_option maxHeartbeats 40000000
namespace Mine
open PySem L2
section
variable{P:kW}{w:kq}{K:kF}{mg:Str->Option kC}{base:Heap}{ad:Nat->Addr}{fd:Nat->pZ}{ca:Nat->Addr}{bx:Bx}
seal L2.PE L2.PT L2.PW L2.PA L2.PS L2.PSs L2.PG L2.PGs L2.PI L2.PO L2.PIf
namespace Nu
noncomputable def F_law:List Dt->Option Dt:=dFn 13 1
  (dSq (dSo 1 (zC zb))
  (dSq (yb [2,3] (iC rng1 (za (d2 yD (dC (.int 1)) (d2 zK (dCl xG (za (dV 0) (za (dC (.int 0)) zb))) (dC (.int 6)))) zb)) (gN 2)
  (dSq (zy 3 (dCl xG (za (dV 0) (za (d2 yD (dC (.int 2)) (dV 2)) zb))))
  (dSq (zy 4 (dCl vU (za (d2 zS (dV 3) (dC (.int 3))) zb)))
  (dSq (zE (dB (d2 (kIn false false) (dV 4) (zI 1 [] (iL (dVr 1)) (gN 0) zY (d2 kIx (dV 0) (dC (.int 0)))))) (zy 4 (d2 xa (d2 xa (dV 4) (dC (.str "~"))) (dCl wW (za (dV 2) zb)))) dNx)
  (dSq (dSo 5 (zC (za (zx (za (zx (za (dC (.int 0)) (za (dC (.int 0)) (za (dC (.int 1)) zb)))) (za (zx (za (dC (.int 4)) (za (dC (.int 0)) (za (dC (.int 1)) zb)))) zb))) (za (zx (za (zx (za (dC (.int 0)) (za (dC (.int 4)) (za (dC (.int 1)) zb)))) (za (zx (za (dC (.int 0)) (za (dC (.int 0)) (za (dC (.int 1)) zb)))) zb))) (za (zx (za (zx (za (dC (.int 4)) (za (dC (.int 0)) (za (dC (.int 1)) zb)))) (za (zx (za (dC (.int 0)) (za (dC (.int 4)) (za (dC (.int 1)) zb)))) zb))) zb)))))
  (dSq (zE (dB (d2 yn (d2 zK (dV 3) (dC (.int 3))) (dC (.int 0)))) (dSo 5 (zC zb)) dNx)
  (dFz 5 (dAp 1 (zx (za (dV 4) (za (dV 5) zb)))))))))))
  (dSq (zy 6 (dCl xG (za (dV 0) (za (dC (.int 1)) zb))))
  (dSq (zy 7 (d2 zK (d2 zS (dV 6) (dC (.int 4))) (dCl yN (za (dVr 1) zb))))
  (dSq (zE (dB (d2 yn (d2 zK (dV 6) (dC (.int 4))) (dC (.int 0)))) (dSq (zy 8 (d2 kIx (zC (za (dC (.int 3)) (za (dC (.bool true)) (za (dC .none) (za (zx (za (dC (.str "a")) zb)) (za (dC (.int 0)) (za (zC (za (dC (.str "a")) zb)) (za (dC (.dT [] [])) zb)))))))) (d2 zK (d2 zS (dV 6) (dC (.int 24))) (dC (.int 7)))))
  (dSq (dSo 9 (d2 yu (d2 yu (dSl (dVr 1) oN (oS (dV 7))) (zC (za (zx (za (dV 8) (za (zC zb) zb))) zb))) (dSl (dVr 1) (oS (dV 7)) oN)))
  (dFz 9 (dRt (dCl xy (za (dV 9) zb)))))) dNx)
  (dSq (zE (dB (d2 yn (d2 zK (dV 6) (dC (.int 4))) (dC (.int 1)))) (dSq (zy 10 (d2 zK (d2 zS (dV 6) (dC (.int 24))) (d2 yD (dCl yN (za (dVr 1) zb)) (dC (.int 1)))))
  (dSq (dSo 9 (d2 yu (d2 yu (dSl (dVr 1) oN (oS (dV 10))) (zC (za (zx (za (d2 kIx (d2 kIx (dVr 1) (dV 7)) (dC (.int 0))) (za (zC zb) zb))) zb))) (dSl (dVr 1) (oS (dV 10)) oN)))
  (dFz 9 (dRt (dCl xy (za (dV 9) zb)))))) dNx)
  (dSq (dSo 9 (dCl jV (za (dVr 1) zb)))
  (dSq (dFz 9 (zy 11 (jf "found" vB (vI ["places","layers","uprights"] wj (dV 9)) (za (zx (za (dC (.int 1)) (za (dC (.int 1)) (za (dC (.int 1)) zb)))) zb))))
  (dSq (dSo 12 (dCl ju (za (zI 2 [] (iL (dVr 1)) (gT 2 (gsC (gN 0) (gsC (gN 1) gs0))) (dB (d2 kNe (dV 1) (zC zb))) (dV 0)) zb)))
  (dFz 12 (dRt (vX (d2 kEq (dV 11) (zx (za (dV 12) (za (zC zb) zb)))) (d2 kEq (dV 9) (dVr 1))))))))))))))
def ok_law(T:Txt K mg ad fd ca)(hK:K.In base)(hB:∀b,b∈([ad 49,ad 51,ad 53,ad 55,ad 57]:List Addr)->base.BuiltinsAt mg b)(hL:Lams bx ad P w ca):zw P w K mg base CX0 14 (ad 47) (fd 47) ["_law_script"] (spD bx F_law):=T.law.fn.okD yG λcdv A outer s H E hr=>
   (zj (yg 1 yG.nd (zZ ze))
   (zj (yo [2,3] pF rfl (VP rfl T.b_range (zc (wD zd (we (zu (YW T) T.law_cell_at hr (zc (dv 0) zg (zc zd zN ze))) zd)) yQ ze)) (zv 2 yG.nd) (zj (zF 3 yG.nd (zu (YW T) T.law_cell_at hr (zc (dv 0) zg (zc (wD zd (dv 2)) yQ ze))))
   (zj (zF 4 yG.nd (zu (zda T) T.law_name hr (zc (xL (dv 3) zd) yQ ze)))
   (zj (zO (dt_inL (hu64 hr) (dv 4) (fe (yM yG ["_law_pair"] [] (v4 (dvr 1)) (λcl C fp s2 H2 xe=>⟨(zv 0 (show pE (["_law_pair"]:List Str) from by decide+kernel)),yB,(zh (dv 0) zd)⟩)))) (zm (zF 4 yG.nd (Yv (Yv (dv 4) xz) (de_strI rfl T.b_str (yj (dv 2) zg yk))))) zQ)
   (zj (yg 5 yG.nd (zZ (zc (zL (zc (zL (zc zd zN (zc zd zN (zc zd zN ze)))) yP (zc (zL (zc zd zN (zc zd zN (zc zd zN ze)))) yP ze))) yP (zc (zL (zc (zL (zc zd zN (zc zd zN (zc zd zN ze)))) yP (zc (zL (zc zd zN (zc zd zN (zc zd zN ze)))) yP ze))) yP (zc (zL (zc (zL (zc zd zN (zc zd zN (zc zd zN ze)))) yP (zc (zL (zc zd zN (zc zd zN (zc zd zN ze)))) yP ze))) yP ze)))))
   (zj (zO (xI (we (dv 3) zd) zd) (zm (yg 5 yG.nd (zZ ze))) zQ)
   (zm (yw 5 (qS 1 (he:=(zL (zc (dv 4) zg (zc (dv 5) zg ze)))) (n:=yP))))))))))
   (zj (zF 6 yG.nd (zu (YW T) T.law_cell_at hr (zc (dv 0) zg (zc zd zN ze))))
   (zj (zF 7 yG.nd (we (xL (dv 6) zd) (wm rfl T.b_len (yj (dvr 1) zg yk))))
   (zj (zO (xI (we (dv 6) zd) zd) (zj (zF 8 yG.nd (zh (fe (zZ (zc zd zN (zc qV zN (zc vY zN (zc (zL (zc xz zN ze)) yP (zc zd zN (zc (fe (zZ (zc xz zN ze))) wV (zc (fe qv) ns_Dict ze))))))))) (we (xL (dv 6) zd) zd)))
   (zj (yg 9 yG.nd (ww (fe (ww (fe (vS (dvr 1) jw (vp (dv 7)))) (fe (zZ (zc (zL (zc (dv 8) zg (zc (fe (zZ ze)) wV ze))) yP ze))))) (fe (vS (dvr 1) (vp (dv 7)) jw))))
   (zm (yw 9 (zB (zu (ZH T hK hB hL) T.law_refused hr (zc (dv 9) zg ze))))))) zQ)
   (zj (zO (xI (we (dv 6) zd) zd) (zj (zF 10 yG.nd (we (xL (dv 6) zd) (wD (wm rfl T.b_len (yj (dvr 1) zg yk)) zd)))
   (zj (yg 9 yG.nd (ww (fe (ww (fe (vS (dvr 1) jw (vp (dv 10)))) (fe (zZ (zc (zL (zc (zh (zh (dvr 1) (dv 7)) zd) zJ (zc (fe (zZ ze)) wV ze))) yP ze))))) (fe (vS (dvr 1) (vp (dv 10)) jw))))
   (zm (yw 9 (zB (zu (ZH T hK hB hL) T.law_refused hr (zc (dv 9) zg ze))))))) zQ)
   (zj (yg 9 yG.nd (W9 rfl T.b_list (yj (dvr 1) zg yk)))
   (zj (yw 9 (zF 11 yG.nd (de_meth hL.c T.cl_Map T.me_Map_found (zap T hK hB hL) T.Map_found.bn hr (de_make hL.c T.mk_Map (ok_init T hK hB hL) T.Map___init__.bn hr T.x_Map (dv 9) zg) (zc (zL (zc zd zN (zc zd zN (zc zd zN ze)))) yP ze))))
   (zj (yg 12 yG.nd (Jj rfl T.b_sorted (yj (fe (yM yG ["_law_name_here","_law_land"] [] (v4 (dvr 1)) (λcl C fp s2 H2 xe=>⟨(xg 2 rfl (zW (zv 0 (show pE (["_law_name_here","_law_land"]:List Str) from by decide+kernel)) (zW (zv 1 (show pE (["_law_name_here","_law_land"]:List Str) from by decide+kernel)) xb))),(wq (dt_ne (hu64 hr) (dv 1) (fe (zZ ze)))),(dv 0)⟩))) wx yk)))
   (zm (yw 12 (zB (Ju (de_eq (hu64 hr) (dv 11) (zL (zc (dv 12) zg (zc (fe (zZ ze)) wV ze)))) (Jd (de_eq (hu64 hr) (dv 9) (dvr 1))))))))))))))))
end Nu
end
end Mine
namespace Mine
open PySem L2
namespace Nu
def pD(x y:Int):Dt:=.tuple [.int x,.int y,.int 1]
def triD:Dt:=.list [.tuple [pD 0 0,pD 4 0],.tuple [pD 0 4,pD 0 0],.tuple [pD 4 0,pD 0 4]]
def xQ(b:Bool):Dt:=cond b triD (.list [])
def zq(p:Str×Bool):Dt:=.tuple [.str p.1,xQ p.2]
def K3:List Str:=["places","layers","uprights"]
noncomputable def SS(ts:List Str):Dt:=.list ((xW ts).map .str)
noncomputable def mF(t:Dt):Option Dt:=(kIx t (.int 0)).bind λa=>(kIx t (.int 1)).bind λb=>(kIx t (.int 2)).bind λc=>vB [.ins K3 [a,b,c],pD 1 1]
noncomputable def sF(d:Dt):Option Dt:=(qJ [d]).bind mF
def ze0:xW []=[]:=(V5 (List.Perm.refl []) rfl).symm
def yt(l:List (Str×Bool)):List Str:=(l.filter (·.2)).map (·.1)
noncomputable def R(l:List (Str×Bool)):Option Dt:=some (.tuple [SS (yt l),.list []])
def vE{l:List (Str×Bool)}(h:yt l=[]):R l=some (.tuple [.list [],.list []]):=by unfold R SS;rw[h,ze0];rfl
def e1(a:Str)(u:Bool):sF (.list [zq (a,u)])=R [(a,u)]:=by
 cases u
 ·rw[vE rfl];kernel_rfl
 all_goals kernel_rfl
def e2(a b:Str)(u v:Bool):sF (.list [zq (a,u),zq (b,v)])=R [(a,u),(b,v)]:=by
 cases u<;>cases v
 ·rw[vE rfl];kernel_rfl
 all_goals kernel_rfl
def e3(a b c:Str)(u v w:Bool):sF (.list [zq (a,u),zq (b,v),zq (c,w)])=R [(a,u),(b,v),(c,w)]:=by
 cases u<;>cases v<;>cases w
 ·rw[vE rfl];kernel_rfl
 all_goals kernel_rfl
def e4(a b c d:Str)(u v w x:Bool):sF (.list [zq (a,u),zq (b,v),zq (c,w),zq (d,x)])=R [(a,u),(b,v),(c,w),(d,x)]:=by
 cases u<;>cases v<;>cases w<;>cases x
 ·rw[vE rfl];kernel_rfl
 all_goals kernel_rfl
def e5(a b c d e:Str)(u v w x y:Bool):sF (.list [zq (a,u),zq (b,v),zq (c,w),zq (d,x),zq (e,y)])=R [(a,u),(b,v),(c,w),(d,x),(e,y)]:=by
 cases u<;>cases v<;>cases w<;>cases x<;>cases y
 ·rw[vE rfl];kernel_rfl
 all_goals kernel_rfl
def e6(a b c d e f:Str)(u v w x y z:Bool):sF (.list [zq (a,u),zq (b,v),zq (c,w),zq (d,x),zq (e,y),zq (f,z)])=R [(a,u),(b,v),(c,w),(d,x),(e,y),(f,z)]:=by
 cases u<;>cases v<;>cases w<;>cases x<;>cases y<;>cases z
 ·rw[vE rfl];kernel_rfl
 all_goals kernel_rfl
theorem ev_sF:∀l:List (Str×Bool),l≠[]->l.length<=6->sF (.list (l.map zq))=R l
 |[],h,_=>absurd rfl h
 |[(a,u)],_,_=>e1 a u
 |[(a,u),(b,v)],_,_=>e2 a b u v
 |[(a,u),(b,v),(c,w)],_,_=>e3 a b c u v w
 |[(a,u),(b,v),(c,w),(d,x)],_,_=>e4 a b c d u v w x
 |[(a,u),(b,v),(c,w),(d,x),(e,y)],_,_=>e5 a b c d e u v w x y
 |[(a,u),(b,v),(c,w),(d,x),(e,y),(f,z)],_,_=>e6 a b c d e f u v w x y z
 |_::_::_::_::_::_::_::_,_,h=>absurd h (by simp)
end Nu
end Mine
set_option maxHeartbeats 1000000
namespace Mine
open PySem L2
namespace Nu
def AL:Str:="abcdefghijklmnopqrstuvwxyzABCDEFGHIJKLMNOPQRSTUVWXYZ0123456789 _-.,;"
def yz(s:Str):Bool:=s.cps.toList.all (λc=>decide (c<126))
def oneOk:Option Dt->Bool
 |some (.str s)=>s.cps.size==1&&yz s
 |_=>false
def al_all:(pe 68).all (λj=>oneOk (kIx (.str AL) (.int (j:Int))))=true:=by decide+kernel
theorem al_ix(j:Int):∃s:Str,kIx (.str AL) (.int (j.fmod 68))=some (.str s)/\s.length=1/\yz s=true:=by
 have h1:=Qt (a:=j) (b:=68) (by decide)
 have h2:=Uh j (b:=68) (by decide)
 have h:=UA.mp al_all (j.fmod 68).toNat (UV.mpr (by omega))
 rw[Cu h1] at h;unfold oneOk at h
 split at h
 ·rename_i s e
  rw[ui] at h;exact⟨s,e,beq_iff_eq.mp h.1,h.2⟩
 ·cases h
def nmB:En->Option Ou:=zy 2 (d2 xa (dV 2) (d2 kIx (dV 1) (d2 zK (d2 zS (dV 0) (d2 yD (dC (.int 4)) (d2 zU (dC (.int 97)) (dV 3)))) (dCl wO (za (dV 1) zb)))))
def jQ{i j:Int}(h0:j≠0)(h:j.natAbs<2^60):zS (.int i) (.int j)=some (.int (i.fdiv j)):=by
 simp only[zS,kI,if_pos (cdivb (i:=i) h0 h (by decide))]
def wJ{i j:Int}(h0:j≠0):zK (.int i) (.int j)=some (.int (i.fmod j)):=by
 simp only[zK,kI,if_pos h0]
def zbb{a b:Str}(ha:yz a=true)(hb:yz b=true):yz (a++b)=true:=by
 unfold yz at*;show((a.cps++b.cps).toList.all _)=true;rw[UT,Bz,ha,hb];rfl
def Zj(a b:Str):(a++b).length=a.length+b.length:=Dd
def vk{n:Nat}(h:n<=8000000):n<=sizeLine:=pd h (by decide)
theorem nm_step(i:Int)(w:Str)(k:Nat)(hk:k<3)(hw:yz w=true)(l:w.length<=k):∃w',nmB [.fz (.int i),.fz (.str AL),.fz (.str w),.fz (.int k)]=some (.nx [.fz (.int i),.fz (.str AL),.fz (.str w'),.fz (.int k)])/\yz w'=true/\w'.length<=k+1:=by
 have e1:(d2 yD (dC (.int 4)) (d2 zU (dC (.int 97)) (dV 3))) [.fz (.int i),.fz (.str AL),.fz (.str w),.fz (.int k)]=some (.int (4+97*(k:Int))):=by
  rcases(by omega:k=0∨k=1∨k=2) with rfl|rfl|rfl<;>kernel_rfl
 have e3:(dCl wO (za (dV 1) zb)) [.fz (.int i),.fz (.str AL),.fz (.str w),.fz (.int k)]=some (.int 68):=by kernel_rfl
 obtain⟨s,e4,e5,e6⟩:=al_ix (i.fdiv (4+97*(k:Int)));refine⟨w++s,?_,zbb hw e6,by rw[Zj];omega⟩
 have e7:xa (.str w) (.str s)=some (.str (w++s)):=if_pos (vk (by omega))
 have e8:(d2 kIx (dV 1) (d2 zK (d2 zS (dV 0) (d2 yD (dC (.int 4)) (d2 zU (dC (.int 97)) (dV 3)))) (dCl wO (za (dV 1) zb)))) [.fz (.int i),.fz (.str AL),.fz (.str w),.fz (.int k)]=some (.str s):=by
  generalize (d2 yD (dC (.int 4)) (d2 zU (dC (.int 97)) (dV 3)))=g1 at*;generalize (dCl wO (za (dV 1) zb))=g2 at*;have q:(d2 zK (d2 zS (dV 0) g1) g2) [.fz (.int i),.fz (.str AL),.fz (.str w),.fz (.int k)]=some (.int ((i.fdiv (4+97*(k:Int))).fmod 68)):=by
   simp only[d2,e1,e3,pC];show((zS (.int i) (.int (4+97*(k:Int)))).bind λa=>zK a (.int 68))=_;rw[jQ (by omega) (by omega)]
   exact wJ (by decide)
  generalize (d2 zK (d2 zS (dV 0) g1) g2)=g3 at*;simp only[d2,q,pC];exact e4
 unfold nmB;generalize (d2 kIx (dV 1) (d2 zK (d2 zS (dV 0) (d2 yD (dC (.int 4)) (d2 zU (dC (.int 97)) (dV 3)))) (dCl wO (za (dV 1) zb))))=g at*;simp only[zy,d2,e8,pC];show((xa (.str w) (.str s)).bind _)=_;rw[e7];rfl
theorem ev_name(i:Int):∃t,vU [.int i]=some (.str t)/\yz t=true/\t.length<=3:=by
 have h1:=Qt (a:=i) (b:=4) (by decide)
 have h2:=Uh i (b:=4) (by decide)
 have go:∀(n m:Nat),m+n<=3->∀w,yz w=true->w.length<=m->∃w' y,yC (gN 3) nmB [3] ((BE m n).map λk:Nat=>Dt.int (k:Int)) [.fz (.int i),.fz (.str AL),.fz (.str w),.un]=some (.nx [.fz (.int i),.fz (.str AL),.fz (.str w'),y])/\yz w'=true/\w'.length<=m+n:=by
  intro n
  induction n with
  |zero=>exact λm _ w hw l=>⟨w,_,rfl,hw,l⟩
  |succ n ih=>
   intro m hm w hw l;obtain⟨w1,e,p1,l1⟩:=nm_step i w m (by omega) hw l
   obtain⟨w2,y,e2,p2,l2⟩:=ih (m+1) (by omega) w1 p1 l1
   refine⟨w2,y,?_,p2,by omega⟩
   generalize nmB=b at e e2⊢;rw[EH,kY,yC];show(b [.fz (.int i),.fz (.str AL),.fz (.str w),.fz (.int m)]).bind _=_;rw[e];exact e2
 obtain⟨w',y,e,p,l⟩:=go (i.fmod 4).toNat 0 (by omega) "" rfl (kN _)
 clear go;refine⟨w',?_,p,by omega⟩
 have ei:(iC rng1 (za (d2 zK (dV 0) (dC (.int 4))) zb)) [.fz (.int i),.fz (.str AL),.fz (.str ""),.un]=some ((BE 0 (i.fmod 4).toNat).map λk:Nat=>Dt.int (k:Int)):=by
  show((zK (.int i) (.int 4)).bind λa=>(some [a])).bind rng1=_
  rw[wJ (by decide),←Cc]
  exact if_pos ⟨by omega,by omega,vk (by omega)⟩
 show((dSq (yb [3] (iC rng1 (za (d2 zK (dV 0) (dC (.int 4))) zb)) (gN 3) nmB) (dRt (dV 2))) [.fz (.int i),.fz (.str AL),.fz (.str ""),.un]).bind wE=_
 generalize (iC rng1 (za (d2 zK (dV 0) (dC (.int 4))) zb))=gg at*;generalize nmB=b at*;unfold dSq yb;rw[ei];show(((yC (gN 3) b [3] ((BE 0 (i.fmod 4).toNat).map λk:Nat=>Dt.int (k:Int)) [.fz (.int i),.fz (.str AL),.fz (.str ""),.un]).bind (thn1 (dRt (dV 2)))).bind wE)=_;rw[e];rfl
end Nu
end Mine
set_option maxHeartbeats 1000000
namespace Mine
open PySem L2
variable{us:List Str}{a b:En->Option Ou}{L:Dt}
namespace Nu
def chB(a b:En->Option Ou):En->Option Ou:=dSq (zE (xc (dB (d1 yL (dV 2)))) a dNx) (dSq (zE (dB (xN false (dV 2) (dVr 1))) b dNx) (wQ 1 (dV 2) (dC (.bool true))))
def seen(us:List Str):Sl:=.ow false 1 (.dK (us.map QK) (us.map λ_=>.bool true))
def WY{t:Str}:(QK t:Key)∈us.map QK↔t∈us:=by simp
def JF(t:Str):yL (.str t)=some (.bool true):=by kernel_rfl
def Jq(us:List Str)(t:Str)(L:Dt):(dB (xN false (dV 2) (dVr 1))) [.fz L,seen us,.fz (.str t)]=some (decide (t∈us)):=by
 show((jD (.dK (us.map QK) (us.map λ_=>.bool true)) (.str t)).bind λc=>some (Dt.bool (if false=true then !c else c))).bind asB=_
 show(some (Dt.bool (wN (us.map QK) (QK t)))).bind asB=_
 have:wN (us.map QK) (QK t:Key)=decide (t∈us):=by
  unfold wN;exact decide_eq_decide.mpr WY
 rw[this];rfl
def VT{t:Str}(h:t∉us)(l:us.length<100):chB a b [.fz L,seen us,.fz (.str t)]=some (.nx [.fz L,seen (us++[t]),.fz (.str t)]):=by
 have e1:(xc (dB (d1 yL (dV 2)))) [.fz L,seen us,.fz (.str t)]=some false:=by
  show((yL (.str t)).bind asB).bind _=_
  rw[JF];rfl
 have e2:=Jq us t L;rw[decide_eq_false h] at e2;have e3:putD (.dK (us.map QK) (us.map λ_=>Dt.bool true)) (.str t) (.bool true)=some (.dK ((us++[t]).map QK) ((us++[t]).map λ_=>.bool true)):=by
  show(if(us.map (QK:Str->Key)).length<sizeLine then some (Dt.dK (pK (us.map QK) (QK t)) (pV (us.map QK) (us.map λ_=>Dt.bool true) (QK t) (.bool true))) else none)=_
  rw[if_pos (by rw[kL];exact ka l (by decide))]
  unfold pK pV;have n:(QK t:Key)∉us.map QK:=λz=>h (WY.mp z);rw[if_neg n,if_neg n,pT,pT];rfl
 unfold chB dSq zE;generalize (xc (dB (d1 yL (dV 2))))=g1 at*;generalize (dB (xN false (dV 2) (dVr 1)))=g2 at*;simp only[e1,pC,kr,if_false];show((g2 [.fz L,seen us,.fz (.str t)]).bind _).bind _=_;rw[e2];show(putD (.dK (us.map QK) (us.map λ_=>Dt.bool true)) (.str t) (.bool true)).bind _=_;rw[e3];rfl
def ch_old{t:Str}{ρ:En}(h:t∈us)(hb:∀ρ,b ρ=some .ex):chB a b [.fz L,seen us,.fz (.str t)]=some .ex:=by
 have e1:(xc (dB (d1 yL (dV 2)))) [.fz L,seen us,.fz (.str t)]=some false:=by
  show((yL (.str t)).bind asB).bind _=_
  rw[JF];rfl
 have e2:=Jq us t L;rw[decide_eq_true h] at e2;unfold chB dSq zE;generalize (xc (dB (d1 yL (dV 2))))=g1 at*;generalize (dB (xN false (dV 2) (dVr 1)))=g2 at*;simp only[e1,pC,kr,if_false];show((g2 [.fz L,seen us,.fz (.str t)]).bind _).bind _=_;rw[e2];show(b _).bind _=_;rw[hb];rfl
def ch_bad{d:Dt}(h:yL d=some (.bool false))(ha:∀ρ,a ρ=some .ex):chB a b [.fz L,seen us,.fz d]=some .ex:=by
 have e1:(xc (dB (d1 yL (dV 2)))) [.fz L,seen us,.fz d]=some true:=by
  show((yL d).bind asB).bind _=_
  rw[h];rfl
 unfold chB dSq zE;generalize (xc (dB (d1 yL (dV 2))))=g1 at*;simp only[e1,pC,if_true];rw[ha];rfl
theorem Jw{a b:En->Option Ou}{L:Dt}:∀(ts us:List Str)(y:Sl),(us++ts).Nodup->(us++ts).length<=100->∃y',yC (gN 2) (chB a b) [2] (ts.map .str) [.fz L,seen us,y]=some (.nx [.fz L,seen (us++ts),y'])
 |[],us,y,_,_=>⟨y,by rw[uo];rfl⟩
 |t::ts,us,y,nd,l=>by
  have ht:t∉us:=λz=>(QA.mp nd).2.2 t z t (by simp) rfl
  have e:us++t::ts=(us++[t])++ts:=by simp
  obtain⟨y',h⟩:=Jw (a:=a) (b:=b) (L:=L) ts (us++[t]) .un (by rw[←e];exact nd) (by rw[←e];exact l)
  refine⟨y',?_⟩;have h1:=VT (a:=a) (b:=b) (L:=L) ht (by rw[kO,pH] at l;omega)
  generalize chB a b=c at*;rw[kY,yC];show(c [.fz L,seen us,.fz (.str t)]).bind _=_;rw[h1,e];exact h
def wo(us:List Str):List Dt->Prop
 |[]=>False
 |.str t::ds=>t∈us∨wo (us++[t]) ds
 |d::_=>yL d=some (.bool false)
theorem ch_ex{a b:En->Option Ou}{L:Dt}(ha:∀ρ,a ρ=some .ex)(hb:∀ρ,b ρ=some .ex):∀(ds:List Dt)(us:List Str)(y:Sl),us.length+ds.length<=100->wo us ds->yC (gN 2) (chB a b) [2] ds [.fz L,seen us,y]=some .ex
 |[],us,y,_,h=>h.elim
 |d::ds,us,y,l,h=>by
  have hd:yL d=some (.bool false)->yC (gN 2) (chB a b) [2] (d::ds) [.fz L,seen us,y]=some .ex:=λz=>by
   have h1:=ch_bad (a:=a) (b:=b) (us:=us) (L:=L) z ha;generalize chB a b=c at*;rw[yC];show(c [.fz L,seen us,.fz d]).bind _=_;rw[h1];rfl
  cases d with
  |str t=>
   by_cases c:t∈us
   ·have h1:=ch_old (a:=a) (ρ:=[]) (L:=L) c hb;generalize chB a b=cc at*;rw[yC];show(cc [.fz L,seen us,.fz (.str t)]).bind _=_;rw[h1];rfl
   ·have h2:=ch_ex (L:=L) ha hb ds (us++[t]) .un (by rw[kO];simp only[pH,gK] at l⊢;omega) (h.resolve_left c)
    have h1:=VT (a:=a) (b:=b) (L:=L) c (by rw[pH] at l;omega)
    generalize chB a b=cc at*;rw[yC];show(cc [.fz L,seen us,.fz (.str t)]).bind _=_;rw[h1];exact h2
  |none=>exact hd h
  |bool _=>exact hd h
  |int _=>exact hd h
  |list _=>exact hd h
  |tuple _=>exact hd h
  |scr _=>exact hd h
  |dK _ _=>exact hd h
  |dT _ _=>exact hd h
  |dN _ _=>exact hd h
  |ins _ _=>exact hd h
def zck(ts:List Str)(nd:ts.Nodup)(l:ts.length<=100):qy [.list (ts.map .str)]=some .none:=by
 obtain⟨y,h⟩:=Jw (a:=yY) (b:=yY) (L:=.list (ts.map .str)) ts [] .un nd l;show(yC (gN 2) (chB yY yY) [2] (ts.map .str) [.fz (.list (ts.map .str)),seen [],.un]).bind wE=_;rw[h];rfl
def zce(ds:List Dt)(l:ds.length<=100)(h:wo [] ds):dFx 3 1 fsC [.list ds]:=by
 refine⟨rfl,?_⟩;have:=ch_ex (a:=jB (dC (.str "a name is a text"))) (b:=jB (dC (.str "each name stands once"))) (L:=.list ds) (λ_=>rfl) (λ_=>rfl) ds [] .un (by simpa using l) h
 exact this
end Nu
end Mine
set_option maxHeartbeats 1000000
namespace Mine
open PySem L2
namespace Nu
def cel(ns:List Int)(k:Nat):Int:=ns.getD k 0
theorem Yy(ns:List Int)(k:Nat):xG [.scr ns,.int (k:Int)]=some (.int (cel ns k)):=by
 have e0:(dB (d2 kLt (dV 1) (dCl yN (za (dV 0) zb)))) [.fz (.scr ns),.fz (.int (k:Int))]=some (decide ((k:Int)<(ns.length:Int))):=rfl;show((dSq (zE (dB (d2 kLt (dV 1) (dCl yN (za (dV 0) zb)))) (dRt (d2 kIx (dV 0) (dV 1))) dNx) (dRt (dC (.int 0)))) [.fz (.scr ns),.fz (.int (k:Int))]).bind wE=_;unfold dSq zE;generalize (dB (d2 kLt (dV 1) (dCl yN (za (dV 0) zb))))=g at*;rw[e0];unfold cel
 by_cases c:k<ns.length
 ·have a:=Vs (kK c);rw[decide_eq_true (by omega:(k:Int)<(ns.length:Int)),pC,if_pos rfl]
  show((((atI ns (k:Int)).bind λn=>some (Dt.int n)).bind λd=>some (Ou.rt d _)).bind _).bind wE=_
  rw[a,pB,kK c];rfl
 ·rw[decide_eq_false (by omega:¬(k:Int)<(ns.length:Int)),pC,if_neg kZ,pB,UE (by omega)];rfl
def yv(s:Str):Bool:=s.cps.toList.all (λc=>decide (c<127))
theorem YR{s:Str}(h:yz s=true):yv s=true:=by
 unfold yz at h;unfold yv;rw[UA] at h⊢;exact λx hx=>decide_eq_true (by have:=of_decide_eq_true (h x hx);omega)
theorem Yq{s:Str}(h:yv s=true):(Bp s).canLay0=true:=by
 unfold yv at h;show s.cps.all (·<0x110000)=true;rw[←Array.all_toList];rw[UA] at h⊢;exact λx hx=>decide_eq_true (by have:=of_decide_eq_true (h x hx);omega)
theorem Y5:∀ts:List Str,xx (ts.map .str)=some (ts.map Bp)
 |[]=>rfl
 |t::ts=>by rw[kY,xx,Y5 ts];rfl
theorem Xz:∀{ts:List Str},(∀t∈ts,yv t=true)->uJ (ts.map .str)=true
 |[],_=>rfl
 |t::ts,h=>by
  rw[kY,uJ,Yq (h t (by simp)),Xz λx hx=>h x (by simp[hx])];rfl
def in_strs{t:Str}{ts:List Str}(ht:yv t=true)(h:∀t∈ts,yv t=true):kIn false false (.str t) (.list (ts.map .str))=some (.bool (decide (t∈ts))):=by
 show((xx (ts.map .str)).bind λes=>if(Bp t).canLay0=true/\uJ es=true/\(Bp t).depth<=60 then some (Dt.bool (es.any λe=>QE e (.str t))) else none)=_
 rw[Y5,pC,if_pos ⟨Yq ht,Xz h,uF _⟩]
 congr 2
 rw[UI,EG,decide_eq_true_eq]
 constructor
 ·rintro⟨x,hx,e⟩;obtain⟨s,hs,rfl⟩:=UM.mp hx;have:s=t:=by simpa[QE] using e
  exact this▸hs
 ·intro z;exact⟨_,UM.mpr ⟨t,z,rfl⟩,by simp[QE]⟩
end Nu
end Mine
set_option maxHeartbeats 1000000
namespace Mine
open PySem L2
variable{f g:En->Option Ou}{ρ:En}
namespace Nu
def lw1:En->Option Ou:=(zy 3 (dCl xG (za (dV 0) (za (d2 yD (dC (.int 2)) (dV 2)) zb))))
def lw2:En->Option Ou:=(zy 4 (dCl vU (za (d2 zS (dV 3) (dC (.int 3))) zb)))
def lw3:En->Option Ou:=(zE (dB (d2 (kIn false false) (dV 4) (zI 1 [] (iL (dVr 1)) (gN 0) zY (d2 kIx (dV 0) (dC (.int 0)))))) (zy 4 (d2 xa (d2 xa (dV 4) (dC (.str "~"))) (dCl wW (za (dV 2) zb)))) dNx)
def lw4:En->Option Ou:=(dSo 5 (zC (za (zx (za (zx (za (dC (.int 0)) (za (dC (.int 0)) (za (dC (.int 1)) zb)))) (za (zx (za (dC (.int 4)) (za (dC (.int 0)) (za (dC (.int 1)) zb)))) zb))) (za (zx (za (zx (za (dC (.int 0)) (za (dC (.int 4)) (za (dC (.int 1)) zb)))) (za (zx (za (dC (.int 0)) (za (dC (.int 0)) (za (dC (.int 1)) zb)))) zb))) (za (zx (za (zx (za (dC (.int 4)) (za (dC (.int 0)) (za (dC (.int 1)) zb)))) (za (zx (za (dC (.int 0)) (za (dC (.int 4)) (za (dC (.int 1)) zb)))) zb))) zb)))))
def lw5:En->Option Ou:=(zE (dB (d2 yn (d2 zK (dV 3) (dC (.int 3))) (dC (.int 0)))) (dSo 5 (zC zb)) dNx)
def lw6:En->Option Ou:=(dFz 5 (dAp 1 (zx (za (dV 4) (za (dV 5) zb)))))
def lwB:En->Option Ou:=dSq lw1 (dSq lw2 (dSq lw3 (dSq lw4 (dSq lw5 lw6))))
def lwI:En->Option (List Dt):=(iC rng1 (za (d2 yD (dC (.int 1)) (d2 zK (dCl xG (za (dV 0) (za (dC (.int 0)) zb))) (dC (.int 6)))) zb))
def yO{ρ':En}(h:f ρ=some (.nx ρ')):dSq f g ρ=g ρ':=by unfold dSq;rw[h];rfl
def wL{i:Nat}{f:En->Option Dt}{d:Dt}(h:f ρ=some d):zy i f ρ=some (.nx (ρ.set i (.fz d))):=by unfold zy;rw[h];rfl
def vF{i:Nat}{f:En->Option Dt}{d:Dt}(h:f ρ=some d):dSo i f ρ=some (.nx (ρ.set i (.ow false 1 d))):=by unfold dSo;rw[h];rfl
def if_t{c:En->Option Bool}(h:c ρ=some true):zE c f g ρ=f ρ:=by unfold zE;rw[h];rfl
def if_f{c:En->Option Bool}(h:c ρ=some false):zE c f g ρ=g ρ:=by unfold zE;rw[h];rfl
theorem Xv{α:Type}{f:Dt->Option (Option Dt)}{e h:α->Dt}:∀{xs:List α},(∀a∈xs,f (e a)=some (some (h a)))->yV f (xs.map e)=some (xs.map h)
 |[],_=>rfl
 |a::xs,H=>by
  rw[kY,yV,H a (by simp),pC,Xv λb hb=>H b (by simp[hb])]
  rfl
def S9(ns:List Int)(l:List (Str×Bool))(y2 y3 y4 y5:Sl):En:=[.fz (.scr ns),.ow false 1 (.list (l.map zq)),y2,y3,y4,y5,.un,.un,.un,.un,.un,.un,.un]
def dgS(k:Nat):Str:=⟨#[48+k]⟩
def otS(t:Str)(k:Nat):Str:=t++"~"++dgS k
theorem str_k{k:Nat}(h:k<6):wW [.int (k:Int)]=some (.str (dgS k)):=by
 rcases(by omega:k=0∨k=1∨k=2∨k=3∨k=4∨k=5) with rfl|rfl|rfl|rfl|rfl|rfl<;>kernel_rfl
section
variable{ns:List Int}{l:List (Str×Bool)}{k:Nat}{y2 y3 y4 y5:Sl}{c:Int}{t:Str}
def w1(hk:k<6):lw1 (S9 ns l (.fz (.int k)) y3 y4 y5)=some (.nx (S9 ns l (.fz (.int k)) (.fz (.int (cel ns (2+k)))) y4 y5)):=by
 refine wL (f:=dCl xG (za (dV 0) (za (d2 yD (dC (.int 2)) (dV 2)) zb))) ?_;show xG [.scr ns,.int (2+(k:Int))]=_;have:=Yy ns (2+k)
 rwa [Int.natCast_add] at this
def w2(h:vU [.int (c.fdiv 3)]=some (.str t)):lw2 (S9 ns l y2 (.fz (.int c)) y4 y5)=some (.nx (S9 ns l y2 (.fz (.int c)) (.fz (.str t)) y5)):=by
 refine wL (f:=dCl vU (za (d2 zS (dV 3) (dC (.int 3))) zb)) ?_;have q:(za (d2 zS (dV 3) (dC (.int 3))) zb) (S9 ns l y2 (.fz (.int c)) y4 y5)=some [.int (c.fdiv 3)]:=by
  show((zS (.int c) (.int 3)).bind λa=>some [a])=_
  rw[jQ (by decide) (by decide)];rfl
 unfold dCl;rw[q];exact h
def nms_of:yV (λd=>(gN 0 d (inn 1 [] (S9 ns l y2 y3 y4 y5))).bind λρ1=>(zY ρ1).bind λb=>if b=true then((d2 kIx (dV 0) (dC (.int 0))) ρ1).bind λy=>some (some y) else some none) (l.map zq)=some ((l.map (·.1)).map .str):=by
 rw[uP];exact Xv λa _=>rfl
def w3c(ht:yv t=true)(h:∀p∈l,yv p.1=true):(dB (d2 (kIn false false) (dV 4) (zI 1 [] (iL (dVr 1)) (gN 0) zY (d2 kIx (dV 0) (dC (.int 0)))))) (S9 ns l y2 y3 (.fz (.str t)) y5)=some (decide (t∈l.map (·.1))):=by
 have q:(zI 1 [] (iL (dVr 1)) (gN 0) zY (d2 kIx (dV 0) (dC (.int 0)))) (S9 ns l y2 y3 (.fz (.str t)) y5)=some (.list ((l.map (·.1)).map .str)):=by
  unfold zI;show((yV _ (l.map zq)).bind _)=_;rw[nms_of];rfl
 generalize (zI 1 [] (iL (dVr 1)) (gN 0) zY (d2 kIx (dV 0) (dC (.int 0))))=g at*;unfold dB d2;rw[q];show((kIn false false (.str t) (.list ((l.map (·.1)).map .str))).bind asB)=_;rw[in_strs ht λx hx=>by obtain⟨p,hp,rfl⟩:=UM.mp hx;exact h p hp]
 rfl
theorem w3(ht:yv t=true)(hl:t.length<=3)(hk:k<6)(h:∀p∈l,yv p.1=true):lw3 (S9 ns l (.fz (.int k)) y3 (.fz (.str t)) y5)=some (.nx (S9 ns l (.fz (.int k)) y3 (.fz (.str (if t∈l.map (·.1) then otS t k else t))) y5)):=by
 have c3:=w3c (ns:=ns) (y2:=.fz (.int k)) (y3:=y3) (y5:=y5) ht h;unfold lw3
 by_cases m:t∈l.map (·.1)
 ·rw[decide_eq_true m] at c3;rw[if_t c3,if_pos m];refine wL (f:=d2 xa (d2 xa (dV 4) (dC (.str "~"))) (dCl wW (za (dV 2) zb))) ?_;show((xa (.str t) (.str "~")).bind λa=>(wW [.int (k:Int)]).bind λb=>xa a b)=_;rw[str_k hk];have a1:xa (.str t) (.str "~")=some (.str (t++"~")):=if_pos (vk (by show t.length+1<=_;omega))
  rw[a1];exact if_pos (vk (by rw[Zj];show t.length+1+1<=_;omega))
 ·rw[decide_eq_false m] at c3;rw[if_f c3,if_neg m];rfl
def w45:lw5 (S9 ns l y2 (.fz (.int c)) y4 (.ow false 1 triD))=some (.nx (S9 ns l y2 (.fz (.int c)) y4 (.ow false 1 (xQ (decide (c.fmod 3≠0)))))):=by
 have q:(dB (d2 yn (d2 zK (dV 3) (dC (.int 3))) (dC (.int 0)))) (S9 ns l y2 (.fz (.int c)) y4 (.ow false 1 triD))=some (decide (c.fmod 3=0)):=by
  show(((zK (.int c) (.int 3)).bind λa=>yn a (.int 0)).bind asB)=_
  rw[wJ (by decide)];rfl
 unfold lw5
 by_cases e:c.fmod 3=0
 ·rw[decide_eq_true e] at q;rw[if_t q,decide_eq_false (λz=>z e)];rfl
 ·rw[decide_eq_false e] at q;rw[if_f q,decide_eq_true e];rfl
def w6{b:Bool}(hl:l.length<100):lw6 (S9 ns l y2 y3 (.fz (.str t)) (.ow false 1 (xQ b)))=some (.nx (S9 ns (l++[(t,b)]) y2 y3 (.fz (.str t)) (.fz (xQ b)))):=by
 show(if(l.map zq).length<sizeLine then some (Ou.nx [.fz (.scr ns),.ow false 1 (.list (l.map zq++[.tuple [.str t,xQ b]])),y2,y3,.fz (.str t),.fz (xQ b),.un,.un,.un,.un,.un,.un,.un]) else none)=_
 rw[if_pos (by rw[kL];exact ka hl (by decide))]
 unfold S9;rw[pT];rfl
def wB(hk:k<6)(hl:l.length<100)(h:∀p∈l,yv p.1=true):∃t,yz t=true/\t.length<=3/\lwB (S9 ns l (.fz (.int k)) y3 y4 y5)=some (.nx (S9 ns (l++[(if t∈l.map (·.1) then otS t k else t,decide ((cel ns (2+k)).fmod 3≠0))]) (.fz (.int k)) (.fz (.int (cel ns (2+k)))) (.fz (.str (if t∈l.map (·.1) then otS t k else t))) (.fz (xQ (decide ((cel ns (2+k)).fmod 3≠0)))))):=by
 obtain⟨t,e,p,q⟩:=ev_name ((cel ns (2+k)).fdiv 3);refine⟨t,p,q,?_⟩;have e4:∀{y2 y3 y4 y5},lw4 (S9 ns l y2 y3 y4 y5)=some (.nx (S9 ns l y2 y3 y4 (.ow false 1 triD))):=λ{y2 y3 y4 y5}=>vF (i:=5) rfl;unfold lwB;rw[yO (w1 hk),yO (w2 e),yO (w3 (YR p) q hk h),yO e4,yO w45];exact w6 hl
end
end Nu
end Mine
set_option maxHeartbeats 1000000
namespace Mine
open PySem L2
namespace Nu
structure Nms(k:Nat)(l:List (Str×Bool)):Prop where
 len:l.length=k
 nd:(l.map (·.1)).Nodup
 asc:∀p∈l,yv p.1=true
 one:∀p∈l,yz p.1=true∨(yz p.1=false/\∃j,j<k/\p.1.cps.toList.getLast?=some (48+j))
def Wn(t:Str)(k:Nat):(otS t k).cps.toList=t.cps.toList++[126,48+k]:=by
 show((t.cps++("~":Str).cps)++(dgS k).cps).toList=_
 rw[UT,UT,UN];rfl
def Jx(t:Str)(k:Nat):yz (otS t k)=false:=by
 unfold yz;rw[Wn,Bz]
 simp
def Ze(t:Str)(k:Nat):(otS t k).cps.toList.getLast?=some (48+k):=by
 rw[Wn]
 simp
theorem ot_asc{t:Str}{k:Nat}(h:yv t=true)(hk:k<6):yv (otS t k)=true:=by
 unfold yv at*;rw[Wn,Bz,h]
 simp
 omega
theorem Nms.next{k:Nat}{l:List (Str×Bool)}{t:Str}{b:Bool}(N:Nms k l)(hk:k<6)(p:yz t=true):Nms (k+1) (l++[(if t∈l.map (·.1) then otS t k else t,b)]):=by
 have new:(if t∈l.map (·.1) then otS t k else t)∉l.map (·.1):=by
  by_cases m:t∈l.map (·.1)
  ·rw[if_pos m];intro z;obtain⟨q,hq,e⟩:=UM.mp z;rcases N.one q hq with h|⟨_,j,hj,h⟩
   ·rw[e,Jx] at h;cases h
   ·rw[e,Ze] at h;have:=pL h;omega
  ·rw[if_neg m];exact m
 refine⟨by rw[kO,N.len];rfl,?_,λq hq=>?_,λq hq=>?_⟩
 ·rw[pT];refine QA.mpr ⟨N.nd,by simp,λa ha c hc e=>?_⟩
  simp only[kY,Be,kf] at hc;rw[e,hc] at ha;exact new ha
 ·rcases pS.mp hq with hq|hq
  ·exact N.asc q hq
  ·rw[kf.mp hq];show yv (if t∈l.map (·.1) then otS t k else t)=true
   split
   ·exact ot_asc (YR p) hk
   ·exact YR p
 ·rcases pS.mp hq with hq|hq
  ·rcases N.one q hq with h|⟨h,j,hj,e⟩
   ·exact .inl h
   ·exact .inr ⟨h,j,by omega,e⟩
  ·rw[kf.mp hq];show yz (if t∈l.map (·.1) then otS t k else t)=true∨(yz (if t∈l.map (·.1) then otS t k else t)=false/\∃j,j<k+1/\(if t∈l.map (·.1) then otS t k else t).cps.toList.getLast?=some (48+j))
   split
   ·exact .inr ⟨Jx _ _,k,by omega,Ze _ _⟩
   ·exact .inl p
theorem w_go(ns:List Int):∀(n m:Nat)(l:List (Str×Bool))(a b:Sl),m+n<=6->Nms m l->∃l' a' b',yC (gN 2) lwB [2,3] ((BE m n).map λk:Nat=>Dt.int (k:Int)) (S9 ns l .un .un a b)=some (.nx (S9 ns l' .un .un a' b'))/\Nms (m+n) l'
 |0,m,l,a,b,_,N=>⟨l,a,b,rfl,N⟩
 |n+1,m,l,a,b,h,N=>by
  obtain⟨t,p,_,e⟩:=wB (ns:=ns) (l:=l) (k:=m) (y3:=.un) (y4:=a) (y5:=b) (by omega) (by rw[N.len];omega) N.asc
  obtain⟨l',a',b',e2,N'⟩:=w_go ns n (m+1) _ (.fz (.str (if t∈l.map (·.1) then otS t m else t))) (.fz (xQ (decide ((cel ns (2+m)).fmod 3≠0)))) (by omega) (N.next (b:=decide ((cel ns (2+m)).fmod 3≠0)) (by omega) p)
  refine⟨l',a',b',?_,by rw[show m+(n+1)=m+1+n by omega];exact N'⟩
  generalize lwB=w at e e2⊢;rw[EH,kY,yC];show(w (S9 ns l (.fz (.int (m:Int))) .un a b)).bind _=_;rw[e];exact e2
theorem w_loop(ns:List Int):∃(n:Nat)(l:List (Str×Bool))(a b:Sl),1<=n/\n<=6/\Nms n l/\(yb [2,3] lwI (gN 2) lwB) (S9 ns [] .un .un .un .un)=some (.nx (S9 ns l .un .un a b)):=by
 have h1:=Qt (a:=cel ns 0) (b:=6) (by decide)
 have h2:=Uh (cel ns 0) (b:=6) (by decide)
 obtain⟨l,a,b,e,N⟩:=w_go ns (1+(cel ns 0).fmod 6).toNat 0 [] .un .un (by omega) ⟨rfl,.nil,λ_ h=>(by cases h),λ_ h=>(by cases h)⟩
 refine⟨(1+(cel ns 0).fmod 6).toNat,l,a,b,by omega,by omega,by rw[Nat.zero_add] at N;exact N,?_⟩
 have ei:lwI (S9 ns [] .un .un .un .un)=some ((BE 0 (1+(cel ns 0).fmod 6).toNat).map λk:Nat=>Dt.int (k:Int)):=by
  show((((xG [.scr ns,.int 0]).bind λa=>zK a (.int 6)).bind λb=>yD (.int 1) b).bind λa=>(some [a])).bind rng1=_
  have c0:=Yy ns 0;rw[show((0:Nat):Int)=0 from rfl] at c0;rw[c0,pC,wJ (by decide)]
  show(some [Dt.int (1+(cel ns 0).fmod 6)]).bind rng1=_
  rw[←Cc];exact if_pos ⟨by omega,by omega,vk (by omega)⟩
 generalize lwI=g at*;generalize lwB=w at*;unfold yb;rw[ei];exact e
end Nu
end Mine
set_option maxHeartbeats 1000000
namespace Mine
open PySem L2
variable{l:List (Str×Bool)}
namespace Nu
def it2(p:Dt×Dt):Dt:=.tuple [p.1,p.2]
def WS(ps:List (Dt×Dt)):wS [.un,.fz (.list (ps.map it2)),.un]=some (.list (ps.map (·.1))):=by
 unfold wS zI;show((yV _ (ps.map it2)).bind _)=_;rw[Xv (e:=it2) (h:=(·.1)) λa _=>rfl];rfl
theorem badA{d:Dt}{ds:List Dt}(h:∀us,wo us (d::ds)):∀(ts us:List Str),wo us (ts.map .str++d::ds)
 |[],us=>h us
 |t::ts,us=>.inr (badA h ts (us++[t]))
theorem badB:∀(ts us:List Str),us.Nodup->¬(us++ts).Nodup->wo us (ts.map .str)
 |[],us,h,n=>(n (by rw[uo];exact h)).elim
 |t::ts,us,h,n=>by
  by_cases c:t∈us
  ·exact .inl c
  ·refine .inr (badB ts (us++[t]) (QA.mpr ⟨h,by simp,λa ha b hb e=>?_⟩) ?_)
   ·rw[kf.mp hb] at e;rw[e] at ha;exact c ha
   ·rw[UN];exact n
def ZT{ps:List (Dt×Dt)}(l:ps.length<=100)(h:wo [] (ps.map (·.1))):xy [.list (ps.map it2)]=some (.bool true):=
 if_pos ⟨_,WS ps,zce _ (by rw[kL];exact l) h⟩
def pr2(p:Str×Bool):Dt×Dt:=(.str p.1,xQ p.2)
def jN(l:List (Str×Bool)):l.map zq=(l.map pr2).map it2:=by rw[uP];rfl
def jJ(l:List (Str×Bool)):(l.map pr2).map (·.1)=(l.map (·.1)).map Dt.str:=by rw[uP,uP];rfl
theorem ref_A{w e:Dt}{k:Nat}(hl:l.length<=6)(hw:∀us ds,wo us (w::ds)):xy [.list ((l.take k).map zq++[.tuple [w,e]]++(l.drop k).map zq)]=some (.bool true):=by
 have q:(l.take k).map zq++[.tuple [w,e]]++(l.drop k).map zq=((l.take k).map pr2++[(w,e)]++(l.drop k).map pr2).map it2:=by
  rw[pT,pT,jN,jN];rfl
 rw[q];refine ZT ?_ ?_
 ·simp only[kO,kL,Qx,Qz,pH,gK];omega
 ·rw[pT,pT,jJ,jJ,UN];exact badA (λus=>hw us _) _ _
theorem ref_B{x:Str}{e:Dt}{k:Nat}(hl:l.length<=6)(hx:x∈l.map (·.1)):xy [.list ((l.take k).map zq++[.tuple [.str x,e]]++(l.drop k).map zq)]=some (.bool true):=by
 have q:(l.take k).map zq++[.tuple [.str x,e]]++(l.drop k).map zq=((l.take k).map pr2++[(Dt.str x,e)]++(l.drop k).map pr2).map it2:=by
  rw[pT,pT,jN,jN];rfl
 rw[q];refine ZT ?_ ?_
 ·simp only[kO,kL,Qx,Qz,pH,gK];omega
 ·rw[pT,pT,jJ,jJ];have e2:((l.take k).map (·.1)).map Dt.str++[(Dt.str x,e)].map (·.1)++((l.drop k).map (·.1)).map Dt.str=((l.take k).map (·.1)++[x]++(l.drop k).map (·.1)).map Dt.str:=by
   rw[pT,pT];rfl
  rw[e2];refine badB _ [] .nil λnd=>?_;rw[List.nil_append,UN] at nd;obtain⟨n1,n2,n3⟩:=QA.mp nd;have hx:x∈(l.take k).map (·.1)∨x∈(l.drop k).map (·.1):=by
   rw[←List.take_append_drop k l,pT,pS] at hx;exact hx
  rcases hx with hx|hx
  ·exact n3 x hx x (by simp) rfl
  ·exact(uS.mp n2).1 hx
theorem cutL{α:Type}{f:α->Dt}(l:List α)(r:Nat)(h:r<=l.length):vd (l.map f) none (some (r:Int))=(l.take r).map f/\vd (l.map f) (some (r:Int)) none=(l.drop r).map f:=by
 have e:HT.sIx l.length 0 (some (r:Int))=r:=by unfold HT.sIx;dsimp only;rw[if_neg (by omega)];omega
 have e2:HT.sIx l.length l.length (some (r:Int))=r:=by unfold HT.sIx;dsimp only;rw[if_neg (by omega)];omega
 have e0:HT.sIx l.length 0 none=0:=rfl;have e3:HT.sIx l.length l.length none=l.length:=rfl;unfold vd;rw[kL,e,e2,e0,e3]
 constructor
 ·rw[Eu,Nat.sub_zero,List.map_take]
 ·rw[List.map_drop,gz (by rw[Qz,kL];omega)]
def wrongs:List Dt:=[.int 3,.bool true,.none,.tuple [.str "a"],.int 0,.list [.str "a"],.dT [] []]
theorem zai(c:Int):∃w,kIx (.list wrongs) (.int (c.fmod 7))=some w/\∀us ds,wo us (w::ds):=by
 have h1:=Qt (a:=c) (b:=7) (by decide)
 have h2:=Uh c (b:=7) (by decide)
 rcases(by omega:c.fmod 7=0∨c.fmod 7=1∨c.fmod 7=2∨c.fmod 7=3∨c.fmod 7=4∨c.fmod 7=5∨c.fmod 7=6) with e|e|e|e|e|e|e<;>rw[e]<;>exact⟨_,rfl,λus ds=>show yL _=some (.bool false) by kernel_rfl⟩
end Nu
end Mine
set_option maxHeartbeats 1000000
namespace Mine
open PySem L2
variable{ts:List Str}
namespace Nu
def lr1:En->Option Ou:=(zy 6 (dCl xG (za (dV 0) (za (dC (.int 1)) zb))))
def lr2:En->Option Ou:=(zy 7 (d2 zK (d2 zS (dV 6) (dC (.int 4))) (dCl yN (za (dVr 1) zb))))
noncomputable def lr3:En->Option Ou:=(zE (dB (d2 yn (d2 zK (dV 6) (dC (.int 4))) (dC (.int 0)))) (dSq (zy 8 (d2 kIx (zC (za (dC (.int 3)) (za (dC (.bool true)) (za (dC .none) (za (zx (za (dC (.str "a")) zb)) (za (dC (.int 0)) (za (zC (za (dC (.str "a")) zb)) (za (dC (.dT [] [])) zb)))))))) (d2 zK (d2 zS (dV 6) (dC (.int 24))) (dC (.int 7)))))
  (dSq (dSo 9 (d2 yu (d2 yu (dSl (dVr 1) oN (oS (dV 7))) (zC (za (zx (za (dV 8) (za (zC zb) zb))) zb))) (dSl (dVr 1) (oS (dV 7)) oN)))
  (dFz 9 (dRt (dCl xy (za (dV 9) zb)))))) dNx)
noncomputable def lr4:En->Option Ou:=(zE (dB (d2 yn (d2 zK (dV 6) (dC (.int 4))) (dC (.int 1)))) (dSq (zy 10 (d2 zK (d2 zS (dV 6) (dC (.int 24))) (d2 yD (dCl yN (za (dVr 1) zb)) (dC (.int 1)))))
  (dSq (dSo 9 (d2 yu (d2 yu (dSl (dVr 1) oN (oS (dV 10))) (zC (za (zx (za (d2 kIx (d2 kIx (dVr 1) (dV 7)) (dC (.int 0))) (za (zC zb) zb))) zb))) (dSl (dVr 1) (oS (dV 10)) oN)))
  (dFz 9 (dRt (dCl xy (za (dV 9) zb)))))) dNx)
def lr5:En->Option Ou:=(dSo 9 (dCl jV (za (dVr 1) zb)))
noncomputable def lr6:En->Option Ou:=(dFz 9 (zy 11 (jf "found" vB (vI ["places","layers","uprights"] wj (dV 9)) (za (zx (za (dC (.int 1)) (za (dC (.int 1)) (za (dC (.int 1)) zb)))) zb))))
noncomputable def lr7:En->Option Ou:=(dSo 12 (dCl ju (za (zI 2 [] (iL (dVr 1)) (gT 2 (gsC (gN 0) (gsC (gN 1) gs0))) (dB (d2 kNe (dV 1) (zC zb))) (dV 0)) zb)))
def lr8:En->Option Ou:=(dFz 12 (dRt (vX (d2 kEq (dV 11) (zx (za (dV 12) (za (zC zb) zb)))) (d2 kEq (dV 9) (dVr 1)))))
noncomputable def lwR:En->Option Ou:=dSq lr1 (dSq lr2 (dSq lr3 (dSq lr4 (dSq lr5 (dSq lr6 (dSq lr7 lr8))))))
def sq_rt{f g:En->Option Ou}{ρ ρ':En}{d:Dt}(h:f ρ=some (.rt d ρ')):dSq f g ρ=some (.rt d ρ'):=by unfold dSq;rw[h];rfl
def T9(ns:List Int)(l:List (Str×Bool))(a b y6 y7 y8 y9 y10 y11 y12:Sl):En:=[.fz (.scr ns),.ow false 1 (.list (l.map zq)),.un,.un,a,b,y6,y7,y8,y9,y10,y11,y12]
def Jt{d:Dt}{x:Ao}(h:toP d=some x)(c:x.canLay0=true)(k:x.depth<=64):kEq d d=some (.bool true):=by
 have s:ut x=true:=by unfold ut;rw[c,decide_eq_true k];rfl
 unfold kEq;rw[h,pC,pC,if_pos ⟨s,s⟩,SeqAt.eqv_refl x c]
def triP:Ao:=.list [.tuple [.tuple [.int 0,.int 0,.int 1],.tuple [.int 4,.int 0,.int 1]],.tuple [.tuple [.int 0,.int 4,.int 1],.tuple [.int 0,.int 0,.int 1]],.tuple [.tuple [.int 4,.int 0,.int 1],.tuple [.int 0,.int 4,.int 1]]]
def pP(p:Str×Bool):Ao:=.tuple [.str p.1,cond p.2 triP (.list [])]
def zcg(p:Str×Bool):toP (zq p)=some (pP p):=by
 obtain⟨t,b⟩:=p
 cases b<;>kernel_rfl
theorem ZM:∀l:List (Str×Bool),xx (l.map zq)=some (l.map pP)
 |[]=>rfl
 |p::l=>by rw[kY,xx,ZM l,zcg];rfl
def zbs{p:Str×Bool}(h:yv p.1=true):(pP p).canLay0=true:=by
 obtain⟨t,b⟩:=p;show((Bp t).canLay0&&((cond b triP (.list [])).canLay0&&true))=true;rw[Yq h]
 cases b<;>kernel_rfl
theorem W3:∀{l:List (Str×Bool)},(∀p∈l,yv p.1=true)->uJ (l.map pP)=true
 |[],_=>rfl
 |p::l,h=>by rw[kY,uJ,zbs (h p (by simp)),W3 λx hx=>h x (by simp[hx])];rfl
theorem ZW:∀l:List (Str×Bool),Qm (l.map pP)<=10
 |[]=>by decide
 |p::l=>by
  rw[kY,Qm];have h:(pP p).depth<=10:=by
   obtain⟨t,b⟩:=p
   cases b
   ·show 2<=10;decide
   ·show 4<=10;decide
  have:=ZW l;omega
theorem ZB:∀ts:List Str,Qm (ts.map .str)=0
 |[]=>rfl
 |t::ts=>by rw[kY,Qm,ZB ts];rfl
theorem srt_mem{t:Str}(h:t∈xW ts):t∈ts:=by
 unfold xW at h
 split at h
 ·rename_i e;exact(e.choose_spec.1.mem_iff).mp h
 ·exact h
def zay{l:List (Str×Bool)}(h:∀p∈l,yv p.1=true):kEq (.list (l.map zq)) (.list (l.map zq))=some (.bool true):=by
 refine Jt (x:=.list (l.map pP)) ?_ (W3 h) (pd (Nat.succ_le_succ (ZW l)) (by decide))
 rw[toP,ZM];rfl
def keq_due(h:∀t∈ts,yv t=true):kEq (.tuple [SS ts,.list []]) (.tuple [SS ts,.list []])=some (.bool true):=by
 have e:toP (.tuple [SS ts,.list []])=some (.tuple [.list ((xW ts).map .str),.list []]):=by
  unfold SS;rw[toP,xx,toP,Y5];rfl
 refine Jt e ?_ ?_
 ·show(uJ ((xW ts).map .str)&&true)=true
  rw[Xz λt ht=>h t (srt_mem ht)];rfl
 ·show max (Qm ((xW ts).map .str)+1) 1+1<=64
  rw[ZB];decide
end Nu
end Mine
set_option maxHeartbeats 1000000
namespace Mine
open PySem L2
namespace Nu
theorem W0{α:Type}{f:Dt->Option (Option Dt)}{e h:α->Dt}{c:α->Bool}:∀{xs:List α},(∀a∈xs,f (e a)=some (if c a=true then some (h a) else none))->yV f (xs.map e)=some ((xs.filter c).map h)
 |[],_=>rfl
 |a::xs,H=>by
  rw[kY,yV,H a (by simp),pC,W0 λb hb=>H b (by simp[hb]),pC,List.filter_cons]
  cases c a<;>rfl
section
variable{ns:List Int}{l:List (Str×Bool)}{a b y6 y7 y8 y9 y10 y11 y12:Sl}{c:Int}{k n:Nat}
def v1:lr1 (T9 ns l a b y6 y7 y8 y9 y10 y11 y12)=some (.nx (T9 ns l a b (.fz (.int (cel ns 1))) y7 y8 y9 y10 y11 y12)):=
 wL (f:=dCl xG (za (dV 0) (za (dC (.int 1)) zb))) (Yy ns 1)
theorem Z4{x:Int}{n:Nat}(h:0<n):∃k:Nat,k<n/\x.fmod (n:Int)=(k:Int):=by
 have h1:=Qt (a:=x) (b:=(n:Int)) (by omega)
 have h2:=Uh x (b:=(n:Int)) (by omega)
 exact⟨(x.fmod n).toNat,by omega,(Cu h1).symm⟩
theorem v2(hn:0<l.length)(hl:l.length<=6):∃k,k<l.length/\lr2 (T9 ns l a b (.fz (.int c)) y7 y8 y9 y10 y11 y12)=some (.nx (T9 ns l a b (.fz (.int c)) (.fz (.int (k:Nat))) y8 y9 y10 y11 y12)):=by
 obtain⟨k,hk,e⟩:=Z4 (x:=c.fdiv 4) hn;refine⟨k,hk,wL (f:=d2 zK (d2 zS (dV 6) (dC (.int 4))) (dCl yN (za (dVr 1) zb))) ?_⟩;show((zS (.int c) (.int 4)).bind λx=>(some (Dt.int ((l.map zq).length:Int))).bind λy=>zK x y)=_;rw[jQ (by decide) (by decide),kL]
 show zK (.int (c.fdiv 4)) (.int (l.length:Int))=_
 rw[wJ (by omega),e]
def vc(m:Int):(dB (d2 yn (d2 zK (dV 6) (dC (.int 4))) (dC (.int m)))) (T9 ns l a b (.fz (.int c)) y7 y8 y9 y10 y11 y12)=some (decide (c.fmod 4=m)):=by
 show(((zK (.int c) (.int 4)).bind λa=>yn a (.int m)).bind asB)=_
 rw[wJ (by decide)];rfl
theorem cat3{xs:List (Str×Bool)}{d:Dt}{k:Nat}(hl:xs.length<=6)(hk:k<=xs.length):((yu (.list (vd (xs.map zq) none (some (k:Int)))) (.list [d])).bind λz=>yu z (.list (vd (xs.map zq) (some (k:Int)) none)))=some (.list ((xs.take k).map zq++[d]++(xs.drop k).map zq)):=by
 rw[(cutL xs k hk).1,(cutL xs k hk).2];have e1:yu (.list ((xs.take k).map zq)) (.list [d])=some (.list ((xs.take k).map zq++[d])):=if_pos (vk (by rw[kL,Qx];simp;omega))
 rw[e1];exact if_pos (vk (by simp only[kO,kL,Qx,Qz,pH,gK];omega))
def v3A(hk:k<=l.length)(hl:l.length<=6)(hc:c.fmod 4=0):∃ρ,lr3 (T9 ns l a b (.fz (.int c)) (.fz (.int (k:Nat))) y8 y9 y10 y11 y12)=some (.rt (.bool true) ρ):=by
 have q:=vc (ns:=ns) (l:=l) (a:=a) (b:=b) (c:=c) (y7:=.fz (.int (k:Nat))) (y8:=y8) (y9:=y9) (y10:=y10) (y11:=y11) (y12:=y12) 0;rw[decide_eq_true hc] at q;obtain⟨w,e1,hw⟩:=zai (c.fdiv 24);unfold lr3;rw[if_t q];have s1:zy 8 (d2 kIx (zC (za (dC (.int 3)) (za (dC (.bool true)) (za (dC .none) (za (zx (za (dC (.str "a")) zb)) (za (dC (.int 0)) (za (zC (za (dC (.str "a")) zb)) (za (dC (.dT [] [])) zb)))))))) (d2 zK (d2 zS (dV 6) (dC (.int 24))) (dC (.int 7)))) (T9 ns l a b (.fz (.int c)) (.fz (.int (k:Nat))) y8 y9 y10 y11 y12)=some (.nx (T9 ns l a b (.fz (.int c)) (.fz (.int (k:Nat))) (.fz w) y9 y10 y11 y12)):=by
  refine wL ?_;show(((zS (.int c) (.int 24)).bind λx=>zK x (.int 7)).bind λy=>kIx (.list wrongs) y)=_;rw[jQ (by decide) (by decide),pC,wJ (by decide)]
  exact e1
 have s2:dSo 9 (d2 yu (d2 yu (dSl (dVr 1) oN (oS (dV 7))) (zC (za (zx (za (dV 8) (za (zC zb) zb))) zb))) (dSl (dVr 1) (oS (dV 7)) oN)) (T9 ns l a b (.fz (.int c)) (.fz (.int (k:Nat))) (.fz w) y9 y10 y11 y12)=some (.nx (T9 ns l a b (.fz (.int c)) (.fz (.int (k:Nat))) (.fz w) (.ow false 1 (.list ((l.take k).map zq++[.tuple [w,.list []]]++(l.drop k).map zq))) y10 y11 y12)):=by
  refine vF ?_;exact cat3 hl hk
 rw[yO s1,yO s2];refine⟨T9 ns l a b (.fz (.int c)) (.fz (.int (k:Nat))) (.fz w) (.fz (.list ((l.take k).map zq++[.tuple [w,.list []]]++(l.drop k).map zq))) y10 y11 y12,?_⟩;show((xy [(.list ((l.take k).map zq++[.tuple [w,.list []]]++(l.drop k).map zq))]).bind λd=>some (Ou.rt d (T9 ns l a b (.fz (.int c)) (.fz (.int (k:Nat))) (.fz w) (.fz (.list ((l.take k).map zq++[.tuple [w,.list []]]++(l.drop k).map zq))) y10 y11 y12)))=_;rw[ref_A hl hw];rfl
def v3B(hc:c.fmod 4≠0):lr3 (T9 ns l a b (.fz (.int c)) y7 y8 y9 y10 y11 y12)=some (.nx (T9 ns l a b (.fz (.int c)) y7 y8 y9 y10 y11 y12)):=by
 have q:=vc (ns:=ns) (l:=l) (a:=a) (b:=b) (c:=c) (y7:=y7) (y8:=y8) (y9:=y9) (y10:=y10) (y11:=y11) (y12:=y12) 0;rw[decide_eq_false hc] at q;unfold lr3;rw[if_f q];rfl
theorem v4A(hk:k<l.length)(hl:l.length<=6)(hc:c.fmod 4=1):∃ρ,lr4 (T9 ns l a b (.fz (.int c)) (.fz (.int (k:Nat))) y8 y9 y10 y11 y12)=some (.rt (.bool true) ρ):=by
 have q:=vc (ns:=ns) (l:=l) (a:=a) (b:=b) (c:=c) (y7:=.fz (.int (k:Nat))) (y8:=y8) (y9:=y9) (y10:=y10) (y11:=y11) (y12:=y12) 1;rw[decide_eq_true hc] at q;obtain⟨m,hm,e⟩:=Z4 (x:=c.fdiv 24) (n:=l.length+1) (by omega)
 unfold lr4;rw[if_t q];have s1:zy 10 (d2 zK (d2 zS (dV 6) (dC (.int 24))) (d2 yD (dCl yN (za (dVr 1) zb)) (dC (.int 1)))) (T9 ns l a b (.fz (.int c)) (.fz (.int (k:Nat))) y8 y9 y10 y11 y12)=some (.nx (T9 ns l a b (.fz (.int c)) (.fz (.int (k:Nat))) y8 y9 (.fz (.int (m:Nat))) y11 y12)):=by
  refine wL ?_;show((zS (.int c) (.int 24)).bind λx=>(some (Dt.int (((l.map zq).length:Int)+1))).bind λy=>zK x y)=_;rw[jQ (by decide) (by decide),kL]
  show zK (.int (c.fdiv 24)) (.int ((l.length:Int)+1))=_
  rw[wJ (by omega)]
  rw[show((l.length:Int)+1)=((l.length+1:Nat):Int) by omega,e]
 have e2:kIx (.list (l.map zq)) (.int (k:Int))=some (zq l[k]):=by
  show atI (l.map zq) (k:Int)=_
  exact Vs (by rw[kg,kK hk];rfl)
 have s2:dSo 9 (d2 yu (d2 yu (dSl (dVr 1) oN (oS (dV 10))) (zC (za (zx (za (d2 kIx (d2 kIx (dVr 1) (dV 7)) (dC (.int 0))) (za (zC zb) zb))) zb))) (dSl (dVr 1) (oS (dV 10)) oN)) (T9 ns l a b (.fz (.int c)) (.fz (.int (k:Nat))) y8 y9 (.fz (.int (m:Nat))) y11 y12)=some (.nx (T9 ns l a b (.fz (.int c)) (.fz (.int (k:Nat))) y8 (.ow false 1 (.list ((l.take m).map zq++[.tuple [.str l[k].1,.list []]]++(l.drop m).map zq))) (.fz (.int (m:Nat))) y11 y12)):=by
  refine vF ?_;have x:(d2 kIx (d2 kIx (dVr 1) (dV 7)) (dC (.int 0))) (T9 ns l a b (.fz (.int c)) (.fz (.int (k:Nat))) y8 y9 (.fz (.int (m:Nat))) y11 y12)=some (.str l[k].1):=by
   show((kIx (.list (l.map zq)) (.int (k:Int))).bind λz=>kIx z (.int 0))=_
   rw[e2];rfl
  generalize (d2 kIx (d2 kIx (dVr 1) (dV 7)) (dC (.int 0)))=g at*;have y:(zC (za (zx (za g (za (zC zb) zb))) zb)) (T9 ns l a b (.fz (.int c)) (.fz (.int (k:Nat))) y8 y9 (.fz (.int (m:Nat))) y11 y12)=some (.list [.tuple [.str l[k].1,.list []]]):=by
   simp only[zC,za,zx];rw[x];rfl
  generalize (zC (za (zx (za g (za (zC zb) zb))) zb))=g2 at*;unfold d2;rw[y];exact cat3 hl (by omega)
 rw[yO s1,yO s2];refine⟨T9 ns l a b (.fz (.int c)) (.fz (.int (k:Nat))) y8 (.fz (.list ((l.take m).map zq++[.tuple [.str l[k].1,.list []]]++(l.drop m).map zq))) (.fz (.int (m:Nat))) y11 y12,?_⟩;show((xy [(.list ((l.take m).map zq++[.tuple [.str l[k].1,.list []]]++(l.drop m).map zq))]).bind λd=>some (Ou.rt d (T9 ns l a b (.fz (.int c)) (.fz (.int (k:Nat))) y8 (.fz (.list ((l.take m).map zq++[.tuple [.str l[k].1,.list []]]++(l.drop m).map zq))) (.fz (.int (m:Nat))) y11 y12)))=_;rw[ref_B hl (UM.mpr ⟨l[k],EC hk,rfl⟩)];rfl
def v4B(hc:c.fmod 4≠1):lr4 (T9 ns l a b (.fz (.int c)) y7 y8 y9 y10 y11 y12)=some (.nx (T9 ns l a b (.fz (.int c)) y7 y8 y9 y10 y11 y12)):=by
 have q:=vc (ns:=ns) (l:=l) (a:=a) (b:=b) (c:=c) (y7:=y7) (y8:=y8) (y9:=y9) (y10:=y10) (y11:=y11) (y12:=y12) 1;rw[decide_eq_false hc] at q;unfold lr4;rw[if_f q];rfl
def v5:lr5 (T9 ns l a b y6 y7 y8 y9 y10 y11 y12)=some (.nx (T9 ns l a b y6 y7 y8 (.ow false 1 (.list (l.map zq))) y10 y11 y12)):=vF rfl
theorem v6(N:Nms n l)(h1:1<=n)(h6:n<=6):lr6 (T9 ns l a b y6 y7 y8 (.ow false 1 (.list (l.map zq))) y10 y11 y12)=some (.nx (T9 ns l a b y6 y7 y8 (.fz (.list (l.map zq))) y10 (.fz (.tuple [SS (yt l),.list []])) y12)):=by
 have hr:=ev_sF l (λz=>by have:=N.len;rw[z] at this;simp at this;omega) (by rw[N.len];exact h6)
 unfold R at hr;obtain⟨t,q1,hr⟩:=kA.mp hr;obtain⟨x,q2,hr⟩:=kA.mp hr;obtain⟨y,q3,hr⟩:=kA.mp hr;obtain⟨z,q4,hr⟩:=kA.mp hr;have e1:wS [.un,.fz (.list (l.map zq)),.un]=some (.list ((l.map (·.1)).map .str)):=by
  rw[jN,WS,jJ]
 have e2:=zck (l.map (·.1)) N.nd (by rw[kL,N.len];omega)
 have e3:wj (.list (l.map zq))=some [x,y,z]:=by
  unfold wj;rw[e1,pC,e2,pC,q1,pC,q2,pC,q3,pC,q4];rfl
 have e4:(vI ["places","layers","uprights"] wj (dV 9)) (T9 ns l a b y6 y7 y8 (.fz (.list (l.map zq))) y10 y11 y12)=some (.ins K3 [x,y,z]):=by
  show(wj (.list (l.map zq))).bind _=_
  rw[e3];rfl
 show zy 11 (jf "found" vB (vI ["places","layers","uprights"] wj (dV 9)) (za (zx (za (dC (.int 1)) (za (dC (.int 1)) (za (dC (.int 1)) zb)))) zb)) (T9 ns l a b y6 y7 y8 (.fz (.list (l.map zq))) y10 y11 y12)=_
 refine wL ?_;generalize (vI ["places","layers","uprights"] wj (dV 9))=g at*;unfold jf;rw[e4];show(if("found":Str)∈K3 then none else vB [.ins K3 [x,y,z],pD 1 1])=_;rw[if_neg (by decide)]
 exact hr
def nets{b:Bool}:(kNe (xQ b) (.list []))=some (.bool b):=by cases b<;>kernel_rfl
theorem v7(hl:l.length<=6):lr7 (T9 ns l a b y6 y7 y8 y9 y10 y11 y12)=some (.nx (T9 ns l a b y6 y7 y8 y9 y10 y11 (.ow false 1 (SS (yt l))))):=by
 refine vF ?_;have q:(zI 2 [] (iL (dVr 1)) (gT 2 (gsC (gN 0) (gsC (gN 1) gs0))) (dB (d2 kNe (dV 1) (zC zb))) (dV 0)) (T9 ns l a b y6 y7 y8 y9 y10 y11 y12)=some (.list ((yt l).map .str)):=by
  unfold zI;show((yV _ (l.map zq)).bind _)=_;rw[W0 (e:=zq) (h:=λp=>Dt.str p.1) (c:=(·.2)) λp _=>?_]
  ·unfold yt;rw[uP];rfl
  ·show(((kNe (xQ p.2) (.list [])).bind asB).bind λb=>if b=true then some (some (Dt.str p.1)) else some none)=_
   rw[nets]
   cases p.2<;>rfl
 generalize (zI 2 [] (iL (dVr 1)) (gT 2 (gsC (gN 0) (gsC (gN 1) gs0))) (dB (d2 kNe (dV 1) (zC zb))) (dV 0))=g at*;unfold dCl za;rw[q];show((yr qE ((yt l).map .str)).bind λns=>if ns.length<64 then some (Dt.list ((xW ns).map .str)) else none)=_;have m:∀ts:List Str,yr qE (ts.map .str)=some ts:=λts=>by
  induction ts with
  |nil=>rfl
  |cons t ts ih=>rw[kY,yr,ih];rfl
 rw[m,pC,if_pos]
 ·rfl
 ·unfold yt;rw[kL];exact DG (List.length_filter_le _ _) (by omega)
def v8(h:∀p∈l,yv p.1=true):∃ρ,lr8 (T9 ns l a b y6 y7 y8 (.fz (.list (l.map zq))) y10 (.fz (.tuple [SS (yt l),.list []])) (.ow false 1 (SS (yt l))))=some (.rt (.bool true) ρ):=by
 refine⟨T9 ns l a b y6 y7 y8 (.fz (.list (l.map zq))) y10 (.fz (.tuple [SS (yt l),.list []])) (.fz (SS (yt l))),?_⟩;have e1:=keq_due (ts:=yt l) λt ht=>by
  obtain⟨p,hp,rfl⟩:=UM.mp ht;exact h p (ES.mp hp).1
 have e2:=zay h;show dRt (vX (d2 kEq (dV 11) (zx (za (dV 12) (za (zC zb) zb)))) (d2 kEq (dV 9) (dVr 1))) (T9 ns l a b y6 y7 y8 (.fz (.list (l.map zq))) y10 (.fz (.tuple [SS (yt l),.list []])) (.fz (SS (yt l))))=_;have x1:(d2 kEq (dV 11) (zx (za (dV 12) (za (zC zb) zb)))) (T9 ns l a b y6 y7 y8 (.fz (.list (l.map zq))) y10 (.fz (.tuple [SS (yt l),.list []])) (.fz (SS (yt l))))=some (.bool true):=e1;have x2:(d2 kEq (dV 9) (dVr 1)) (T9 ns l a b y6 y7 y8 (.fz (.list (l.map zq))) y10 (.fz (.tuple [SS (yt l),.list []])) (.fz (SS (yt l))))=some (.bool true):=e2;generalize (d2 kEq (dV 11) (zx (za (dV 12) (za (zC zb) zb))))=g1 at*;generalize (d2 kEq (dV 9) (dVr 1))=g2 at*;unfold dRt vX dB;rw[x1];show((g2 (T9 ns l a b y6 y7 y8 (.fz (.list (l.map zq))) y10 (.fz (.tuple [SS (yt l),.list []])) (.fz (SS (yt l))))).bind λd=>some (Ou.rt d (T9 ns l a b y6 y7 y8 (.fz (.list (l.map zq))) y10 (.fz (.tuple [SS (yt l),.list []])) (.fz (SS (yt l))))))=_;rw[x2];rfl
end
def ev_law65(ns:List Int):F_law [.scr ns]=some (.bool true):=by
 obtain⟨n,l,a,b,h1,h6,N,e⟩:=w_loop ns;have hF:F_law [.scr ns]=((dSq (dSo 1 (zC zb)) (dSq (yb [2,3] lwI (gN 2) lwB) lwR)) [.fz (.scr ns),.un,.un,.un,.un,.un,.un,.un,.un,.un,.un,.un,.un]).bind wE:=rfl;have s0:dSo 1 (zC zb) [.fz (.scr ns),.un,.un,.un,.un,.un,.un,.un,.un,.un,.un,.un,.un]=some (.nx (S9 ns [] .un .un .un .un)):=vF rfl;rw[hF,yO s0,yO e];have hl:l.length<=6:=by rw[N.len];exact h6
 have hp:0<l.length:=by rw[N.len];exact h1
 show(lwR (T9 ns l a b .un .un .un .un .un .un .un)).bind wE=_
 obtain⟨k,hk,e2⟩:=v2 (ns:=ns) (a:=a) (b:=b) (c:=cel ns 1) (y7:=.un) (y8:=.un) (y9:=.un) (y10:=.un) (y11:=.un) (y12:=.un) hp hl;unfold lwR;rw[yO v1,yO e2]
 by_cases c0:(cel ns 1).fmod 4=0
 ·obtain⟨ρ,e3⟩:=v3A (ns:=ns) (a:=a) (b:=b) (y8:=.un) (y9:=.un) (y10:=.un) (y11:=.un) (y12:=.un) (ub hk) hl c0;rw[sq_rt e3];rfl
 rw[yO (v3B c0)]
 by_cases c1:(cel ns 1).fmod 4=1
 ·obtain⟨ρ,e3⟩:=v4A (ns:=ns) (a:=a) (b:=b) (y8:=.un) (y9:=.un) (y10:=.un) (y11:=.un) (y12:=.un) hk hl c1;rw[sq_rt e3];rfl
 obtain⟨ρ,e8⟩:=v8 (ns:=ns) (l:=l) (a:=a) (b:=b) (y6:=.fz (.int (cel ns 1))) (y7:=.fz (.int (k:Nat))) (y8:=.un) (y10:=.un) N.asc;rw[yO (v4B c1),yO v5,yO (v6 N h1 h6),yO (v7 hl),e8];rfl
end Nu
end Mine
namespace Mine
open PySem L2
variable{H:Hp}
def za8{b:Addr}{pos:Pos}{q:Str}(h:H b=some (.tbl #[])):xm H b pos q:=⟨#[],h,by trivial,.inl rfl⟩
def noL(K:kF):Bool:=K.all λp=>match p.2.cls with|.type s=>s !="list"|_=>true
variable{K:kF}{a:Addr}
theorem noL_at{o:Obj}(h:noL K=true)(e:K.lookup a=some o):o.cls≠.type "list":=by
 induction K with
 |nil=>cases e
 |cons p K ih=>
  obtain⟨b,u⟩:=p;have h':=List.all_cons.symm.trans h;rw[ui] at h';rw[pb] at e
  split at e
  ·cases e;intro z;have:=h'.1;rw[z] at this
   simp at this
  ·exact ih h'.2 e
variable{ns:List Int}{ts:List Addr}
def scr_at(hn:noL K=true)(hO:jH ts H)(hS:SqL K H a (ns.map V.int)):∃o,H a=some (.frz o (.lst (ns.map V.int))):=by
 rcases hS with(h|⟨o,h⟩)|⟨o,_,_,h,c,_⟩
 ·rcases hO.only a with z|⟨o,xs,z⟩|⟨_,z⟩<;>rw[h] at z<;>cases z
 ·exact⟨o,h⟩
 ·exact absurd c (noL_at hn h)
def yF:List Addr->List (Addr×Pos×Str)
 |[p0,p1,p2,p3,p4]=>[(p0,⟨86,34,86,51⟩,Nu.lmq "in_order" xF),(p1,⟨92,30,92,68⟩,Nu.lmq "by_points" xv),(p2,⟨185,52,185,83⟩,Nu.lmq "near_pairs" xE),(p3,⟨264,42,264,80⟩,Nu.lmq "Map.found" xC),(p4,⟨291,31,291,85⟩,Nu.lmq "found_between" xB)]
 |_=>[]
def qi(P:kW)(w:kq)(cA:Addr)(ts:List Addr):Sp:=spD ⟨P,w,yF ts,cA,λ_=>True⟩ Nu.F_law
variable{w:kq}{cA:Addr}
def law_sp{P:kW}(hl:ns.length<=63)(hO:jH ts H)(h:∃o,H a=some (.frz o (.lst (ns.map V.int)))):qi P w cA ts [.ref a] H (λv _=>v=.bl true) λ_ _ _=>False:=by
 obtain⟨o,h⟩:=h;refine⟨λ_=>False,[.scr ns],.bool true,λ_ z=>z.elim,λt m=>?_,?_,Nu.ev_law65 ns,λv H' _ r=>by rw[Rp] at r;exact r⟩
 ·have m':t.1∈ts:=by
   change t∈yF ts at m
   unfold yF at m
   split at m
   ·simp only[kX,pi,or_false] at m⊢;rcases m with rfl|rfl|rfl|rfl|rfl<;>simp
   ·cases m
  exact za8 (hO.tabs _ m')
 ·rw[Rps];refine⟨_,_,rfl,?_,by rw[Rps]⟩
  rw[Rp];exact⟨a,o,rfl,id,h,pd hl (by decide)⟩
def lams_mk{P:kW}{ad ca:Nat->Addr}{p0 p1 p2 p3 p4:Addr}(e01:p0≠p1)(e02:p0≠p2)(e12:p1≠p2)(e03:p0≠p3)(e13:p1≠p3)(e23:p2≠p3)(e04:p0≠p4)(e14:p1≠p4)(e24:p2≠p4)(e34:p3≠p4)(ce:cA=ca 7)(a0:ad 49=p0:=by rfl)(a1:ad 51=p1:=by rfl)(a2:ad 53=p2:=by rfl)(a3:ad 55=p3:=by rfl)(a4:ad 57=p4:=by rfl):Nu.Lams ⟨P,w,yF [p0,p1,p2,p3,p4],cA,λ_=>True⟩ ad P w ca:=by
 refine⟨rfl,rfl,ce,?_,?_,?_,?_,?_⟩
 ·rw[a0];exact⟨by unfold yF;simp,λt m q=>by
   change t∈yF [p0,p1,p2,p3,p4] at m
   unfold yF at m;simp only[kX,pi,or_false] at m;rcases m with rfl|rfl|rfl|rfl|rfl
   ·rfl
   ·exact absurd q.symm e01
   ·exact absurd q.symm e02
   ·exact absurd q.symm e03
   ·exact absurd q.symm e04⟩
 ·rw[a1];exact⟨by unfold yF;simp,λt m q=>by
   change t∈yF [p0,p1,p2,p3,p4] at m
   unfold yF at m;simp only[kX,pi,or_false] at m;rcases m with rfl|rfl|rfl|rfl|rfl
   ·exact absurd q e01
   ·rfl
   ·exact absurd q.symm e12
   ·exact absurd q.symm e13
   ·exact absurd q.symm e14⟩
 ·rw[a2];exact⟨by unfold yF;simp,λt m q=>by
   change t∈yF [p0,p1,p2,p3,p4] at m
   unfold yF at m;simp only[kX,pi,or_false] at m;rcases m with rfl|rfl|rfl|rfl|rfl
   ·exact absurd q e02
   ·exact absurd q e12
   ·rfl
   ·exact absurd q.symm e23
   ·exact absurd q.symm e24⟩
 ·rw[a3];exact⟨by unfold yF;simp,λt m q=>by
   change t∈yF [p0,p1,p2,p3,p4] at m
   unfold yF at m;simp only[kX,pi,or_false] at m;rcases m with rfl|rfl|rfl|rfl|rfl
   ·exact absurd q e03
   ·exact absurd q e13
   ·exact absurd q e23
   ·rfl
   ·exact absurd q.symm e34⟩
 ·rw[a4];exact⟨by unfold yF;simp,λt m q=>by
   change t∈yF [p0,p1,p2,p3,p4] at m
   unfold yF at m;simp only[kX,pi,or_false] at m;rcases m with rfl|rfl|rfl|rfl|rfl
   ·exact absurd q e04
   ·exact absurd q e14
   ·exact absurd q e24
   ·exact absurd q e34
   ·rfl⟩
variable{F:pZ}{ps:List Str}{us:List kC}
theorem ar1(h:us.length=1)(f:∀x0,QW F ⟨[x0],[]⟩=pure (ps.zip [x0])):QW F ⟨us,[]⟩=pure (ps.zip us):=by
 match us,h with
 |[x0],_=>exact f x0
theorem ar2(h:us.length=2)(f:∀x0 x1,QW F ⟨[x0,x1],[]⟩=pure (ps.zip [x0,x1])):QW F ⟨us,[]⟩=pure (ps.zip us):=by
 match us,h with
 |[x0,x1],_=>exact f x0 x1
theorem ar3(h:us.length=3)(f:∀x0 x1 x2,QW F ⟨[x0,x1,x2],[]⟩=pure (ps.zip [x0,x1,x2])):QW F ⟨us,[]⟩=pure (ps.zip us):=by
 match us,h with
 |[x0,x1,x2],_=>exact f x0 x1 x2
variable{tm:List Addr}
def all_mk{l:By}{h:Heap}{mg:Str->Option kC}{fa f0 f1 f2 f3 f4 f5 f6 f7 f8 f9 f10 f11 f12 f13 f14 f15 f16 f17 f18 f19 f20 f21 f22 f23 f24 f25 f26 f27 f28 f29 f30 f31 f32 f33 f34 f35 f36 f37 f38 f39 f40 f41 f42 f43 f44 f45 f46 f47 e0 e1 e2 e3 e4 e5 e6 e7:Addr}{d0 d1 d2 d3 d4 d5 d6 d7 d8 d9 d10 d11 d12 d15 d16 d17 d18 d19 d20 d21 d22 d23 d24 d25 d26 d27 d29 d30 d31 d32 d33 d34 d35 d36 d37 d39 d41 d42 d43 d44 d45 d46 d47:pZ}{odT0 anT0:Option Addr}{slT0:Array (Option kC)}{oT0 kVT0 dcT0 pmT0 ctT0:kC}{tdT0:Option Addr}{tvT0:Array kC}{tsT0:Array (Option kC)}{tcT0:kC}{cT0 pT0:Addr}{odT1 anT1:Option Addr}{slT1:Array (Option kC)}{oT1 kVT1 dcT1 pmT1 ctT1:kC}{tdT1:Option Addr}{tvT1:Array kC}{tsT1:Array (Option kC)}{tcT1:kC}{cT1 pT1:Addr}{odT2 anT2:Option Addr}{slT2:Array (Option kC)}{oT2 kVT2 dcT2 pmT2 ctT2:kC}{tdT2:Option Addr}{tvT2:Array kC}{tsT2:Array (Option kC)}{tcT2:kC}{cT2 pT2:Addr}{odT3 anT3:Option Addr}{slT3:Array (Option kC)}{oT3 kVT3 dcT3 pmT3 ctT3:kC}{tdT3:Option Addr}{tvT3:Array kC}{tsT3:Array (Option kC)}{tcT3:kC}{cT3 pT3:Addr}{odT4 anT4:Option Addr}{slT4:Array (Option kC)}{oT4 kVT4 dcT4 pmT4 ctT4:kC}{tdT4:Option Addr}{tvT4:Array kC}{tsT4:Array (Option kC)}{tcT4:kC}{cT4 pT4:Addr}(X:K.In h)(G:h.Ns km mg)(hfa:mg "law"=some (.ref fa))
  (x_AcreError:pO K km "AcreError"=some (some (.ref e0)))
  (x_NoNumber:pO K km "NoNumber"=some (some (.ref e1)))
  (x_NoPoint:pO K km "NoPoint"=some (some (.ref e2)))
  (x_NoStretch:pO K km "NoStretch"=some (some (.ref e3)))
  (x_NoName:pO K km "NoName"=some (some (.ref e4)))
  (x_NoText:pO K km "NoText"=some (some (.ref e5)))
  (x_NoRow:pO K km "NoRow"=some (some (.ref e6)))
  (x_Map:pO K km "Map"=some (some (.ref e7)))
  (cl_pg:hU K e7 Str.empty=true)
  (cl_hd:gc K e7=true)
  (cl_po:BB K e7=true)
  (cl_sa:pY K (.ref e7) "__setattr__"=some (some (.builtin "object.__setattr__")))
  (mk_makes:Bt K e7=true)
  (mk_init:pY K (.ref e7) "__init__"=some (some (.ref f37)))
  (mk_fn:AZ K (.ref f37)=true)
  (mk_kp:uf K (.ref e7)=true)
  (me_found_at:pY K (.ref e7) "found"=some (some (.ref f38)))
  (me_found_fn:AZ K (.ref f38)=true)
  (me_found_kp:uf K (.ref f38)=true)
  (na_places:pY K (.ref e7) "places"=some none)
  (na_layers:pY K (.ref e7) "layers"=some none)
  (na_uprights:pY K (.ref e7) "uprights"=some none)
  (xc_NoName:BH K e4 [.type "ValueError",.type "Exception",.type "BaseException",.type "object"] "ValueError.__new__"=true)
  (xi_NoName_ga:pY K (.ref e4) "__getattribute__"=some (some (.builtin "BaseException.__getattribute__")))
  (xi_NoName_gn:pY K (.ref e4) "__getattr__"=some none)
  (xi_NoName_cl:pY K (.ref e4) "__class__"=some (some (.builtin "object.__class__")))
  (xi_NoName_get:DU K (.builtin "object.__class__") "__get__"=some (some (.builtin "getset_descriptor.__get__")))
  (xi_NoName_tk:ET K (.builtin "object.__class__")=some true)
  (xi_NoName_ob:AF K e4 (.type "object")=some true)
  (xi_NoName_be:AF K e4 (.type "BaseException")=some true)
  (is_NoName_AcreError:gf K (.ref e4) (.ref e0)=some true)
  (is_NoName_ValueError:gf K (.ref e4) (.type "ValueError")=some true)
  (ex_NoName_NoNumber:uV K (.ref e4) (.ref e1)=some false)
  (ex_NoName_NoPoint:uV K (.ref e4) (.ref e2)=some false)
  (ex_NoName_NoRow:uV K (.ref e4) (.ref e6)=some false)
  (ex_NoName_NoStretch:uV K (.ref e4) (.ref e3)=some false)
  (ex_NoName_NoText:uV K (.ref e4) (.ref e5)=some false)
  (ex_NoName_NoName:uV K (.ref e4) (.ref e4)=some true)
  (h0:Fd K "is_whole" XF f0 d0)
  (h1:Fd K "divisor" Y9 f1 d1)
  (h2:Fd K "fraction" Wm f2 d2)
  (h3:Fd K "under" XZ f3 d3)
  (h4:Fd K "point" Yu f4 d4)
  (h5:Fd K "across" Ym f5 d5)
  (h6:Fd K "before" YN f6 d6)
  (h7:Fd K "sign_of" XO f7 d7)
  (h8:Fd K "line_of" X2 f8 d8)
  (h9:Fd K "side_of" Y4 f9 d9)
  (h10:Fd K "turn" Wf f10 d10)
  (h11:Fd K "met" YD f11 d11)
  (h12:Fd K "order_keys" Xf f12 d12)
  (a13:pO K km "in_order"=some (some (.ref f13)))
  (l13:K.lookup f13=some ⟨oT0,odT0,.func (uG "in_order" "in_order" (yJ xF) (ya xF) (zo xF) .none kVT0 dcT0 pmT0 anT0 (.ref cT0) ctT0),slT0⟩)
  (c13:QP K (.ref cT0) "in_order"=true)
  (k13:uf K (.ref f13)=true)
  (lT0:K.lookup cT0=some ⟨tcT0,tdT0,.fields tvT0,tsT0⟩)
  (vT0:tvT0[11]?=some (.ref pT0))
  (hT0:Qa K cT0 pT0=true)
  (tT0:Um K "in_order"=some (cT0,pT0))
  (nT0:K.lookup pT0=none)
  (a14:pO K km "by_points"=some (some (.ref f14)))
  (l14:K.lookup f14=some ⟨oT1,odT1,.func (uG "by_points" "by_points" (yJ xv) (ya xv) (zo xv) .none kVT1 dcT1 pmT1 anT1 (.ref cT1) ctT1),slT1⟩)
  (c14:QP K (.ref cT1) "by_points"=true)
  (k14:uf K (.ref f14)=true)
  (lT1:K.lookup cT1=some ⟨tcT1,tdT1,.fields tvT1,tsT1⟩)
  (vT1:tvT1[11]?=some (.ref pT1))
  (hT1:Qa K cT1 pT1=true)
  (tT1:Um K "by_points"=some (cT1,pT1))
  (nT1:K.lookup pT1=none)
  (h15:Fd K "halved" YE f15 d15)
  (h16:Fd K "numbers_of" Xy f16 d16)
  (h17:Fd K "stretch" Yx f17 d17)
  (h18:Fd K "stretches_of" Yo f18 d18)
  (h19:Fd K "ends_of" X6 f19 d19)
  (h20:Fd K "meet" YO f20 d20)
  (h21:Fd K "meet_on_line" XD f21 d21)
  (h22:Fd K "is_upright" XW f22 d22)
  (h23:Fd K "stops" Yl f23 d23)
  (h24:Fd K "stop_at" Xq f24 d24)
  (h25:Fd K "lying_at" Y2 f25 d25)
  (h26:Fd K "note" YL f26 d26)
  (h27:Fd K "shared_ends" Xa f27 d27)
  (a28:pO K km "near_pairs"=some (some (.ref f28)))
  (l28:K.lookup f28=some ⟨oT2,odT2,.func (uG "near_pairs" "near_pairs" (yJ xE) (ya xE) (zo xE) .none kVT2 dcT2 pmT2 anT2 (.ref cT2) ctT2),slT2⟩)
  (c28:QP K (.ref cT2) "near_pairs"=true)
  (k28:uf K (.ref f28)=true)
  (lT2:K.lookup cT2=some ⟨tcT2,tdT2,.fields tvT2,tsT2⟩)
  (vT2:tvT2[11]?=some (.ref pT2))
  (hT2:Qa K cT2 pT2=true)
  (tT2:Um K "near_pairs"=some (cT2,pT2))
  (nT2:K.lookup pT2=none)
  (h29:Fd K "pieces" Wj f29 d29)
  (h30:Fd K "slabs" qW f30 d30)
  (h31:Fd K "places_of" XA f31 d31)
  (h32:Fd K "layers_of" Y0 f32 d32)
  (h33:Fd K "marks_along" XY f33 d33)
  (h34:Fd K "layer_told" Ws f34 d34)
  (h35:Fd K "named" Y1 f35 d35)
  (h36:Fd K "uprights_of" X9 f36 d36)
  (h37:Fun K "__init__" "Map.__init__" YM f37 d37)
  (l38:K.lookup f38=some ⟨oT3,odT3,.func (uG "found" "Map.found" (yJ xC) (ya xC) (zo xC) .none kVT3 dcT3 pmT3 anT3 (.ref cT3) ctT3),slT3⟩)
  (c38:QP K (.ref cT3) "Map.found"=true)
  (k38:uf K (.ref f38)=true)
  (lT3:K.lookup cT3=some ⟨tcT3,tdT3,.fields tvT3,tsT3⟩)
  (vT3:tvT3[11]?=some (.ref pT3))
  (hT3:Qa K cT3 pT3=true)
  (mT3:pT3∈tm)
  (nT3:K.lookup pT3=none)
  (h39:Fd K "check_names" YU f39 d39)
  (a40:pO K km "found_between"=some (some (.ref f40)))
  (l40:K.lookup f40=some ⟨oT4,odT4,.func (uG "found_between" "found_between" (yJ xB) (ya xB) (zo xB) .none kVT4 dcT4 pmT4 anT4 (.ref cT4) ctT4),slT4⟩)
  (c40:QP K (.ref cT4) "found_between"=true)
  (k40:uf K (.ref f40)=true)
  (lT4:K.lookup cT4=some ⟨tcT4,tdT4,.fields tvT4,tsT4⟩)
  (vT4:tvT4[11]?=some (.ref pT4))
  (hT4:Qa K cT4 pT4=true)
  (tT4:Um K "found_between"=some (cT4,pT4))
  (nT4:K.lookup pT4=none)
  (h41:Fd K "over_names" Xc f41 d41)
  (h42:Fd K "each_once" V9 f42 d42)
  (h43:Fd K "without" VQ f43 d43)
  (h44:Fd K "_law_cell_at" Y8 f44 d44)
  (h45:Fd K "_law_name" XX f45 d45)
  (h46:Fd K "_law_refused" X0 f46 d46)
  (h47:Fd K "law" XE f47 d47)
  (eT01:pT0≠pT1)
  (eT02:pT0≠pT2)
  (eT12:pT1≠pT2)
  (eT03:pT0≠pT3)
  (eT13:pT1≠pT3)
  (eT23:pT2≠pT3)
  (eT04:pT0≠pT4)
  (eT14:pT1≠pT4)
  (eT24:pT2≠pT4)
  (eT34:pT3≠pT4)
  (z0:pO K km "ValueError"=some none)
  (z1:pO K km "abs"=some none)
  (z2:pO K km "bool"=some none)
  (z3:pO K km "enumerate"=some none)
  (z4:pO K km "int"=some none)
  (z5:pO K km "isinstance"=some none)
  (z6:pO K km "len"=some none)
  (z7:pO K km "list"=some none)
  (z8:pO K km "max"=some none)
  (z9:pO K km "min"=some none)
  (z10:pO K km "range"=some none)
  (z11:pO K km "reversed"=some none)
  (z12:pO K km "sorted"=some none)
  (z13:pO K km "str"=some none)
  (z14:pO K km "zip"=some none)(hcA:e7=cA):
  ∃(fd:pZ)(ts:List Addr),(∀b,b∈ts->K.lookup b=none/\((∃y c,y∈([kx "in_order",kx "by_points",kx "near_pairs",kx "found_between"]:List Str)/\Um K y=some (c,b))∨(b∈tm/\∃c,Qa K c b=true)))/\(∀(s:kE)(v:kC),Cf s fd ⟨[v],[]⟩ [("_law_script",v)])/\∀base:Heap,K.In base->base.Ns km mg->(∀b,b∈ts->base.BuiltinsAt mg b)->zw l.prog w K mg base CX0 14 fa fd ["_law_script"] (qi l.prog w cA ts):=by
 subst hcA
 cases hfa.symm.trans (Qf X G h47.1);have FC13:xi K "in_order" "in_order" xF f13 _ cT0 pT0:=⟨⟨_,_,_,_,_,_,_,_,rfl,l13,c13⟩,hT0⟩;have FC14:xi K "by_points" "by_points" xv f14 _ cT1 pT1:=⟨⟨_,_,_,_,_,_,_,_,rfl,l14,c14⟩,hT1⟩;have FC28:xi K "near_pairs" "near_pairs" xE f28 _ cT2 pT2:=⟨⟨_,_,_,_,_,_,_,_,rfl,l28,c28⟩,hT2⟩;have FC38:xi K "found" "Map.found" xC f38 _ cT3 pT3:=⟨⟨_,_,_,_,_,_,_,_,rfl,l38,c38⟩,hT3⟩;have FC40:xi K "found_between" "found_between" xB f40 _ cT4 pT4:=⟨⟨_,_,_,_,_,_,_,_,rfl,l40,c40⟩,hT4⟩;have T:Txt K mg (λn=>[f0,f1,f2,f3,f4,f5,f6,f7,f8,f9,f10,f11,f12,f13,f14,f15,f16,f17,f18,f19,f20,f21,f22,f23,f24,f25,f26,f27,f28,f29,f30,f31,f32,f33,f34,f35,f36,f37,f38,f39,f40,f41,f42,f43,f44,f45,f46,fa,cT0,pT0,cT1,pT1,cT2,pT2,cT3,pT3,cT4,pT4].getD n 0) (λn=>[d0,d1,d2,d3,d4,d5,d6,d7,d8,d9,d10,d11,d12,uG "in_order" "in_order" (yJ xF) (ya xF) (zo xF) .none kVT0 dcT0 pmT0 anT0 (.ref cT0) ctT0,uG "by_points" "by_points" (yJ xv) (ya xv) (zo xv) .none kVT1 dcT1 pmT1 anT1 (.ref cT1) ctT1,d15,d16,d17,d18,d19,d20,d21,d22,d23,d24,d25,d26,d27,uG "near_pairs" "near_pairs" (yJ xE) (ya xE) (zo xE) .none kVT2 dcT2 pmT2 anT2 (.ref cT2) ctT2,d29,d30,d31,d32,d33,d34,d35,d36,d37,uG "found" "Map.found" (yJ xC) (ya xC) (zo xC) .none kVT3 dcT3 pmT3 anT3 (.ref cT3) ctT3,d39,uG "found_between" "found_between" (yJ xB) (ya xB) (zo xB) .none kVT4 dcT4 pmT4 anT4 (.ref cT4) ctT4,d41,d42,d43,d44,d45,d46,d47].getD n d47) (λn=>[e0,e1,e2,e3,e4,e5,e6,e7].getD n 0):=by
  refine⟨h0.at X G ?_,h1.at X G ?_,h2.at X G ?_,h3.at X G ?_,h4.at X G ?_,h5.at X G ?_,h6.at X G ?_,h7.at X G ?_,h8.at X G ?_,h9.at X G ?_,h10.at X G ?_,h11.at X G ?_,h12.at X G ?_,(Fd.at ⟨a13,fun_mk l13 c13 k13⟩ X G ?_),FC13,(Fd.at ⟨a14,fun_mk l14 c14 k14⟩ X G ?_),FC14,h15.at X G ?_,h16.at X G ?_,h17.at X G ?_,h18.at X G ?_,h19.at X G ?_,h20.at X G ?_,h21.at X G ?_,h22.at X G ?_,h23.at X G ?_,h24.at X G ?_,h25.at X G ?_,h26.at X G ?_,h27.at X G ?_,(Fd.at ⟨a28,fun_mk l28 c28 k28⟩ X G ?_),FC28,h29.at X G ?_,h30.at X G ?_,h31.at X G ?_,h32.at X G ?_,h33.at X G ?_,h34.at X G ?_,h35.at X G ?_,h36.at X G ?_,⟨h37,Fun.binds h37 ?_⟩,⟨fun_mk l38 c38 k38,Fun.binds (fun_mk l38 c38 k38) ?_⟩,FC38,h39.at X G ?_,(Fd.at ⟨a40,fun_mk l40 c40 k40⟩ X G ?_),FC40,h41.at X G ?_,h42.at X G ?_,h43.at X G ?_,h44.at X G ?_,h45.at X G ?_,h46.at X G ?_,h47.at X G ?_,eT01,eT02,eT12,eT03,eT13,eT23,eT04,eT14,eT24,eT34,pf X G z0,pf X G z1,pf X G z2,pf X G z3,pf X G z4,pf X G z5,pf X G z6,pf X G z7,pf X G z8,pf X G z9,pf X G z10,pf X G z11,pf X G z12,pf X G z13,pf X G z14,Qf X G x_AcreError,Qf X G x_NoNumber,Qf X G x_NoPoint,Qf X G x_NoStretch,Qf X G x_NoName,Qf X G x_NoText,Qf X G x_NoRow,Qf X G x_Map,⟨xc_NoName⟩,⟨xi_NoName_ga,xi_NoName_gn,xi_NoName_cl,xi_NoName_get,xi_NoName_tk,xi_NoName_ob,xi_NoName_be⟩,is_NoName_AcreError,is_NoName_ValueError,ex_NoName_NoNumber,ex_NoName_NoPoint,ex_NoName_NoRow,ex_NoName_NoStretch,ex_NoName_NoText,ex_NoName_NoName,⟨cl_pg,cl_hd,cl_po,cl_sa⟩,⟨mk_makes,mk_init,mk_fn,mk_kp⟩,⟨me_found_at,me_found_fn,me_found_kp⟩,na_places,na_layers,na_uprights⟩
  all_goals
   intro _ _ _ _ _ _ us hl
   first|exact ar1 hl λ_=>rfl|exact ar2 hl λ_ _=>rfl|exact ar3 hl λ_ _ _=>rfl
 refine⟨_,[pT0,pT1,pT2,pT3,pT4],λb hb=>?_,?bnd,λbase hK _ hB=>Nu.ok_law T hK hB (lams_mk eT01 eT02 eT12 eT03 eT13 eT23 eT04 eT14 eT24 eT34 rfl)⟩;simp only[kX,pi,or_false] at hb;rcases hb with rfl|rfl|rfl|rfl|rfl
 ·exact⟨nT0,.inl ⟨_,cT0,by simp,tT0⟩⟩
 ·exact⟨nT1,.inl ⟨_,cT1,by simp,tT1⟩⟩
 ·exact⟨nT2,.inl ⟨_,cT2,by simp,tT2⟩⟩
 ·exact⟨nT3,.inr ⟨mT3,cT3,hT3⟩⟩
 ·exact⟨nT4,.inl ⟨_,cT4,by simp,tT4⟩⟩
 obtain⟨_,⟨⟨oc,od,kV,doc,pm,an,cdv,ct,osl,e,_⟩,_⟩⟩:=h47;subst e;exact λs v=>.of_eq rfl
def walk{l:By}{q:kW}{loose:List Str}{XP:(Str->Option kC)->Heap->Prop}{YP:kq->Heap->Prop}{d:DefRec}{K:Params->kF}(hn:l.most=some 63)(hdf:d.params.defaults=[])(hNL:∀P,noL (K P)=true)
  (hY:∀(w:kq)(h:Heap),YP w h->(K w.params).In h)(hYt:∀(w:kq)(h:Heap),YP w h->∀b∈tm,h.get? b=some (CT #[]))(hD:∀y,y∈([kx "in_order",kx "by_points",kx "near_pairs",kx "found_between"]:List Str)->∃e,(PyProof.Rows.recsOf q).find? (λe=>e.name==y)=some e)
  (F:∀(w:kq)(mg:Str->Option kC)(fa:Addr)(h:Heap),(K w.params).In h->h.Ns km mg->mg d.name=some (.ref fa)->∃(fd:pZ)(ts:List Addr),(∀b,b∈ts->(K w.params).lookup b=none/\((∃y c,y∈([kx "in_order",kx "by_points",kx "near_pairs",kx "found_between"]:List Str)/\Um (K w.params) y=some (c,b))∨(b∈tm/\∃c,Qa (K w.params) c b=true)))/\(∀(s:kE)(v:kC),Cf s fd ⟨[v],[]⟩ [("_law_script",v)])/\∀base:Heap,(K w.params).In base->base.Ns km mg->(∀b,b∈ts->base.BuiltinsAt mg b)->zw l.prog w (K w.params) mg base CX0 14 fa fd ["_law_script"] (qi l.prog w cA ts)):
  FE q loose XP YP l.row.toRowW d [] (λf vs=>El f vs):=
 L2.walk_ofT2 (n:=63) (k:=14) (x:="_law_script") (CX:=λ_=>CX0) (sp:=λw ts=>qi l.prog w cA ts) (ds:=[kx "in_order",kx "by_points",kx "near_pairs",kx "found_between"]) (tm:=tm) hn (by decide) hdf ⟨rfl,by decide,by decide⟩ hY hYt hD F (λw H a ns ts hl hO hS=>law_sp hl hO (scr_at (hNL w.params) hO hS)) λ_ _ _ _ _ z=>z
end Mine
set_option genInjectivity false
set_option genSizeOf false
structure PySem.W.Fast:Prop where(tw14632461754536406594 tw13987363405819699458 tw13394469957919146963 tw2009310016681674263 tw1695847214237420290 tw3514106480590980648 tw9350370858168360628 tw15142168024002705272 tw14885897251537399111 tw13978286877433690626 tw13776582236571120824 tw16169716538039398725 tw7449748979532688633 tw14666650434704505692 tw16848047014450028530 tw10696856242897989697 tw13321448509230287166 tw11073940547139625780 tw1052219130066109392 tw4655129551331538356 tw9288676801887159045 tw2925523389242288774 tw17384844201353161314 tw10266693865923097510 tw6374796063621139733 tw2118631399083374153 tw2224824959233313446 tw10466174817481575831 tw7561716624805057982 tw16049642848243234993 tw11767553051558947714 tw1658487810167118601 tw6807996287427124765 tw13696655971317781899 tw15166141313986356780 tw17505965239277560500 tw10416486393804398743 tw1427187458290796827 tw15372843107625206569 tw4267167276517850595 tw2025738747483011476 tw669162067567465533 tw17066980356050933057 tw5678662861601827253 tw16115743361589129271 tw11883963878278325969 tw1948650842506988924 tw1785070483512861896 tw9592166921468995590 tw1812621308628780193 tw11993591870300868439 tw16746653008159395055 tw17053146143679241256 tw4229623783505700922 tw13544085056676673149 tw12226751860170711993 tw16632247494110575044 tw16889269289894816150 tw148485399211521278 tw14731773699461887651 tw3303269873448303288 tw4845697765924959281 tw8160375496817061655 tw17506831361123297084 tw548180299281227993 tw16447070583249204960 tw5892528626921455703 tw12429536626187698872 tw5729472709609862864 tw16177100682914952115 tw2037680284016661878 tw461921135314362392 tw6584828757777975898 tw1724112696173035834 tw8713031928925045760 tw201943089103240673 tw91134202525119277 tw2002001077135279351 tw11986588077455241177 tw11402141252797778338 tw17184694934820023287 tw2623745820877276932 tw3776313679849274941 tw4945593316295251491 tw6296403855994713034 tw5522552633678244508 tw5646477514422238796 tw1342967845127544658 tw7873462773086336710 tw15279778008220566433 tw13931857276808302749 tw15386725490106052377 tw14267180610728447542 tw933663262333470439 tw603880343158160865 tw7482456263976724963 tw11589235210638128572 tw7538461866648001244 tw7301122696499564220 tw16739952016278183788 tw17660040421403140751 tw6585978118260313659 tw11856469301195253714 tw15908789473010684613 tw9221394472104453894 tw8916938007840682977 tw4121514744811032936 tw2402184077993289514 tw1699247622005265794 tw9893791534096568510 tw2989450801449535328 tw6351981051791247040 tw10994574270618231347 tw11705348999716338648 tw15184801978414957012 tw17989172945704976108 tw306919910387317994 tw7953274148199043649 tw3789448386615317138 tw7608606841594774688 tw10585496837509101520 tw12695192811264586174 tw5295297984301997975 tw13540172555828488716 tw2224159333272630732 tw4559661529280078657 tw13867733043505570624 tw1518894338965713768 tw2383431132580603684 tw18044640842244064084 tw17300998228551747677 tw6830242035081476011 tw13306785089935169575 tw14528888796981417725 tw3555218496863991350 tw12864876508444521671 tw5174158086913360337 tw14308243407937255420 tw18427534506908997888 tw13442439128555046522 tw7765765736064185881 tw11948324715449279583 tw3201123799994567564 tw16806808642306345240 tw7200868874488630176 tw10101056859060623568 tw6395795171683343516 tw12797658092113104830 tw7074954665094266312 tw2163880587063392903 tw2427026173919997052 tw980729273046450198 tw15512604633149203177 tw7248164424524230897 tw4858854575339323296 tw11961878260795589398 tw17880489809292084164 tw11562816065755693362 tw4384576820397019161 tw10247857034413043484 tw11195810431911639217 tw1569509265775558238 tw15991782584205823068 tw18167731315537193806 tw16100138750970896413 tw9392283253955256710 tw10616004923273517028 tw3601134698385030688 tw14421667901030957440 tw11672883850657344964 tw6556813645234362819 tw8962273917344303010 tw9451388950183422895 tw13773511291103265508 tw13136434148037169355 tw15892796648277886454 tw9017773298396262397 tw296960877587232224 tw9650467065806279946 tw13798317046840668881 tw12609523481287063593 tw9186294768801729695 tw18211351524737012814 tw10412795214138173272 tw13221307713928329072 tw18164432199705281434 tw4194798391268194265 tw14455057256796621554 tw9954051451127296833 tw4012192938792155966 tw13949846631148057559 tw5477536721531677646 tw7698417434609076342 tw18068016479754819408 tw15567537447642942112 tw11653398566185323735 tw2378301575625435887 tw5845391433323460847 tw12629997366974047311 tw4340586399333299933 tw17610946173919959363 tw13826242829646012625 tw12007127399925568536 tw7058901371467172381 tw1562342294961001701 tw10410385359982445878 tw5074581751930980307 tw15844896714053790606 tw7160150335775794461 tw9283921975631558956 tw7583070663396598929 tw2553771603059337617 tw14260988645388400726 tw4817066835658960945 tw4065038318327990034 tw10340904487098946151 tw10044468375709546702 tw14631094919697075714 tw7274035413632688609 tw4298965949363179256 tw5757008774955143300 tw1458347609175626556 tw11882779269580945461 tw3825443524292664696 tw14278722333893829099 tw11111247517579762813 tw13726134548215328563 tw3492259987166197497 tw12126132962488266417 tw745151955949386702 tw10716525576949181948 tw17744190228629358880 tw1125413010361422587 tw3921096137591362712 tw2789082187993875834 tw4748727189920734345 tw674425669443468671 tw18299179426989703085 tw15403794613824448611 tw2327915700302944835 tw9577699302224040654 tw2185950993659049757 tw11640115151738082072 tw12655762893027260604 tw13883758758868765559 tw5417598778461840777 tw4904090175729474307 tw12462170681626025330 tw8254047791241443691 tw17924353078582395046 tw6645510886107792375 tw13731368154733804492 tw16599441135221430319 tw11683304561387525477 tw12086263146748272173 tw10807226534174444896 tw15183316261021273265 tw10562341773215581727 tw344542452686909124 tw11415391082683752517 tw14647256483906234770 tw9689915992047175273 tw2777384878398089557 tw16165669158632461160 tw708368792921044147 tw13704048710205190039 tw8337981236976415852 tw3251330935482134732 tw13878151499607625601 tw4736639960057718279 tw5149750737968394331 tw1992662557613413905 tw11009641149619739183:True)
open PySem PySem.W PyProof.Rows
set_option maxRecDepth 100000 in
set_option maxHeartbeats 0 in
theorem PySem.Challenge.cw_acre_k65_no_name_holds : PySem.Challenge.rw_acre_k65_no_name.Holds := by
 w_on;o_law;k_head;(case hw=>w_witness2)
 k_fill
 refine' Mine.walk (l:=PySem.Challenge.rw_acre_k65_no_name) rfl rfl (λP=>by kernel_rfl) (λw h Y=>PySem.W.km_in_of Y) (λw h Y=>PySem.W.km_tabs_of Y) (λy hy=>by simp only[kX,pi,or_false] at hy;rcases hy with rfl|rfl|rfl|rfl<;>exact⟨_,rfl⟩) ?F
 case F=>
  intro w mg fa h KX G hmg
  refine' Mine.all_mk KX G hmg ?x_AcreError ?x_NoNumber ?x_NoPoint ?x_NoStretch ?x_NoName ?x_NoText ?x_NoRow ?x_Map ?cl_pg ?cl_hd ?cl_po ?cl_sa ?mk_makes ?mk_init ?mk_fn ?mk_kp ?me_found_at ?me_found_fn ?me_found_kp ?na_places ?na_layers ?na_uprights ?xc_NoName ?xi_NoName_ga ?xi_NoName_gn ?xi_NoName_cl ?xi_NoName_get ?xi_NoName_tk ?xi_NoName_ob ?xi_NoName_be ?is_NoName_AcreError ?is_NoName_ValueError ?ex_NoName_NoNumber ?ex_NoName_NoPoint ?ex_NoName_NoRow ?ex_NoName_NoStretch ?ex_NoName_NoText ?ex_NoName_NoName ?h0 ?h1 ?h2 ?h3 ?h4 ?h5 ?h6 ?h7 ?h8 ?h9 ?h10 ?h11 ?h12 ?a13 ?l13 ?c13 ?k13 ?lT0 ?vT0 ?hT0 ?tT0 ?nT0 ?a14 ?l14 ?c14 ?k14 ?lT1 ?vT1 ?hT1 ?tT1 ?nT1 ?h15 ?h16 ?h17 ?h18 ?h19 ?h20 ?h21 ?h22 ?h23 ?h24 ?h25 ?h26 ?h27 ?a28 ?l28 ?c28 ?k28 ?lT2 ?vT2 ?hT2 ?tT2 ?nT2 ?h29 ?h30 ?h31 ?h32 ?h33 ?h34 ?h35 ?h36 ?h37 ?l38 ?c38 ?k38 ?lT3 ?vT3 ?hT3 ?mT3 ?nT3 ?h39 ?a40 ?l40 ?c40 ?k40 ?lT4 ?vT4 ?hT4 ?tT4 ?nT4 ?h41 ?h42 ?h43 ?h44 ?h45 ?h46 ?h47 ?eT01 ?eT02 ?eT12 ?eT03 ?eT13 ?eT23 ?eT04 ?eT14 ?eT24 ?eT34 ?z0 ?z1 ?z2 ?z3 ?z4 ?z5 ?z6 ?z7 ?z8 ?z9 ?z10 ?z11 ?z12 ?z13 ?z14 rfl
  (case x_AcreError=>k_is)
  (case x_NoNumber=>k_is)
  (case x_NoPoint=>k_is)
  (case x_NoStretch=>k_is)
  (case x_NoName=>k_is)
  (case x_NoText=>k_is)
  (case x_NoRow=>k_is)
  (case x_Map=>k_is)
  (case cl_pg=>k_is)
  (case cl_hd=>k_is)
  (case cl_po=>k_is)
  (case cl_sa=>k_is)
  (case mk_makes=>k_is)
  (case mk_init=>k_is)
  (case mk_fn=>k_is)
  (case mk_kp=>k_is)
  (case me_found_at=>k_is)
  (case me_found_fn=>k_is)
  (case me_found_kp=>k_is)
  (case na_places=>k_is)
  (case na_layers=>k_is)
  (case na_uprights=>k_is)
  (case xc_NoName=>k_exc)
  (case xi_NoName_ga=>k_is)
  (case xi_NoName_gn=>k_is)
  (case xi_NoName_cl=>k_is)
  (case xi_NoName_get=>k_is)
  (case xi_NoName_tk=>k_is)
  (case xi_NoName_ob=>k_is)
  (case xi_NoName_be=>k_is)
  (case is_NoName_AcreError=>kit_is)
  (case is_NoName_ValueError=>kit_is)
  (case ex_NoName_NoNumber=>kts_exm)
  (case ex_NoName_NoPoint=>kts_exm)
  (case ex_NoName_NoRow=>kts_exm)
  (case ex_NoName_NoStretch=>kts_exm)
  (case ex_NoName_NoText=>kts_exm)
  (case ex_NoName_NoName=>kts_exm)
  (case h0=>(refine' Mine.fd_mk ?a ?l ?c ?k;(case a=>k_is);(case l=>k_is);(case c=>k_is);(case k=>k_is)))
  (case h1=>(refine' Mine.fd_mk ?a ?l ?c ?k;(case a=>k_is);(case l=>k_is);(case c=>k_is);(case k=>k_is)))
  (case h2=>(refine' Mine.fd_mk ?a ?l ?c ?k;(case a=>k_is);(case l=>k_is);(case c=>k_is);(case k=>k_is)))
  (case h3=>(refine' Mine.fd_mk ?a ?l ?c ?k;(case a=>k_is);(case l=>k_is);(case c=>k_is);(case k=>k_is)))
  (case h4=>(refine' Mine.fd_mk ?a ?l ?c ?k;(case a=>k_is);(case l=>k_is);(case c=>k_is);(case k=>k_is)))
  (case h5=>(refine' Mine.fd_mk ?a ?l ?c ?k;(case a=>k_is);(case l=>k_is);(case c=>k_is);(case k=>k_is)))
  (case h6=>(refine' Mine.fd_mk ?a ?l ?c ?k;(case a=>k_is);(case l=>k_is);(case c=>k_is);(case k=>k_is)))
  (case h7=>(refine' Mine.fd_mk ?a ?l ?c ?k;(case a=>k_is);(case l=>k_is);(case c=>k_is);(case k=>k_is)))
  (case h8=>(refine' Mine.fd_mk ?a ?l ?c ?k;(case a=>k_is);(case l=>k_is);(case c=>k_is);(case k=>k_is)))
  (case h9=>(refine' Mine.fd_mk ?a ?l ?c ?k;(case a=>k_is);(case l=>k_is);(case c=>k_is);(case k=>k_is)))
  (case h10=>(refine' Mine.fd_mk ?a ?l ?c ?k;(case a=>k_is);(case l=>k_is);(case c=>k_is);(case k=>k_is)))
  (case h11=>(refine' Mine.fd_mk ?a ?l ?c ?k;(case a=>k_is);(case l=>k_is);(case c=>k_is);(case k=>k_is)))
  (case h12=>(refine' Mine.fd_mk ?a ?l ?c ?k;(case a=>k_is);(case l=>k_is);(case c=>k_is);(case k=>k_is)))
  (case a13=>k_is)
  (case l13=>k_is)
  (case c13=>k_is)
  (case k13=>k_is)
  (case lT0=>k_is)
  (case vT0=>rfl)
  (case hT0=>kernel_rfl)
  (case tT0=>kernel_rfl)
  (case nT0=>kernel_rfl)
  (case a14=>k_is)
  (case l14=>k_is)
  (case c14=>k_is)
  (case k14=>k_is)
  (case lT1=>k_is)
  (case vT1=>rfl)
  (case hT1=>kernel_rfl)
  (case tT1=>kernel_rfl)
  (case nT1=>kernel_rfl)
  (case h15=>(refine' Mine.fd_mk ?a ?l ?c ?k;(case a=>k_is);(case l=>k_is);(case c=>k_is);(case k=>k_is)))
  (case h16=>(refine' Mine.fd_mk ?a ?l ?c ?k;(case a=>k_is);(case l=>k_is);(case c=>k_is);(case k=>k_is)))
  (case h17=>(refine' Mine.fd_mk ?a ?l ?c ?k;(case a=>k_is);(case l=>k_is);(case c=>k_is);(case k=>k_is)))
  (case h18=>(refine' Mine.fd_mk ?a ?l ?c ?k;(case a=>k_is);(case l=>k_is);(case c=>k_is);(case k=>k_is)))
  (case h19=>(refine' Mine.fd_mk ?a ?l ?c ?k;(case a=>k_is);(case l=>k_is);(case c=>k_is);(case k=>k_is)))
  (case h20=>(refine' Mine.fd_mk ?a ?l ?c ?k;(case a=>k_is);(case l=>k_is);(case c=>k_is);(case k=>k_is)))
  (case h21=>(refine' Mine.fd_mk ?a ?l ?c ?k;(case a=>k_is);(case l=>k_is);(case c=>k_is);(case k=>k_is)))
  (case h22=>(refine' Mine.fd_mk ?a ?l ?c ?k;(case a=>k_is);(case l=>k_is);(case c=>k_is);(case k=>k_is)))
  (case h23=>(refine' Mine.fd_mk ?a ?l ?c ?k;(case a=>k_is);(case l=>k_is);(case c=>k_is);(case k=>k_is)))
  (case h24=>(refine' Mine.fd_mk ?a ?l ?c ?k;(case a=>k_is);(case l=>k_is);(case c=>k_is);(case k=>k_is)))
  (case h25=>(refine' Mine.fd_mk ?a ?l ?c ?k;(case a=>k_is);(case l=>k_is);(case c=>k_is);(case k=>k_is)))
  (case h26=>(refine' Mine.fd_mk ?a ?l ?c ?k;(case a=>k_is);(case l=>k_is);(case c=>k_is);(case k=>k_is)))
  (case h27=>(refine' Mine.fd_mk ?a ?l ?c ?k;(case a=>k_is);(case l=>k_is);(case c=>k_is);(case k=>k_is)))
  (case a28=>k_is)
  (case l28=>k_is)
  (case c28=>k_is)
  (case k28=>k_is)
  (case lT2=>k_is)
  (case vT2=>rfl)
  (case hT2=>kernel_rfl)
  (case tT2=>kernel_rfl)
  (case nT2=>kernel_rfl)
  (case h29=>(refine' Mine.fd_mk ?a ?l ?c ?k;(case a=>k_is);(case l=>k_is);(case c=>k_is);(case k=>k_is)))
  (case h30=>(refine' Mine.fd_mk ?a ?l ?c ?k;(case a=>k_is);(case l=>k_is);(case c=>k_is);(case k=>k_is)))
  (case h31=>(refine' Mine.fd_mk ?a ?l ?c ?k;(case a=>k_is);(case l=>k_is);(case c=>k_is);(case k=>k_is)))
  (case h32=>(refine' Mine.fd_mk ?a ?l ?c ?k;(case a=>k_is);(case l=>k_is);(case c=>k_is);(case k=>k_is)))
  (case h33=>(refine' Mine.fd_mk ?a ?l ?c ?k;(case a=>k_is);(case l=>k_is);(case c=>k_is);(case k=>k_is)))
  (case h34=>(refine' Mine.fd_mk ?a ?l ?c ?k;(case a=>k_is);(case l=>k_is);(case c=>k_is);(case k=>k_is)))
  (case h35=>(refine' Mine.fd_mk ?a ?l ?c ?k;(case a=>k_is);(case l=>k_is);(case c=>k_is);(case k=>k_is)))
  (case h36=>(refine' Mine.fd_mk ?a ?l ?c ?k;(case a=>k_is);(case l=>k_is);(case c=>k_is);(case k=>k_is)))
  (case h37=>(refine' L2.fun_mk ?l ?c ?k;(case l=>k_is);(case c=>k_is);(case k=>k_is)))
  (case l38=>k_is)
  (case c38=>k_is)
  (case k38=>k_is)
  (case lT3=>k_is)
  (case vT3=>rfl)
  (case hT3=>kernel_rfl)
  (case mT3=>decide)
  (case nT3=>kernel_rfl)
  (case h39=>(refine' Mine.fd_mk ?a ?l ?c ?k;(case a=>k_is);(case l=>k_is);(case c=>k_is);(case k=>k_is)))
  (case a40=>k_is)
  (case l40=>k_is)
  (case c40=>k_is)
  (case k40=>k_is)
  (case lT4=>k_is)
  (case vT4=>rfl)
  (case hT4=>kernel_rfl)
  (case tT4=>kernel_rfl)
  (case nT4=>kernel_rfl)
  (case h41=>(refine' Mine.fd_mk ?a ?l ?c ?k;(case a=>k_is);(case l=>k_is);(case c=>k_is);(case k=>k_is)))
  (case h42=>(refine' Mine.fd_mk ?a ?l ?c ?k;(case a=>k_is);(case l=>k_is);(case c=>k_is);(case k=>k_is)))
  (case h43=>(refine' Mine.fd_mk ?a ?l ?c ?k;(case a=>k_is);(case l=>k_is);(case c=>k_is);(case k=>k_is)))
  (case h44=>(refine' Mine.fd_mk ?a ?l ?c ?k;(case a=>k_is);(case l=>k_is);(case c=>k_is);(case k=>k_is)))
  (case h45=>(refine' Mine.fd_mk ?a ?l ?c ?k;(case a=>k_is);(case l=>k_is);(case c=>k_is);(case k=>k_is)))
  (case h46=>(refine' Mine.fd_mk ?a ?l ?c ?k;(case a=>k_is);(case l=>k_is);(case c=>k_is);(case k=>k_is)))
  (case h47=>(refine' Mine.fd_mk ?a ?l ?c ?k;(case a=>k_is);(case l=>k_is);(case c=>k_is);(case k=>k_is)))
  (case eT01=>decide)
  (case eT02=>decide)
  (case eT12=>decide)
  (case eT03=>decide)
  (case eT13=>decide)
  (case eT23=>decide)
  (case eT04=>decide)
  (case eT14=>decide)
  (case eT24=>decide)
  (case eT34=>decide)
  (case z0=>k_is)
  (case z1=>k_is)
  (case z2=>k_is)
  (case z3=>k_is)
  (case z4=>k_is)
  (case z5=>k_is)
  (case z6=>k_is)
  (case z7=>k_is)
  (case z8=>k_is)
  (case z9=>k_is)
  (case z10=>k_is)
  (case z11=>k_is)
  (case z12=>k_is)
  (case z13=>k_is)
  (case z14=>k_is)
