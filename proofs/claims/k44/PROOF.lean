import PyProof.Rows.All
import Wide.All
import OpenK.AllK
import Wide.FinOn
import Lean
import PyProof.EqAt
import PyProof.EqKinds
import PyProof.TupleCall
import PySem.Challenge.RW_acre_k44_nest_told
open PySem renaming wpAny_bind->pA,Value->pB,Shared->pH,wpAny_pure->pM,Program->uB,World->uW,mainGlobals->ul,Around->uv,isSubtype_type->uw,starEach->QP,tupleKind->Qd,bootBuiltins->Qh,mem_of_lookup->Qn,compareOp->Qy,wpAny_truthy_bool->UA,FuncData->UM,tupleKind_room_in1->UR,wpAny_mono->UX,wpAny_holding->Ue,sysModules->Ul,wpAny_rule->gC,wpAny_typeNameOfWhole_keyiter->gO,wpAny_passesOwn->gu,call_isinstance->gv,foldedSetIterable->AB,wpAny_dictEntries->AG,rawInt->AL,wpAny_typeNameOf_keyiter->AN,bindArgs->AS,wpAny_forIn_list->AU,wpAny_call_entry->AX,wpAny_Call_Name_kw->Af,wpAny_loadPart'->Ak,backTo->Ao,wpAny_newObj_type->As,keywordEach->Ax,sliceBounds->Az,wpAny_seqItems->BD,wpAny_isInstance->BK,plainId_quiet->BT,Builtin->BW,wpAny_specialOf->BY,codeAny_builtin->BZ,Fin->Be,Paired->Bi,binaryOp->Bk,richCompare_meets_room->Bn,argBest->Bp,wpAny_tryCatch->Bq,tupleKeyHash->Bt,wpAny_notOrdered_dict->CH,wpAny_isOneOf_keyiter->CI,isSubtype_tuple_tuple->CJ,assignEach->CL,isSubtype->CM,behindInMarks->CN,wpAny_standAt->CO,wpAny_newList->CP,compEnvC->CT,wpAny_letGo->CV,wpAny_execs_nil->Ca,letOwnedTupleGo->Cb,codeAny->Ci,swapsWith->Cp,backToKw->Cu,NameKind->Cv,wpAny_fieldsOf->DA,wpAny_tupleItemsOf->DB,wpAny_pyIter_list->DP,sizeLine_eq->DQ,Keyword->DR,slot_list_getitem->DS,wpAny_Call_method->DU,wpAny_getItem_list_slice->Da,attributeBase->Db,PyData->De,wpAny_attempt->Dh,Arguments->Dn,DictEntry->Dq,wpAny_callSpecial?_slot->Du,builtinsNs->EA,codeAny_mono->EB,wpAny_Assign_Subscript->EG,call_meetsIn->EH,wpAny_updateSeq->EO,size_of_entries->EQ,wpAny_dictEpoch->ER,wpAny_isTrue_Compare1->EV,intBits_le_iff->Eh,wpAny_newFunctionEnv->Ei,richCompare->Ej,dictSetDefault->En,wpAny_updateDictKeys->Eo,callerA->FA,valueAt->FB,wpAny_dictFind_heap->FD,assignInOrder->FF,evalPart_none->FG,Spec->FH,call_meets->FK,closureFor->FL,wpAny_setItem_heap->FN,isInstance->FP,wpAny_assign_Name->FZ,BindsTo->Fb,getItem->Ff,storedH->Fj,wpAny_pyIter_enum->Fq,wpAny_execs_cons->Fz,pyNext->GA,slicePick->GC,typeOf->GD,wpAny_pyIter_zip->GE,wpAny_Dict_empty->GL,seqItems?->GM,eqIsQuiet->GN,pairTrees_length->GR,storedH_new->GY,entryOfKey->Gg,wpAny_Name->Gh,bindName->Gi,call->Gk,cellsFrom->HG,Result->HI
open List renaming length_map->pC,getD_eq_getElem?_getD->pD,mem_cons_of_mem->pE,getElem?_eq_some_iff->pF,getElem?_eq_getElem->pJ,length_append->pK,mem_map->pL,nodup_iff_pairwise_ne->pN,range->pP,mem_range->pQ,map_cons->pR,mem_cons->pS,getElem?_map->pT,take_of_length_le->pV,mem_of_getElem?->pX,mem_append_right->pY,mem_singleton->pZ,mem_append->pd,mem_filter->pg,mem_cons_self->pj,take_add_one->uA,map_append->uF,size_toArray->uG,append_assoc->uH,length_take->uI,getElem?_append_right->uJ,length_drop->uK,length_cons->uN,append_nil->uR,length_range->uS,getElem?_append_left->uX,filter_append->uZ,length_singleton->uz,mem_flatMap->QC,map_nil->QF,pairwise_map->QM,range_succ->QQ,filter_cons->QX,not_mem_nil->Qe,take_append_drop->Qk,mem_iff_getElem?->Ql,length_filter_le->Qm,lookup_cons->Qo,mem_append_left->Qp,take_zero->Qs,flatMap_cons->Qt,map_congr_left->Qx,perm_ext_iff_of_nodup->Qz,nodup_append->UB,mem_iff_getElem->UC,Nodup->UG,getElem_mem->UJ,perm_append_comm->UL,nodup_cons->US,find?_cons->UT,length_reverse->UZ,pairwise_flatten->Ud,length_nil->Uj,mem_flatten->Uq,toArray->Uv,nodup_nil->Uw,pairwise_lt_range->Uz,drop_eq_getElem_cons->hZ,getElem?_eq_none->gB,map_map->gM,pairwise_singleton->gP,getElem?_range->gQ,flatMap_append->gT,flatMap_def->gc,getElem?_drop->gf,length_replicate->gj,getElem?_toArray->gt,getElem?_take_of_lt->AM,replicate->AT,cons_append->AV,zip_cons_cons->Ag,drop_of_length_le->Ai,nil_append->Al,getElem?_reverse->Ar,flatten_cons->Aw,drop_drop->BB,exists_cons_of_ne_nil->BH,getElem_inj->BJ,pairwise_iff_getElem->BN,filterMap_cons->BP,filter_filter->Bc,length->Bd,getElem?_cons_zero->Bg,getElem?_cons_succ->Bh,getElem?_set_self->Bj,drop_zero->Bo,reverse_perm->Bv,of_mem_zip->Cd,set_cons_zero->DG,set_cons_succ->DH,map->DJ,mem_of_find?_eq_some->DM,any_cons->Di,getElem?_replicate->Dm,all_eq_true->Do,filter_cons_of_pos->Dy,filter_cons_of_neg->Dz,forIn_cons->EM,getElem?_set_ne->Ed,drop_eq_nil_iff->El,mem_of_mem_take->Eu,zip_nil_right->FM,getElem?_take->FW,pairwise_cons->FX,take_sublist->Fc,reverse_cons->Fg,zip_nil_left->Fh,ext_getElem?->Ft,filter_congr->Fw,ext_getElem->GF,map_snd_zip->GI,flatMap_nil->GT,mem_reverse->GV,forIn_nil->Go
open Nat renaming le_refl->pG,lt_of_lt_of_le->pf,le_trans->pz,zero_le->uL,ne_of_lt->ur,lt_of_le_of_lt->QN,le_of_eq->Qi,le_of_lt->UE,lt_irrefl->Ur,lt_of_succ_lt->Ux,min_eq_left->hV,le_add_right->gE,lt_of_le_of_ne->gH,succ_le_succ->gK,mod_eq_of_lt->gL,ne_of_gt->gU,pow_le_pow_right->AC,lt_or_ge->AH,zero_add->AJ,add_assoc->AO,add_sub_cancel->Aj,le_of_succ_le->Av,sub_one_lt->BF,mod_lt->BG,lt_trichotomy->Br,le_succ_of_le->Bu,sub_self->Bw,gcd_dvd_right->Bz,reduceAdd->CQ,reduceSub->CS,le_succ->CU,lt_trans->Cj,gcd_dvd_left->Dx,add_le_of_le_sub'->EY,add_le_add_right->Es,add_le_add_left->FC,pos_of_ne_zero->FQ,lt_succ_of_lt->Fk,add_sub_of_le->Fm,sub_pos_of_lt->Fn,sub_zero->Fo,add_zero->Fp,succ_pos->Fs,gcd_mul_right->Fu,max_eq_right->GO,mul_lt_mul''->GS,min_le_left->Ga,mod_add_mod->Ge,dvd_trans->Gy,le_of_dvd->Gz,add_comm->HK,succ_add->HM,pow_succ->HP,mod_self->HQ,zero_mod->HS,pow_add->HY,one_mul->HZ,gcd->Hg
open PySem.W renaming Frag->pI,mg_none_of->Qb,nsIn->UF,fnOf->Ut,codeIn->Ay,keepIn->Bm,methodObj->DN,tabIn->Dg,cellsFrom_some->ED,OpenLaw->EN,kat_cons->GG,kat_yes->Gb,kat_no->Gn,WalkO->Gv,mg_of->HC
open PyProof.Rows renaming wpS_bind->pO,wpS_pure->pW,seqObj->uV,pendingOf->QB,wpS_forRange->QJ,Keyed->QR,SortSt->Qf,wpS_modify->Qv,wpS_mono->UW,listItems_at->Uh,callWith_type1->gX,IntsAre->gq,mirror_perm->AD,SortKind->AE,setArr->AQ,listUpdate_at->An,failedOf->BS,get?_update_seq->BX,wpS_get->Bb,assignInOrder_cons->Ct,wpS_lift->DE,AllBare->DO,seqEpoch_at->DT,subscriptTail->DZ,envOfC->EC,subscriptTail_builtinR->EE,keyKind'->Ek,gallopOf->Er,Subscript_->FI,assignInOrder_nil->Fa,wpAny_notIn_heap->GK,bubble_perm->GW,entry_list_sort->Gd,keyLt'->HJ
open PySem.Heap renaming get?_push_of_some->pU,lt_size->uC,get?_push_size->uM,get?_update_ne->UY,get?_update_other->Uu,get?_update_self->gr,SameBut->gz,size_update->GJ,size_push->Gm
open Bool renaming false_eq_true->uD,false_ne_true->uO,eq_iff_iff->Qa,not_true->gZ,not_eq_true'->AK,and_eq_true->BL,eq_false_iff->CC,not_false->DD,true_and->Dl,and_eq_false_iff->Ec,and_false->Gj,and_true->Gu,false_or->Gw,true_or->HL
open PySem.PassesOwn renaming never->uE
open PySem.PyData renaming eqvAll->uP,depthAll->uT,canLayAll0->uU,eqv->ut,depth->Qw,canLay0->UI,int->Ah,tuple->Fi
open PySem.F renaming plainAttrs_list->uQ,slot_list_append->uo,type_list_append->uq,slot_dict_keyiterator_next->Uo,plain_max_loop->AW,slot_tuple_hash->AZ,slot_tuple_eq->Aq,args_dict_keyiterator_next_1->BQ,entry_dict_keyiterator_next->BU,plainAttrs_dict->Bf,slot_dict_get->CG,slot_dict_setdefault->Ce,slot_list_extend->Dj,type_list_extend->Dk,args_tuple_lt_2->Dp,args_dict_get_3->Ds,entry_max_loop->Dt,entry_tuple_lt->EF,entry_dict_get->EI,slot_dict_iter->EJ,slot_tuple_lt->EW,slot_dict_pop->EZ,slot_list_lt->Ep
open PySem.Obj renaming mapSeq->uY,data_mapDictKeys->BE,isFreed_of_dict->FE,data_mapFields->FO,mapFields->Gx
open PySem.Value renaming ref->um,none->UK,type->CK,bool->Cq,int->Fy,isStrOf->Gs,str->HE,isInt->HU
open Array renaming toList_append->uu,getElem?_eq_getElem->UD,getD_eq_getD_getElem?->UN,getElem_mem->Ub,toList_reverse->AI,length_toList->AR,getElem?_toList->Ap,getD->Cw,perm_iff_toList_perm->Cy,forIn_toList->DC,toList_inj->Dr,toList_map->Dw,mem_toList_iff->Et,size_extract->FR,toList_push->Fl,toList_zip->GP
open Option.some renaming inj->ux,injEq->At
open Int renaming sub_le_self->QD,le_refl->QU,mul_pos->QV,zero_add->QY,add_zero->UH,mul_comm->UO,dvd_of_emod_eq_zero->UP,fdiv_eq_ediv_of_nonneg->UQ,zero_mul->UU,toNat_natCast->Ua,mul_nonneg->Uf,le_of_lt->Uk,fmod_eq_emod_of_nonneg->Us,mul_zero->Uy,lt_or_le->gN,eq_of_mul_eq_mul_right->gh,natAbs_mul->Aa,mul_le_mul_of_nonneg_right->Ab,mul_le_mul_of_nonneg_left->Ac,add_mul->Ad,mul_add->Ae,sub_zero->BM,mul_neg_of_neg_of_pos->BO,mul_assoc->BV,fmod_nonneg_of_pos->By,le_trans->CA,sub_self->CD,one_mul->CY,mul_neg->CZ,mul_ediv_mul_of_pos_left->Ch,gcd_add_mul_right_right->Cm,mul_lt_mul_of_pos_right->Co,ofNat_dvd_left->DF,emod_lt_of_pos->DI,lt_of_mul_lt_mul_left->DL,mul_left_comm->DW,mul_sub->DX,le_total->EL,emod_nonneg->ET,mul_eq_zero->EU,fmod_add_mul_fdiv->Ea,mul_ediv_add_emod->Eb,neg_mul->Ew,sub_mul->Ex,gcd_zero_right->FS,fmod_lt_of_pos->FT,not_lt->FU,lt_of_lt_of_le->FV,not_le->FY,zero_sub->Fv,natCast_emod->GU,mul_ne_zero->Gf,fmod->Gp,natAbs_dvd->Gq,mul_le_mul->Gr,add_assoc->HD,gcd_comm->HN,mul_one->HW
open Classical renaming byContradiction->QK,choose->GQ
open Prod.mk renaming injEq->QZ
open Prod renaming ext->Qg,fst->CB,snd->Hc
open List.Perm renaming append_left->Qj,trans->Cg
open PySem.SeqAt renaming shaped->Qq
open Option renaming map_eq_some_iff->Qr,map_some->Ug,isSome_map->Au,isSome_iff_exists->DY,getD_none->GB,none->HX,map->Hf
open PySem.NameKind renaming free->Qu,cell->Dd
open PySem.Builtin.Tuple renaming tupleHashOf->UV,tupleCompareSizes->CF
open PySem.Str renaming ofString->Ui
open False renaming elim->Um
open PySem.Heap.SameBut renaming update->hU
open PySem.Calls renaming callWith_builtin->gY,spliced_cons->ge,evalArgs_plain->BA,spliced_nil->Bl,Name_function_global->Cr
open PySem.Around renaming under_plainId->AF,frames_deeper->Ee
open PySem.MeetsSeq3 renaming plain_eq_loop->AY,entry_eq_loop->Dv
open PySem.Paired renaming length->Am,snoc->GX
open True renaming intro->BC
open Ne renaming symm->BI
open PySem.Builtin.List renaming listTooLong->BR
open List.cons renaming injEq->Ba
open PySem.Builtin.Dict_items renaming ownsTuple->Cf
open PySem.Builtin.Builtins renaming bindParams->Ck
open PySem.Builtin.Dict renaming keyAndDefault->Cz,showsAll->EX,takeOut->Ev
open Iff renaming rfl->DV
open Or renaming inr->Dc,inl->Ef
open PySem.AutoSeq1 renaming sub_tuple_tuple->Df
open PyProof.Rows.SortSt renaming mk'->EK
open Array.Perm renaming refl->ES
open ToString renaming toString->Em
open Sum renaming inl->Ey,inr->Ez
open PySem.Heap.IsSliceOf renaming new->FJ
open PySem.W.Looks renaming ld->GH
open ForInStep renaming yield->GZ
open StateT renaming run_pure->Gc
open PySem.Data renaming cell->HF,fields->HV
open LawfulMonad renaming pure_bind->HH
open Nat.succ renaming inj->HR
open PySem.Walks renaming list->Hd
open PUnit renaming unit->He
set_option Elab.async false
set_option linter.all false
set_option compiler.extract_closed false
set_option maxRecDepth 100000
set_option maxHeartbeats 4000000
noncomputable section
namespace L2
open PySem PySem.Spec PyProof.Rows
abbrev Key:=Sum Int Str
noncomputable def qc:Key->pB->Bool
 |.inl k,v=>HU k v
 |.inr x,v=>Gs x v
noncomputable def keyH(w:uW):Key->Int
 |.inl k=>hashInt k
 |.inr x=>hashStr w x
theorem w5:∀{k:Key}{v:pB},qc k v=true->(∃i t,k=Ey i/\v=Fy i t)∨(∃x t,k=Ez x/\v=HE x t)
 |.inl i,v,h=>by
  obtain⟨t,e⟩:=Value.isInt_shape (k:=i) (v:=v) h;exact .inl ⟨i,t,rfl,e⟩
 |.inr x,v,h=>by
  obtain⟨t,e⟩:=Value.isStrOf_shape (x:=x) (v:=v) h;exact .inr ⟨x,t,rfl,e⟩
def zhd(i:Int)(t:Tok):qc (.inl i) (.int i t)=true:=by simp[qc,HU]
def zg5(x:Str)(t:Tok):qc (.inr x) (.str x t)=true:=by simp[qc,Gs]
def key_ll(a b:Int):decide ((Ey a:Key)=Ey b)=(a==b):=by
 by_cases e:a=b
 ·subst e;simp
 ·have h:¬(Ey a:Key)=Ey b:=λq=>e (Sum.inl.inj q);rw[decide_eq_false h];exact(beq_eq_false_iff_ne.mpr e).symm
def key_rr(a b:Str):decide ((Ez a:Key)=Ez b)=decide (a=b):=by
 by_cases e:a=b
 ·subst e;simp
 ·have h:¬(Ez a:Key)=Ez b:=λq=>e (Sum.inr.inj q);rw[decide_eq_false h,decide_eq_false e]
def key_lr(a:Int)(b:Str):decide ((Ey a:Key)=Ez b)=false:=decide_eq_false (λq=>nomatch q)
def key_rl(a:Str)(b:Int):decide ((Ez a:Key)=Ey b)=false:=decide_eq_false (λq=>nomatch q)
noncomputable def zH(prog:uB)(w:uW):PySem.KeyKind prog w Key where
 is:=qc
 hash:=keyH w
 inj:=λv a b ha hb=>by
  rcases w5 ha with⟨i,t,rfl,rfl⟩|⟨x,t,rfl,rfl⟩
  ·rcases w5 hb with⟨j,u,rfl,e⟩|⟨y,u,rfl,e⟩
   ·injection e with e1 _;rw[e1]
   ·exact nomatch e
  ·rcases w5 hb with⟨j,u,rfl,e⟩|⟨y,u,rfl,e⟩
   ·exact nomatch e
   ·injection e with e1 _;rw[e1]
 byValue:=λk v h=>by
  rcases w5 h with⟨i,t,rfl,rfl⟩|⟨x,t,rfl,rfl⟩<;>rfl
 pyHash:=λhv h=>by
  rcases w5 hv with⟨i,t,rfl,rfl⟩|⟨x,t,rfl,rfl⟩
  ·exact wpAny_pyHash_int h
  ·exact wpAny_pyHash_str h
 eqBool:=λhu hv h=>by
  rcases w5 hu with⟨i,t,rfl,rfl⟩|⟨x,t,rfl,rfl⟩
  ·rcases w5 hv with⟨j,u,rfl,rfl⟩|⟨y,u,rfl,rfl⟩
   ·rw[key_ll] at h;exact wpAny_eqBool_int h
   ·rw[key_lr] at h;exact SeqAt.EqAt.int_str i t y u _ _ _ _ h
  ·rcases w5 hv with⟨j,u,rfl,rfl⟩|⟨y,u,rfl,rfl⟩
   ·rw[key_rl] at h;exact SeqAt.EqAt.str_int x t j u _ _ _ _ h
   ·rw[key_rr] at h;exact wpAny_eqBool_str h
 «strs»:=λk x t v h=>by
  rcases w5 h with⟨i,u,rfl,e⟩|⟨y,u,rfl,e⟩
  ·exact nomatch e
  ·injection e with e1 _
   subst e1
   cases v<;>rfl
def zim(prog:uB)(w:uW)(i:Int)(t:Tok):(zH prog w).is (.inl i) (.int i t)=true:=zhd i t
def zj5(prog:uB)(w:uW)(x:Str)(t:Tok):(zH prog w).is (.inr x) (.str x t)=true:=zg5 x t
inductive V where
 |non|bl (b:Bool)|int (i:Int)|str (x:Str)|byt (b:Array UInt8)|flt (b:UInt64)|ref (a:Addr)|ty (n:String)
 deriving DecidableEq
def zm:V->pB->Prop
 |.non,u=>u=UK
 |.bl b,u=>u=Cq b
 |.int i,u=>∃t,u=Fy i t
 |.str x,u=>∃t,u=HE x t
 |.byt b,u=>∃t,u=Value.bytes b t
 |.flt b,u=>∃t,u=Value.float b t
 |.ref a,u=>u=um a
 |.ty n,u=>u=CK n
abbrev zn:List V->List pB->Prop:=Bi zm
def zn.length{xs:List V}{us:List pB}(r:zn xs us):xs.length=us.length:=Am r
theorem zn.get:∀{xs:List V}{us:List pB}{i:Nat}{x:V},zn xs us->xs[i]?=some x->∃u,us[i]?=some u/\zm x u
 |_,_,_,_,.nil,e=>by simp at e
 |_,_,0,_,.cons r _,e=>by simp at e;subst e;exact⟨_,rfl,r⟩
 |_,_,i+1,x,.cons _ t,e=>by
  obtain⟨u,h1,h2⟩:=zn.get (i:=i) (x:=x) t (by simpa using e)
  exact⟨u,by simpa using h1,h2⟩
theorem zn.append:∀{xs ys:List V}{us ws:List pB},zn xs us->zn ys ws->zn (xs++ys) (us++ws)
 |_,_,_,_,.nil,s=>s
 |_,_,_,_,.cons r t,s=>.cons r (zn.append t s)
theorem zn.take:∀{xs:List V}{us:List pB}(n:Nat),zn xs us->zn (xs.take n) (us.take n)
 |_,_,0,_=>.nil
 |_,_,_+1,.nil=>.nil
 |_,_,n+1,.cons r t=>.cons r (zn.take n t)
theorem zn.drop:∀{xs:List V}{us:List pB}(n:Nat),zn xs us->zn (xs.drop n) (us.drop n)
 |_,_,0,r=>r
 |_,_,_+1,.nil=>.nil
 |_,_,n+1,.cons _ t=>zn.drop n t
def xQ:Option V->Option pB->Prop
 |some v,some u=>zm v u
 |none,none=>True
 |_,_=>False
def KV{κ:Type}:List (κ×V)->List (κ×pB)->Prop:=Bi λ(p:κ×V)(q:κ×pB)=>p.1=q.1/\zm p.2 q.2
noncomputable def kV:Key->V
 |.inl i=>.int i
 |.inr x=>.str x
inductive HO where
 /--a list-/
 |lst (xs:List V)
 /--a tuple (never changes)-/
 |tup (xs:List V)
 /--a dict whose keys are ints and texts;one whose keys are tuples of ints and texts (the empty one is both)-/
 |dK (kvs:List (Key×V))|dT (kvs:List (List Key×V))
 /--a set of ints:its members,its size-/
 |set (S:Int->Bool) (n:Nat)
 /--an instance of the class at C,its dict at dx,its attributes-/
 |ins (C dx:Addr) (fs:List (Str×V))
 /--the dict of the instance at x-/
 |own (x:Addr)
 /--the dict of an exception-/
 |xd (fs:List (Str×V))
 /--a bound method,f of x-/
 |met (f x:Addr)
 /--a range object lo,lo+1,.. below hi-/
 |rng (lo hi:Int)
 /--a thing that is known to the object (the script;a dict while a loop walks it):read,never written while it is so-/
 |frz (o:Obj) (u:HO)
 /--a code object's table-/
 |tbl (ps:Array pB)
 /--any other thing,by what is true of its one object (a def of one's own:SetO a S n:=HO.ext λh=>..)-/
 |ext (φ:Heap->Prop)
abbrev Hp:=Addr->Option HO
noncomputable def upd(H:Hp)(a:Addr)(o:HO):Hp:=λb=>if b=a then some o else H b
def upd_same{H:Hp}{a:Addr}{o:HO}:upd H a o a=some o:=by unfold upd;rw[if_pos rfl]
def zh{H:Hp}{a b:Addr}{o:HO}(h:b≠a):upd H a o b=H b:=by unfold upd;rw[if_neg h]
def upd_upd{H:Hp}{a:Addr}{o u:HO}:upd (upd H a o) a u=upd H a u:=by
 funext b;unfold upd;split<;>rfl
def qR{H:Hp}{a b:Addr}{o u:HO}(h:H a=some o)(h':H b=some u)(d:o≠u):a≠b:=by
 intro e;subst e;rw[h] at h';exact d (ux h')
def xu{H:Hp}{a b:Addr}{o:HO}(h:H a=some o)(h':H b=none):a≠b:=by
 intro e;subst e;rw[h] at h';cases h'
section
variable(P:uB)(w:uW)
def yj(H:Hp)(h:Heap)(a:Addr):HO->Prop
 |.lst xs=>xs.length<=sizeLine/\∃(its:List pB)(n:Nat),zn xs its/\h.get? a=some {cls:=.type "list",data:=.seq its.toArray n}
 |.tup xs=>xs.length<=sizeLine/\∃its:List pB,zn xs its/\IsTup h a its.toArray
 |.dK kvs=>kvs.length<=sizeLine/\(a==Ul)=false/\∃vs,KV kvs vs/\h.DictOf (zH P w) a vs
 |.dT kvs=>kvs.length<=sizeLine/\(a==Ul)=false/\∃xs:List (List Key×Addr×pB),
   Bi (λ(p:List Key×V)(q:List Key×Addr×pB)=>p.1=q.1/\H q.2.1=some (.tup (p.1.map kV))/\zm p.2 q.2.2) kvs xs/\
   ∃o es ep,h.get? a=some o/\o.ExactDict/\o.data=.dict es ep/\es.toList=xs.map (Gg (Qd (zH P w)))/\(xs.map (·.1)).Nodup
 |.set S n=>h.SetOf (intKind P w) a S n
 |.ins C dx fs=>H dx=some (.own a)/\fs.length<=1000/\dx≠a/\h.get? a=some (PySem.W.instObj C dx)/\
   ∃mA,h.Ns1 dx mA/\(∀f,xQ (fs.lookup f) (mA f))/\PySem.Within mA (fs.map (·.1))
 |.own _=>∃o,h.get? a=some o
 |.xd fs=>∃mA,h.Ns1 a mA/\∀f,xQ (fs.lookup f) (mA f)
 |.rng lo hi=>∃t u v,h.get? a=some {cls:=.type "range",data:=.fields #[.int lo t,.int hi u,.int 1 v]}
 |.frz o u=>h.get? a=some o/\yj H h a u
 |.tbl ps=>h.get? a=some {cls:=.none,data:=.fields ps}
 |.met f x=>h.get? a=some (DN (.ref f) (.ref x))
 |.ext φ=>φ h/\(∃o,h.get? a=some o)/\∀h1 h2:Heap,φ h1->(∀o,h1.get? a=some o->h2.get? a=some o)->φ h2
def HOk(H:Hp)(h:Heap):Prop:=∀a o,H a=some o->yj P w H h a o
end
section
variable{P:uB}{w:uW}{H H':Hp}{h h':Heap}{a:Addr}{o:HO}
theorem yj.lt(x:yj P w H h a o):a<h.objs.size:=by
 cases o with
 |lst xs=>obtain⟨_,_,_,_,e⟩:=x;exact uC e
 |tup xs=>obtain⟨_,_,_,p⟩:=x;exact p.lt
 |dK kvs=>obtain⟨_,_,_,_,o,_,_,e,_⟩:=x;exact uC e
 |dT kvs=>obtain⟨_,_,_,_,o,_,_,e,_⟩:=x;exact uC e
 |set S n=>obtain⟨o,_,_,_,e,_⟩:=x;exact uC e
 |ins C dx fs=>obtain⟨_,_,_,e,_⟩:=x;exact uC e
 |own y=>obtain⟨_,e⟩:=x;exact uC e
 |xd fs=>obtain⟨_,⟨_,_,_,e,_⟩,_⟩:=x;exact uC e
 |rng lo hi=>obtain⟨_,_,_,e⟩:=x;exact uC e
 |frz ob u=>obtain⟨e,_⟩:=x;exact uC e
 |tbl ps=>exact uC (show h.get? a=some _ from x)
 |met f y=>exact uC (show h.get? a=some _ from x)
 |ext φ=>obtain⟨_,⟨_,e⟩,_⟩:=x;exact uC e
theorem Paired.mapP{α β:Type}{F G:α->β->Prop}:∀{l₁:List α}{l₂:List β},Bi F l₁ l₂->(∀a b,F a b->G a b)->Bi G l₁ l₂
 |_,_,.nil,_=>.nil
 |_,_,.cons r t,f=>.cons (f _ _ r) (Paired.mapP t f)
theorem yj.stay(x:yj P w H h a o)(k:∀b u,(b=a∨H b=some (.own a))->h.get? b=some u->h'.get? b=some u)
  (ho:∀b,H b=some (.own a)->H' b=some (.own a))(ht:∀b xs,H b=some (.tup xs)->H' b=some (.tup xs)):yj P w H' h' a o:=by
 induction o with
 |lst xs=>obtain⟨z,its,n,r,e⟩:=x;exact⟨z,its,n,r,k _ _ (.inl rfl) e⟩
 |tup xs=>obtain⟨z,its,r,ob,e,c⟩:=x;exact⟨z,its,r,ob,k _ _ (.inl rfl) e,c⟩
 |dK kvs=>obtain⟨z,y,vs,r,ob,es,ep,e,c⟩:=x;exact⟨z,y,vs,r,ob,es,ep,k _ _ (.inl rfl) e,c⟩
 |dT kvs=>
  obtain⟨z,y,xs,r,ob,es,ep,e,c⟩:=x;exact⟨z,y,xs,Paired.mapP r λp q z=>⟨z.1,ht _ _ z.2.1,z.2.2⟩,ob,es,ep,k _ _ (.inl rfl) e,c⟩
 |set S n=>obtain⟨ob,es,ep,t,e,c⟩:=x;exact⟨ob,es,ep,t,k _ _ (.inl rfl) e,c⟩
 |ins C dx fs=>
  obtain⟨d,z,ne,e,mA,⟨od,es,ep,e2,c⟩,r⟩:=x;exact⟨ho _ d,z,ne,k _ _ (.inl rfl) e,mA,⟨od,es,ep,k _ _ (.inr d) e2,c⟩,r⟩
 |own y=>obtain⟨ob,e⟩:=x;exact⟨ob,k _ _ (.inl rfl) e⟩
 |xd fs=>obtain⟨mA,⟨od,es,ep,e,c⟩,r⟩:=x;exact⟨mA,⟨od,es,ep,k _ _ (.inl rfl) e,c⟩,r⟩
 |rng lo hi=>obtain⟨t,u,v,e⟩:=x;exact⟨t,u,v,k _ _ (.inl rfl) e⟩
 |frz ob u ih=>obtain⟨e,q⟩:=x;exact⟨k _ _ (.inl rfl) e,ih q⟩
 |tbl ps=>
  have e:h.get? a=some {cls:=.none,data:=.fields ps}:=x;show h'.get? a=some {cls:=.none,data:=.fields ps};exact k a _ (.inl rfl) e
 |met f y=>
  have e:h.get? a=some (DN (.ref f) (.ref y)):=x;show h'.get? a=some (DN (.ref f) (.ref y));exact k a _ (.inl rfl) e
 |ext φ=>obtain⟨p,⟨o,e⟩,st⟩:=x;exact⟨st _ _ p λo q=>k _ _ (.inl rfl) q,⟨o,k _ _ (.inl rfl) e⟩,st⟩
def HOk.lt(x:HOk P w H h)(e:H a=some o):a<h.objs.size:=(x a o e).lt
theorem HOk.fresh(x:HOk P w H h)(e:h.objs.size<=a):H a=none:=by
 cases q:H a with
 |none=>rfl
 |some u=>exact absurd (pf (x.lt q) e) (Ur _)
def HOk.kept(x:HOk P w H h)(k:∀b u,h.get? b=some u->h'.get? b=some u):HOk P w H h':=λa o e=>
 (x a o e).stay (λb u _ q=>k b u q) (λ_ q=>q) λ_ _ q=>q
def HOk.laid(x:HOk P w H h)(k:∀b u,h.get? b=some u->h'.get? b=some u)(hp:h.objs.size<=a)(new:yj P w (upd H a o) h' a o):HOk P w (upd H a o) h':=λb u e=>by
 have hn:=x.fresh hp
 by_cases hb:b=a
 ·subst hb;rw[upd_same] at e;cases e;exact new
 ·rw[zh hb] at e;exact(x b u e).stay (λc v _ q=>k c v q) (λc q=>by rw[zh (xu q hn)];exact q) λc xs q=>by rw[zh (xu q hn)];exact q
end
def Rd(H:Hp)(a:Addr)(u:HO):Prop:=H a=some u∨∃o,H a=some (.frz o u)
def Rd.ok{P:uB}{w:uW}{H:Hp}{h:Heap}{a:Addr}{u:HO}(r:Rd H a u)(x:HOk P w H h):yj P w H h a u:=by
 rcases r with r|⟨o,r⟩
 ·exact x a u r
 ·obtain⟨_,q⟩:=x a _ r;exact q
def Mut:Option HO->Prop
 |some (.lst _)=>True
 |some (.dK _)=>True
 |some (.dT _)=>True
 |some (.set _ _)=>True
 |some (.ins _ _ _)=>True
 |some (.ext _)=>True
 |_=>False
section
variable{P:uB}{w:uW}{H:Hp}{h h':Heap}{x e:Addr}{o':HO}
def HOk.write(ok:HOk P w H h)(mu:Mut (H x))(he:e=x∨H e=some (.own x))(k:∀b u,b≠e->h.get? b=some u->h'.get? b=some u)(heo:∃u,h'.get? e=some u)
  (new:yj P w (upd H x o') h' x o'):HOk P w (upd H x o') h':=λb u q=>by
 have nown:∀c y,H c=some (.own y)->c≠x:=λc y r z=>by subst z;rw[r] at mu;exact mu
 have ntup:∀c xs,H c=some (.tup xs)->c≠x:=λc xs r z=>by subst z;rw[r] at mu;exact mu
 by_cases hb:b=x
 ·subst hb;rw[upd_same] at q;cases q;exact new
 ·rw[zh hb] at q
  by_cases hbe:b=e
  ·have q':H b=some (.own x):=by
    rcases he with z|z
    ·exact absurd (hbe.trans z) hb
    ·rw[hbe];exact z
   rw[q] at q';cases q';obtain⟨v,hv⟩:=heo;exact⟨v,by rw[hbe];exact hv⟩
  ·refine(ok b u q).stay (λc v hc r=>k c v ?_ r) (λc r=>by rw[zh (nown c b r)];exact r) λc xs r=>by rw[zh (ntup c xs r)];exact r
   rcases hc with rfl|hc
   ·exact hbe
   ·rintro rfl;rcases he with z|z
    ·exact nown c b hc z
    ·rw[hc] at z;cases z;exact hb rfl
end
structure Un(fs ex:List Addr)(H H':Hp)(h h':Heap):Prop where
 keep:∀b o,h.get? b=some o->H b=none->b∉fs->b∉ex->h'.get? b=some o
 slot:∀b o,h.get? b=some o->H b=none->b∈fs->b∉ex->∃sl,h'.get? b=some {o with slots:=sl}
 free:∀b o,h.get? b=some o->H b=none->b∉ex->H' b=none
 there:∀b o,h.get? b=some o->b∉ex->∃o',h'.get? b=some o'
 tups:∀b xs,H b=some (.tup xs)->H' b=some (.tup xs)
 frzs:∀b o u,H b=some (.frz o u)->H' b=some (.frz o u)
 tbls:∀b ps,H b=some (.tbl ps)->∃more,H' b=some (.tbl (ps++more))
section
variable{fs fs' ex ex':List Addr}{H H1 H2:Hp}{h h1 h2 h':Heap}{a x e:Addr}{o:HO}
def Un.any(u:Un fs ex H H1 h h1){b:Addr}{ob:Obj}(q:h.get? b=some ob)(n:H b=none)(hx:b∉ex):∃sl,h1.get? b=some {ob with slots:=sl}:=by
 by_cases hb:b∈fs
 ·exact u.slot b ob q n hb hx
 ·exact⟨ob.slots,u.keep b ob q n hb hx⟩
def Un.kept(k:∀b u,h.get? b=some u->h'.get? b=some u):Un fs ex H H h h':=
 ⟨λb ob q _ _ _=>k b ob q,λb ob q _ _ _=>⟨ob.slots,k b ob q⟩,λ_ _ _ n _=>n,λb ob q _=>⟨ob,k b ob q⟩,λ_ _ q=>q,λ_ _ _ q=>q,λ_ ps q=>⟨#[],by rw[q];simp⟩⟩
def Un.refl:Un fs ex H H h h:=Un.kept λ_ _ q=>q
def Un.laid(k:∀b u,h.get? b=some u->h'.get? b=some u)(hp:h.objs.size<=a)(hn:H a=none):Un fs ex H (upd H a o) h h' where
 keep:=λb u q _ _ _=>k b u q
 slot:=λb u q _ _ _=>⟨u.slots,k b u q⟩
 free:=λb u q n _=>by rw[zh (ur (pf (uC q) hp))];exact n
 there:=λb u q _=>⟨u,k b u q⟩
 tups:=λb xs q=>by rw[zh (xu q hn)];exact q
 frzs:=λb u xs q=>by rw[zh (xu q hn)];exact q
 tbls:=λb ps q=>⟨#[],by rw[zh (xu q hn),q];simp⟩
def Un.write(mu:Mut (H x))(he:e=x∨H e=some (.own x))(k:∀b u,b≠e->h.get? b=some u->h'.get? b=some u)(heo:∃u,h'.get? e=some u):Un fs ex H (upd H x o) h h':=by
 have hx:∀b,H b=none->b≠x:=λb n z=>by subst z;rw[n] at mu;exact mu
 have hb:∀b,H b=none->b≠e:=λb n z=>by
  subst z;rcases he with r|r
  ·exact hx b n r
  ·rw[n] at r;cases r
 have hm:∀b u,H b=some u->¬Mut (some u)->b≠x:=λb u q nm z=>by subst z;rw[q] at mu;exact nm mu
 refine⟨λb u q n _ _=>k b u (hb b n) q,λb u q n _ _=>⟨u.slots,k b u (hb b n) q⟩,λb u q n _=>by rw[zh (hx b n)];exact n,λb u q _=>?_,
  λb xs q=>by rw[zh (hm b _ q λz=>z)];exact q,λb u xs q=>by rw[zh (hm b _ q λz=>z)];exact q,λb ps q=>⟨#[],by rw[zh (hm b _ q λz=>z),q];simp⟩⟩
 by_cases hbe:b=e
 ·subst hbe;exact heo
 ·exact⟨u,k b u hbe q⟩
end
noncomputable def trk(h:Heap)(H:Hp):List Addr:=(pP h.objs.size).filter λa=>(H a).isSome
noncomputable def wE(h:Heap)(H:Hp):Heap:=PySem.W.hideAll h (trk h H)
def zfe(h:Heap)(H:Hp):(wE h H).objs.size=h.objs.size:=PySem.W.hideAll_size _ _
def zi6{h:Heap}{H:Hp}{b:Addr}{o:Obj}(e:h.get? b=some o)(n:H b=none):(wE h H).get? b=some o:=
 PySem.W.hideAll_get _ e λhm=>by
  have q:(H b).isSome=true:=(pg.mp hm).2;rw[n] at q;simp at q
theorem of_hidT{h:Heap}{H:Hp}{b:Addr}{o:Obj}(e:(wE h H).get? b=some o):h.get? b=some o/\H b=none:=by
 have e':h.get? b=some o:=PySem.W.of_hideAll (trk h H) e;refine⟨e',?_⟩
 cases q:H b with
 |none=>rfl
 |some x=>
  have hm:b∈trk h H:=pg.mpr ⟨pQ.mpr (uC e'),by simp[q]⟩
  have z:(wE h H).get? b=none:=PySem.W.hideAll_none (trk h H) hm;rw[z] at e;cases e
noncomputable def allNews(g h:Heap)(L:Addr):List (Addr×Obj):=(pP h.objs.size).filterMap λa=>if a=L∨(g.get? a).isSome=true then none else(h.get? a).map λo=>(a,o)
noncomputable def rest(g h:Heap)(L d:Addr):List (Addr×Obj):=(allNews g h L).filter λp=>decide (p.1≠d)
structure Mod(K:pI)(mg:Str->Option pB)(base:Heap):Prop where
 kin:K.In base
 glob:base.Ns ul mg
 blt:∃mb,base.Ns EA mb/\∀x:Str,x≠"__name__"->mb x=Qh x
 nolimit:base.NoLimit
set_option genInjectivity false in
structure Cx where
 prog:uB
 w:uW
 K:pI
 mg:Str->Option pB
 base:Heap
 A:uv
 N:List Str
 s₀:pH
 H₀:Hp
 env:Env
 outer:List Env
 stack:List Env
 ex:List Addr
 fn:Str->Bool
 calm:Bool
 pn:List (Addr×Obj)
 xe:pB->pH->Prop
noncomputable def frs(l:List Env):List Addr:=l.filterMap (·.frame)
abbrev Cx.fs(X:Cx):List Addr:=frs X.outer
def Vis(sc:Scope)(x:Str):Prop:=sc.names.lookup x=some .local∨sc.names.lookup x=some .cell∨sc.names.lookup x=some .free
def Loc(sc:Scope)(x:Str):Prop:=sc.names.lookup x=some .local∨sc.names.lookup x=some .cell
def Look(env:Env)(h:Heap)(m:Str->Option pB)(x:Str)(u:pB):Prop:=
 (env.kindOf x=some .local/\m x=some u)∨((env.kindOf x=some .cell∨env.kindOf x=some .free)/\∃c,env.cells.lookup x=some c/\h.IsCell c (some u))
structure Cx.Ok(X:Cx):Prop where
 mod:Mod X.K X.mg X.base
 kind:X.env.scope.kind=.function
 glob:X.env.globals=ul
 blt:X.env.builtins=EA
 above:X.s₀.heap.objs.size<=X.env.locals
 inj:∀x y c,X.env.cells.lookup x=some c->X.env.cells.lookup y=some c->x=y
 has:∀x,(X.env.kindOf x=some .cell∨X.env.kindOf x=some .free)->∃c,X.env.cells.lookup x=some c
 cab:∀x c,X.fn x=true->X.env.cells.lookup x=some c->X.s₀.heap.objs.size<=c
 hd:X.calm=true->X.A.handled=none
 frames:X.A.frames=some X.stack
 stk:X.stack=X.outer∨(X.stack=X.env::X.outer/\X.env.frame=some X.env.locals)
 exf:∀b∈X.ex,b≠X.env.locals/\∀x c,X.env.cells.lookup x=some c->c≠b
 bs:∀b o,X.base.get? b=some o->X.s₀.heap.get? b=some o/\X.H₀ b=none
 bsz:X.base.objs.size<=X.s₀.heap.objs.size
 noex:∀b o,X.base.get? b=some o->b∉X.ex
 exfs:∀b∈X.ex,b∉X.fs
 funs:X.s₀.heap.FunFrames X.base X.outer
 frf:∀b∈X.fs,X.H₀ b=none
structure Inv(X:Cx)(pins:List (Addr×Obj))(σ:List (Option V))(H:Hp)(s:pH):Prop where
 ok:X.Ok
 os:s.os=X.s₀.os
 bare:DO s.gens
 base:Un X.fs X.ex X.H₀ H X.s₀.heap s.heap
 loc:∃m,s.heap.Ns X.env.locals m/\∀(i:Nat)(x:Str)(v:V),X.N[i]?=some x->σ[i]?=some (some v)->Vis X.env.scope x->∃u,zm v u/\Look X.env s.heap m x u
 cell:∀x c,X.env.cells.lookup x=some c->∃v,s.heap.IsCell c v
 free:H X.env.locals=none
 freeC:∀x c,X.env.cells.lookup x=some c->H c=none
 pin:∀p∈X.pn++pins,s.heap.get? p.1=some p.2/\H p.1=none/\p.1≠X.env.locals/\p.1∉X.fs/\∀v,p.2.data≠.cell v
 hok:HOk X.prog X.w H s.heap
 len:σ.length=X.N.length
variable{g':Array GenState}{t':Nat}{ch:List Addr}{M:Model}
section
variable{X:Cx}{pins:List (Addr×Obj)}{σ:List (Option V)}{H H':Hp}{s:pH}{h':Heap}
def Cx.Ok.nofr(ok:X.Ok){b:Addr}{o:Obj}(e:X.base.get? b=some o):b∉X.fs:=λhb=>by
 have:=(ok.funs.mem hb).1;rw[e] at this;cases this
def Inv.bs(I:Inv X pins σ H s):∀b o,X.base.get? b=some o->s.heap.get? b=some o/\H b=none:=λb o e=>
 ⟨I.base.keep b o (I.ok.bs b o e).1 (I.ok.bs b o e).2 (I.ok.nofr e) (I.ok.noex b o e),I.base.free b o (I.ok.bs b o e).1 (I.ok.bs b o e).2 (I.ok.noex b o e)⟩
def Inv.bk(I:Inv X pins σ H s):∀b o,X.base.get? b=some o->s.heap.get? b=some o:=λb o e=>(I.bs b o e).1
def Inv.mod(I:Inv X pins σ H s):Mod X.K X.mg X.base:=I.ok.mod
def Inv.kIn(I:Inv X pins σ H s):X.K.In s.heap:=I.ok.mod.kin.keeps I.bk
def Inv.nolimit(I:Inv X pins σ H s):s.heap.NoLimit:=I.ok.mod.nolimit.keeps I.bk
def Inv.lt(I:Inv X pins σ H s):X.env.locals<s.heap.objs.size:=let⟨_,hn,_⟩:=I.loc;hn.lt
def Inv.sz(I:Inv X pins σ H s):X.s₀.heap.objs.size<=s.heap.objs.size:=pz I.ok.above (UE I.lt)
def Inv.nofs(I:Inv X pins σ H s){a:Addr}(h:s.heap.objs.size<=a):a∉X.fs:=λhb=>by
 obtain⟨_,o,ho,_⟩:=I.ok.funs.mem hb;exact absurd (pf (uC ho) (pz I.sz h)) (Ur _)
def Inv.cne(I:Inv X pins σ H s):∀x c,X.env.cells.lookup x=some c->c≠X.env.locals:=λx c e z=>by
 obtain⟨v,o,ho,hd⟩:=I.cell x c e;obtain⟨m,⟨o',es,ep,ho',hd',_⟩,_⟩:=I.loc;rw[z,ho'] at ho;cases ho;rw[hd'] at hd;cases hd
theorem Inv.funs(I:Inv X pins σ H s):s.heap.FunFrames X.base X.outer:=by
 have all:∀(l:List Env),(∀b∈frs l,b∈X.fs)->X.s₀.heap.FunFrames X.base l->s.heap.FunFrames X.base l:=by
  intro l
  induction l with
  |nil=>intro _ _;trivial
  |cons env r ih=>
   intro hs hl;obtain⟨hk,⟨L,o,hf,hn,ho,hd⟩,hr⟩:=hl;have hL:L∈X.fs:=hs L (by unfold frs;rw[BP,hf];exact pj)
   obtain⟨sl,e⟩:=I.base.slot L o ho (I.ok.frf L hL) hL λz=>I.ok.exfs L z hL;exact⟨hk,⟨L,_,hf,hn,e,hd⟩,ih (λb hb=>hs b (by unfold frs;rw[BP,hf];exact pE _ hb)) hr⟩
 exact all X.outer (λ_ hb=>hb) I.ok.funs
def Inv.stack(I:Inv X pins σ H s):s.heap.FunFrames X.base X.stack:=by
 rcases I.ok.stk with e|⟨e,hf⟩
 ·rw[e];exact I.funs
 ·rw[e];obtain⟨m,hn,_⟩:=I.loc;refine .cons (by rw[I.ok.kind];decide) hf hn ?_ I.funs
  exact Heap.get?_none_of_le (pz I.ok.bsz I.ok.above)
def Inv.stkSub(I:Inv X pins σ H s):∀b∈frs X.stack,b∈X.env.locals::X.fs:=λb hb=>by
 rcases I.ok.stk with e|⟨e,hf⟩
 ·rw[e] at hb;exact pE _ hb
 ·rw[e] at hb;unfold frs at hb;rw[BP,hf] at hb;exact hb
def Inv.stkFree(I:Inv X pins σ H s):∀b∈frs X.stack,H b=none:=λb hb=>by
 rcases pS.mp (I.stkSub b hb) with e|hb
 ·rw[e];exact I.free
 ·obtain⟨_,o,ho,_⟩:=I.ok.funs.mem hb;exact I.base.free b o ho (I.ok.frf b hb) λz=>I.ok.exfs b z hb
def Inv.step{d':Drawn}(I:Inv X pins σ H s)
  (hch:∀b∈ch,(b∈X.ex∨X.s₀.heap.objs.size<=b)/\b≠X.env.locals/\(∀x c,X.env.cells.lookup x=some c->c≠b)/\∀p∈X.pn++pins,p.1≠b)
  (keep:∀b o,b≠X.env.locals->b∉X.fs->b∉ch->s.heap.get? b=some o->H b=none->h'.get? b=some o)
  (slot:∀b o,b≠X.env.locals->b∈X.fs->b∉ch->s.heap.get? b=some o->H b=none->∃sl,h'.get? b=some {o with slots:=sl})(free:∀b o,b∉ch->s.heap.get? b=some o->H b=none->H' b=none)
  (there:∀b o,b∉ch->s.heap.get? b=some o->∃o',h'.get? b=some o')
  (tups:∀b xs,H b=some (.tup xs)->H' b=some (.tup xs)) (frzs:∀b o u,H b=some (.frz o u)->H' b=some (.frz o u)) (tbls:∀b ps,H b=some (.tbl ps)->∃more,H' b=some (.tbl (ps++more)))
  (ns:∀m,s.heap.Ns X.env.locals m->h'.Ns X.env.locals m) (hok:HOk X.prog X.w H' h') (hg:DO g'):
  Inv X pins σ H' {s with heap:=h',gens:=g',drawn:=d',toks:=t'}:=by
 have neL:∀b o,X.s₀.heap.get? b=some o->b≠X.env.locals:=λb o e=>ur (pf (uC e) I.ok.above);have neC:∀b o,X.s₀.heap.get? b=some o->b∉X.ex->b∉ch:=λb o e hx hb=>by
  rcases(hch b hb).1 with z|z
  ·exact hx z
  ·exact absurd (pf (uC e) z) (Ur _)
 have cellK:∀x c,X.env.cells.lookup x=some c->∀v,s.heap.IsCell c v->h'.IsCell c v:=λx c e v⟨o,ho,hd⟩=>by
  have nch:c∉ch:=λz=>(hch c z).2.2.1 x c e rfl
  by_cases hc:c∈X.fs
  ·obtain⟨sl,q⟩:=slot c o (I.cne x c e) hc nch ho (I.freeC x c e);exact⟨_,q,hd⟩
  ·exact⟨o,keep c o (I.cne x c e) hc nch ho (I.freeC x c e),hd⟩
 refine⟨I.ok,I.os,hg,⟨λb o e n hb hx=>?_,λb o e n hb hx=>?_,λb o e n hx=>?_,λb o e hx=>?_,λb xs e=>tups b xs (I.base.tups b xs e),λb o xs e=>frzs b o xs (I.base.frzs b o xs e),λb ps e=>?_⟩,?_,λx c e=>?_,?_,λx c e=>?_,λp hp=>?_,hok,I.len⟩
 ·exact keep b o (neL b o e) hb (neC b o e hx) (I.base.keep b o e n hb hx) (I.base.free b o e n hx)
 ·obtain⟨sl,e1⟩:=I.base.slot b o e n hb hx;obtain⟨sl',e2⟩:=slot b _ (neL b o e) hb (neC b o e hx) e1 (I.base.free b o e n hx);exact⟨sl',e2⟩
 ·obtain⟨o',e1⟩:=I.base.there b o e hx;exact free b o' (neC b o e hx) e1 (I.base.free b o e n hx)
 ·obtain⟨o',e1⟩:=I.base.there b o e hx;exact there b o' (neC b o e hx) e1
 ·obtain⟨m1,e1⟩:=I.base.tbls b ps e;obtain⟨m2,e2⟩:=tbls b _ e1;exact⟨m1++m2,by rw[e2,Array.append_assoc]⟩
 ·obtain⟨m,hn,hl⟩:=I.loc;refine⟨m,ns m hn,λi x v e1 e2 e3=>?_⟩;obtain⟨u,r,l⟩:=hl i x v e1 e2 e3;refine⟨u,r,?_⟩;rcases l with l|⟨k,c,e,z⟩
  ·exact .inl l
  ·exact .inr ⟨k,c,e,cellK x c e _ z⟩
 ·obtain⟨v,z⟩:=I.cell x c e;exact⟨v,cellK x c e v z⟩
 ·obtain⟨m,⟨o,_,_,ho,_⟩,_⟩:=I.loc;exact free _ o (λz=>(hch _ z).2.1 rfl) ho I.free
 ·obtain⟨v,o,ho,hd⟩:=I.cell x c e;exact free c o (λz=>(hch c z).2.2.1 x c e rfl) ho (I.freeC x c e)
 ·obtain⟨e,n,ne,nf,d⟩:=I.pin p hp;have nch:p.1∉ch:=λz=>(hch p.1 z).2.2.2 p hp rfl;exact⟨keep p.1 p.2 ne nf nch e n,free p.1 p.2 nch e n,ne,nf,d⟩
def Inv.un(I:Inv X pins σ H s)(u:Un X.fs [] H H' s.heap h')(hok:HOk X.prog X.w H' h'):Inv X pins σ H' {s with heap:=h',toks:=t'}:=by
 obtain⟨m,⟨o,es,ep,ho,r⟩,_⟩:=id I.loc;obtain⟨sl,hL⟩:=u.any ho I.free (by simp)
 exact I.step (g':=s.gens) (d':=s.drawn) (ch:=[]) (λ_ z=>nomatch z) (λb o _ hb _ e n=>u.keep b o e n hb (by simp)) (λb o _ hb _ e n=>u.slot b o e n hb (by simp)) (λb o _ e n=>u.free b o e n (by simp)) (λb o _ e=>u.there b o e (by simp)) u.tups u.frzs u.tbls (λm' hm=>by
  obtain⟨o',es',ep',ho',r'⟩:=hm;rw[ho] at ho';cases ho';exact⟨_,es',ep',hL,r'⟩) hok I.bare
def Inv.call{d':Drawn}(I:Inv X pins σ H s)(u:Un (frs X.stack) ch H H' s.heap h')(hok:HOk X.prog X.w H' h')(hg:DO g')
  (hch:∀b∈ch,(b∈X.ex∨X.s₀.heap.objs.size<=b)/\b≠X.env.locals/\(∀x c,X.env.cells.lookup x=some c->c≠b)/\∀p∈X.pn++pins,p.1≠b):
  Inv X pins σ H' {s with heap:=h',gens:=g',drawn:=d',toks:=t'}:=by
 obtain⟨m,⟨o,es,ep,ho,r⟩,_⟩:=id I.loc;obtain⟨sl,hL⟩:=u.any ho I.free λz=>(hch _ z).2.1 rfl;exact I.step (ch:=ch) hch (λb o hL hb hc e n=>u.keep b o e n (λz=>(pS.mp (I.stkSub b z)).elim hL hb) hc) (λb o _ _ hc e n=>u.any e n hc) (λb o hc e n=>u.free b o e n hc) (λb o hc e=>u.there b o e hc) u.tups u.frzs u.tbls (λm' hm=>by
  obtain⟨o',es',ep',ho',r'⟩:=hm;rw[ho] at ho';cases ho';exact⟨_,es',ep',hL,r'⟩) hok hg
def Inv.turned{it:Addr}(I:Inv X pins σ H s)(k:∀b o,b≠it->s.heap.get? b=some o->h'.get? b=some o)(hn:H it=none)(hL:it≠X.env.locals)
  (h1:it∈X.ex∨X.s₀.heap.objs.size<=it)(h2:∀x c,X.env.cells.lookup x=some c->c≠it)(h3:∀p∈X.pn++pins,p.1≠it):Inv X pins σ H {s with heap:=h',toks:=t'}:=by
 have nit:∀b u,H b=some u->b≠it:=λb u e z=>by rw[z,hn] at e;cases e
 refine I.step (g':=s.gens) (d':=s.drawn) (ch:=[it]) (λb hb=>?_) (λb o _ _ hc e _=>k b o (λz=>hc (by simp[z])) e) (λb o _ _ hc e _=>⟨o.slots,k b o (λz=>hc (by simp[z])) e⟩) (λ_ _ _ _ n=>n)
  (λb o hc e=>⟨o,k b o (λz=>hc (by simp[z])) e⟩) (λ_ _ e=>e) (λ_ _ _ e=>e) (λb ps e=>⟨#[],by rw[e];simp⟩) (λm hm=>?_) (λb u e=>?_) I.bare
 ·have e:b=it:=by simpa using hb
  subst e;exact⟨h1,hL,h2,h3⟩
 ·obtain⟨o,es,ep,ho,r⟩:=hm;exact⟨o,es,ep,k _ o (BI hL) ho,r⟩
 ·refine(I.hok b u e).stay (λc v hc q=>k c v ?_ q) (λ_ q=>q) λ_ _ q=>q;rcases hc with z|z
  ·rw[z];exact nit b u e
  ·exact nit c _ z
def Inv.tok(I:Inv X pins σ H s)(t:Nat):Inv X pins σ H {s with toks:=t}:=I.un (h':=s.heap) (t':=t) Un.refl I.hok
def Inv.kept(I:Inv X pins σ H s)(k:∀b u,s.heap.get? b=some u->h'.get? b=some u):Inv X pins σ H {s with heap:=h',toks:=t'}:=I.un (Un.kept k) (I.hok.kept k)
def Inv.laid{a:Addr}{o:HO}(I:Inv X pins σ H s)(k:∀b u,s.heap.get? b=some u->h'.get? b=some u)(hp:s.heap.objs.size<=a)(new:yj X.prog X.w (upd H a o) h' a o):
  Inv X pins σ (upd H a o) {s with heap:=h',toks:=t'}:=I.un (Un.laid k hp (I.hok.fresh hp)) (I.hok.laid k hp new)
def Inv.write{x e:Addr}{o:HO}(I:Inv X pins σ H s)(mu:Mut (H x))(he:e=x∨H e=some (.own x))(k:∀b u,b≠e->s.heap.get? b=some u->h'.get? b=some u)(heo:∃u,h'.get? e=some u)
  (new:yj X.prog X.w (upd H x o) h' x o):Inv X pins σ (upd H x o) {s with heap:=h',toks:=t'}:=I.un (Un.write mu he k heo) (I.hok.write mu he k heo new)
def Inv.pins_of{pins':List (Addr×Obj)}(I:Inv X pins σ H s)(h:∀p∈pins',s.heap.get? p.1=some p.2/\H p.1=none/\p.1≠X.env.locals/\p.1∉X.fs/\∀v,p.2.data≠.cell v):Inv X pins' σ H s:=
 ⟨I.ok,I.os,I.bare,I.base,I.loc,I.cell,I.free,I.freeC,λp hp=>(pd.mp hp).elim (λz=>I.pin p (Qp _ z)) (h p),I.hok,I.len⟩
variable{x:Str}{i:Nat}
def za1{N:List Str}(hN:N.Nodup){j:Nat}(a:N[i]?=some x)(b:N[j]?=some x):i=j:=by
 obtain⟨h1,e1⟩:=pF.mp a;obtain⟨h2,e2⟩:=pF.mp b;exact(BJ hN).mp (e1.trans e2.symm)
variable{E:pB->pH->Prop}{Q:Unit->pH->Prop}
theorem zg1{A:uv}{v:V}{u:pB}(I:Inv X pins σ H s)(hN:X.N.Nodup)(hi:X.N[i]?=some x)(hx:Loc X.env.scope x)(r:zm v u)
  (h:∀s',Inv X pins (σ.set i (some v)) H s'->(∃a,gz a s.heap s'.heap/\(a=X.env.locals∨X.env.cells.lookup x=some a))->Q () s')(hf:X.fn x=true∨X.env.scope.names.lookup x=some .local:=by first|exact .inl rfl|exact .inr rfl|assumption):wpAny M A (storeName X.env x u) Q E s:=by
 obtain⟨m,hn,hl⟩:=id I.loc;have hcls:(X.env.scope.kind==.class||(X.env.scope.kind==.module&&X.env.locals !=X.env.globals))=false:=by rw[I.ok.kind];rfl
 have hiσ:i<σ.length:=by rw[I.len];exact(pF.mp hi).1
 have cne:=I.cne;have tracked:∀{a:Addr}{h':Heap},(∃o,s.heap.get? a=some o/\H a=none)->gz a s.heap h'->HOk X.prog X.w H h':=λ{a h'} ha hs b ob e=>by
  obtain⟨_,_,hfree⟩:=ha;refine(I.hok b ob e).stay (λc w' hc q=>(hs.2 c ?_).trans q) (λ_ q=>q) λ_ _ q=>q;rintro rfl;rcases hc with rfl|hc
  ·rw[hfree] at e;cases e
  ·rw[hfree] at hc;cases hc
 rcases hx with hk|hk
 ·refine wpAny_storeName_local hk hn (λh' hn' hs=>?_) hcls;obtain⟨oL,_,_,hoL,_⟩:=id hn;refine h _ ⟨I.ok,I.os,I.bare,⟨λb o e n hb hx=>?_,λb o e n hb hx=>?_,I.base.free,λb o e hx=>?_,I.base.tups,I.base.frzs,I.base.tbls⟩,⟨_,hn',λj y v' e1 e2 e3=>?_⟩,λy c e=>?_,I.free,I.freeC,λp hp=>?_,tracked ⟨oL,hoL,I.free⟩ hs,by simpa using I.len⟩ ⟨_,hs,.inl rfl⟩
  ·exact(hs.2 b (ur (pf (uC e) I.ok.above))).trans (I.base.keep b o e n hb hx)
  ·obtain⟨sl,e1⟩:=I.base.slot b o e n hb hx;exact⟨sl,(hs.2 b (ur (pf (uC e) I.ok.above))).trans e1⟩
  ·obtain⟨o',e1⟩:=I.base.there b o e hx;exact⟨o',(hs.2 b (ur (pf (uC e) I.ok.above))).trans e1⟩
  ·by_cases hj:j=i
   ·subst hj;rw[hi] at e1;cases e1;rw[Bj hiσ] at e2
    cases e2;exact⟨u,r,.inl ⟨hk,by simp⟩⟩
   ·rw[Ed (BI hj)] at e2;obtain⟨u',r',q⟩:=hl j y v' e1 e2 e3;refine⟨u',r',?_⟩;rcases q with⟨k,e⟩|⟨k,c,e,z⟩
    ·refine .inl ⟨k,?_⟩;have:y≠x:=λe=>hj (za1 hN e1 (e▸hi))
     simp[this,e]
    ·exact .inr ⟨k,c,e,z.sameBut hs (cne y c e)⟩
  ·obtain⟨w',z⟩:=I.cell y c e;exact⟨w',z.sameBut hs (cne y c e)⟩
  ·obtain⟨e,n,ne,nf,d⟩:=I.pin p hp;exact⟨(hs.2 p.1 ne).trans e,n,ne,nf,d⟩
 ·have hfn:X.fn x=true:=by
   rcases hf with z|z
   ·exact z
   ·rw[z] at hk;cases hk
  obtain⟨c,hc⟩:=I.ok.has x (.inl hk);obtain⟨w',z⟩:=I.cell x c hc;refine wpAny_storeName_cell I.ok.kind hk hc z (λh' hc' hs=>?_);obtain⟨oc,hoc,hocd⟩:=id z;refine h {s with heap:=h'} ⟨I.ok,I.os,I.bare,⟨λb o e n hb hx=>?_,λb o e n hb hx=>?_,I.base.free,λb o e hx=>?_,I.base.tups,I.base.frzs,I.base.tbls⟩,⟨m,hn.sameBut hs (BI (cne x c hc)),λj y v' e1 e2 e3=>?_⟩,λy c' e=>?_,I.free,I.freeC,λp hp=>?_,tracked ⟨oc,hoc,I.freeC x c hc⟩ hs,by simpa using I.len⟩ ⟨c,hs,.inr hc⟩
  ·exact(hs.2 b (ur (pf (uC e) (I.ok.cab x c hfn hc)))).trans (I.base.keep b o e n hb hx)
  ·obtain⟨sl,e1⟩:=I.base.slot b o e n hb hx;exact⟨sl,(hs.2 b (ur (pf (uC e) (I.ok.cab x c hfn hc)))).trans e1⟩
  ·obtain⟨o',e1⟩:=I.base.there b o e hx;exact⟨o',(hs.2 b (ur (pf (uC e) (I.ok.cab x c hfn hc)))).trans e1⟩
  ·by_cases hj:j=i
   ·subst hj;rw[hi] at e1;cases e1;rw[Bj hiσ] at e2
    cases e2;exact⟨u,r,.inr ⟨.inl hk,c,hc,hc'⟩⟩
   ·rw[Ed (BI hj)] at e2;obtain⟨u',r',q⟩:=hl j y v' e1 e2 e3;refine⟨u',r',?_⟩;rcases q with q|⟨k,c',e,z'⟩
    ·exact .inl q
    ·refine .inr ⟨k,c',e,z'.sameBut hs ?_⟩;rintro rfl;exact hj (za1 hN e1 (I.ok.inj _ _ _ e hc▸hi))
  ·by_cases hcc:c'=c
   ·subst hcc;exact⟨_,hc'⟩
   ·obtain⟨w2,z2⟩:=I.cell y c' e;exact⟨w2,z2.sameBut hs hcc⟩
  ·obtain⟨e,n,ne,nf,d⟩:=I.pin p hp;refine⟨(hs.2 p.1 ?_).trans e,n,ne,nf,d⟩;intro q;rw[q,hoc] at e;have q':oc=p.2:=ux e;exact d w' (by rw[←q'];exact hocd)
theorem Ym{A:uv}{v:V}{u:pB}(I:Inv X pins σ H s)(hN:X.N.Nodup)(hi:X.N[i]?=some x)(hx:Loc X.env.scope x)(r:zm v u)
  (h:∀s',Inv X pins (σ.set i (some v)) H s'->Q () s')(hf:X.fn x=true∨X.env.scope.names.lookup x=some .local:=by first|exact .inl rfl|exact .inr rfl|assumption):wpAny M A (storeName X.env x u) Q E s:=
 zg1 I hN hi hx r (λs' I' _=>h s' I') hf
def Inv.call'{s':pH}(I:Inv X pins σ H s)(ho:s'.os=s.os)(u:Un (frs X.stack) ch H H' s.heap s'.heap)(hok:HOk X.prog X.w H' s'.heap)(hg:DO s'.gens)
  (hch:∀b∈ch,(b∈X.ex∨X.s₀.heap.objs.size<=b)/\b≠X.env.locals/\(∀x c,X.env.cells.lookup x=some c->c≠b)/\∀p∈X.pn++pins,p.1≠b):Inv X pins σ H' s':=by
 obtain⟨h',g',d',t',o'⟩:=s';have e:o'=s.os:=ho;subst e;exact I.call (g':=g') (t':=t') (d':=d') u hok hg hch
end
abbrev XK:=pB->Option Addr->Hp->Prop
abbrev St:=List (Option V)
abbrev VK:=V->Hp->Prop
abbrev TE:=St->Hp->VK->Prop
abbrev TT:=St->Hp->(Bool->Hp->Prop)->Prop
abbrev TA:=St->Hp->(List V->Hp->Prop)->Prop
structure Ends where
 nx:St->Hp->Prop
 rt:VK
 bk:St->Hp->Prop:=λ_ _=>False
 ct:St->Hp->Prop:=λ_ _=>False
abbrev TS:=Ends->St->Hp->Prop
def EP(X:Cx)(pins:List (Addr×Obj))(σ:St)(Q:VK)(u:pB)(s':pH):Prop:=∃v H',Inv X pins σ H' s'/\zm v u/\Q v H'
def TP(X:Cx)(pins:List (Addr×Obj))(σ:St)(Q:Bool->Hp->Prop)(b:Bool)(s':pH):Prop:=∃H',Inv X pins σ H' s'/\Q b H'
def AP(X:Cx)(pins:List (Addr×Obj))(σ:St)(Q:List V->Hp->Prop)(us:List pB)(s':pH):Prop:=∃vs H',Inv X pins σ H' s'/\zn vs us/\Q vs H'
def SP(X:Cx)(pins:List (Addr×Obj))(D:Ends)(f:Flow)(s':pH):Prop:=
 match f with
 |.next=>∃σ' H',Inv X pins σ' H' s'/\D.nx σ' H'
 |.brk=>∃σ' H',Inv X pins σ' H' s'/\D.bk σ' H'
 |.cont=>∃σ' H',Inv X pins σ' H' s'/\D.ct σ' H'
 |.ret u=>∃v σ' H',Inv X pins σ' H' s'/\zm v u/\D.rt v H'
def PE(X:Cx)(e:Expr)(t:TE):Prop:=
 ∀(pins:List (Addr×Obj))(s:pH)(σ:St)(H:Hp)(Q:VK),Inv X pins σ H s->t σ H Q->wpAny (model X.prog X.w) X.A (eval e X.env) (EP X pins σ Q) X.xe s
def PT(X:Cx)(e:Expr)(t:TT):Prop:=
 ∀(pins:List (Addr×Obj))(s:pH)(σ:St)(H:Hp)(Q:Bool->Hp->Prop),Inv X pins σ H s->t σ H Q->wpAny (model X.prog X.w) X.A (isTrue e X.env (eval e X.env)) (TP X pins σ Q) X.xe s
def PW(X:Cx)(e:Expr)(t:TT):Prop:=
 ∀(whole:Sem pB)(pins:List (Addr×Obj))(s:pH)(σ:St)(H:Hp)(Q:Bool->Hp->Prop),Inv X pins σ H s->t σ H Q->wpAny (model X.prog X.w) X.A (isTrue e X.env whole) (TP X pins σ Q) X.xe s
def PW.pt{X:Cx}{e:Expr}{t:TT}(h:PW X e t):PT X e t:=h _
def PA(X:Cx)(es:List Expr)(t:TA):Prop:=
 ∀(pos:Pos)(pins:List (Addr×Obj))(s:pH)(σ:St)(H:Hp)(Q:List V->Hp->Prop),Inv X pins σ H s->t σ H Q->wpAny (model X.prog X.w) X.A (spliced (Ao pos (QP es X.env))) (AP X pins σ Q) X.xe s
def PS(X:Cx)(st:Stmt)(t:TS):Prop:=
 ∀(pins:List (Addr×Obj))(s:pH)(σ:St)(H:Hp)(D:Ends),Inv X pins σ H s->t D σ H->wpAny (model X.prog X.w) X.A (exec st X.env) (SP X pins D) X.xe s
def PSs(X:Cx)(st:List Stmt)(t:TS):Prop:=
 ∀(pins:List (Addr×Obj))(s:pH)(σ:St)(H:Hp)(D:Ends),Inv X pins σ H s->t D σ H->wpAny (model X.prog X.w) X.A (execs st X.env) (SP X pins D) X.xe s
def thn{α:Type}{t:Sem α}{Q Q':α->pH->Prop}{A:uv}{E:pB->pH->Prop}{s:pH}(h:wpAny M A t Q E s)(hQ:∀a s,Q a s->Q' a s):wpAny M A t Q' E s:=UX h hQ λ_ _ x=>x
section
variable{X:Cx}
def tVar(i:Nat):TE:=λσ H Q=>∃v,σ[i]?=some (some v)/\Q v H
def tC(v:V):TE:=λ_ H Q=>Q v H
variable{x:Str}
def Z9{i:Nat}{pos:Pos}(hN:X.N[i]?=some x)(hv:Vis X.env.scope x)(hd:(x==("__debug__":Str))=false:=by decide)(hcd:(x==("__classdict__":Str))=false:=by decide):PE X (.Name x pos) (tVar i):=by
 intro pins s σ H Q I h;obtain⟨v,e,h⟩:=h;obtain⟨m,hn,hl⟩:=I.loc;obtain⟨u,r,l⟩:=hl i x v hN e hv;have fin:EP X pins σ Q u s:=⟨v,H,I,r,h⟩;rcases l with⟨hk,hm⟩|⟨hk,c,hc,hcell⟩
 ·exact Gh (wpAny_loadName_local I.ok.kind hk hn hm fin) hd
 ·rcases hk with hk|hk
  ·exact Gh (wpAny_loadName_cell I.ok.kind hk hc hcell fin) hd
  ·exact Gh (wpAny_loadName_free I.ok.kind hk hc hcell fin hcd) hd
def za{i j pos}:PE X (.Constant (.int i) j pos) (tC (.int i)):=λ_ _ _ H _ I h=>wpAny_Constant_int ⟨.int i,H,I.tok _,⟨_,rfl⟩,h⟩
def wD{b j pos}:PE X (.Constant (.bool b) j pos) (tC (.bl b)):=λ_ _ _ H _ I h=>Constant_bool ⟨.bl b,H,I,rfl,h⟩
def qd{j pos}:PE X (.Constant .none j pos) (tC .non):=λ_ _ _ H _ I h=>Constant_none ⟨.non,H,I,rfl,h⟩
def Gl(X:Cx)(x:Str):Prop:=X.env.kindOf x=some .globalImplicit
variable{E Q:pB->pH->Prop}{pins:List (Addr×Obj)}{u:pB}
def ld_glob{s:pH}{σ:St}{H:Hp}{pos:Pos}(I:Inv X pins σ H s)(hg:Gl X x)(hm:X.mg x=some u)(h:Q u s)
  (hd:(x==("__debug__":Str))=false:=by decide):wpAny (model X.prog X.w) X.A (eval (.Name x pos) X.env) Q E s:=
 Cr I.ok.kind hg (Calls.loadGlobal_global (by rw[I.ok.glob];exact I.mod.glob.keeps I.bk) hm h) hd
def vR{s:pH}{σ:St}{H:Hp}{pos:Pos}(I:Inv X pins σ H s)(hg:Gl X x)(hm:X.mg x=none)(hv:Qh x=some u)(h:Q u s)
  (hn:x≠"__name__":=by decide)(hd:(x==("__debug__":Str))=false:=by decide):wpAny (model X.prog X.w) X.A (eval (.Name x pos) X.env) Q E s:=by
 obtain⟨mb,h1,h2⟩:=I.mod.blt;exact Cr I.ok.kind hg (Calls.loadGlobal_builtin (by rw[I.ok.glob];exact I.mod.glob.keeps I.bk) hm (by rw[I.ok.blt];exact h1.keeps I.bk) ((h2 x hn).trans hv) h) hd
def jm{v:V}{pos:Pos}(hg:Gl X x)(hm:X.mg x=none)(hv:Qh x=some u)(r:zm v u)(hn:x≠"__name__":=by decide)(hd:(x==("__debug__":Str))=false:=by decide):PE X (.Name x pos) (tC v):=
 λ_ _ _ H _ I h=>vR I hg hm hv ⟨v,H,I,r,h⟩ hn hd
variable{a b:Expr}{ta tb:TE}{pos:Pos}
def PC(X:Cx)(op:CmpOp)(a b:Expr)(t:TE):Prop:=
 ∀(pins:List (Addr×Obj))(s:pH)(σ:St)(H:Hp)(Q:VK),Inv X pins σ H s->t σ H Q->
  wpAny (model X.prog X.w) X.A (eval a X.env) (λv s₁=>wpAny (model X.prog X.w) X.A (eval b X.env) (λu s₂=>wpAny (model X.prog X.w) X.A (Qy op v u) (EP X pins σ Q) X.xe s₂) X.xe s₁) X.xe s
def tB(t:TE):TT:=λσ H Q=>t σ H λx H1=>∃c,x=.bl c/\Q c H1
variable{t:TE}
def Yn{op:CmpOp}(h:PC X op a b t)(h1:CN op b=false:=by first|exact nobehind _ (by decide) (by decide)|rfl):PT X (.Compare a [op] [b] pos) (tB t):=by
 intro pins s σ H Q I hw;refine EV (thn (h pins s σ H _ I hw) λv s1 h1=>thn h1 λu s2 h2=>thn h2 λc s3⟨x,H1,I1,r1,q1⟩=>?_) h1;obtain⟨d,rfl,q⟩:=q1
 cases r1;exact UA ⟨H1,I1,q⟩
def xc{e:Expr}(h:PE X e t)(he:∀whole,isTrue e X.env whole=(do let v ←whole;standAt e.pos;holding [v] (truthy v)):=by intro _;rfl):PT X e (tB t):=by
 intro pins s σ H Q I hw;refine isTrue_plain (thn (h pins s σ H _ I hw) λv s1⟨x,H1,I1,r1,q1⟩=>?_) (he _);obtain⟨d,rfl,q⟩:=q1
 cases r1;exact UA ⟨H1,I1,q⟩
variable{tA tB':TT}{rest:List Expr}
def qM(t u:TT):TT:=λσ H Q=>t σ H λc H1=>if c=true then u σ H1 Q else Q false H1
def tOr(t u:TT):TT:=λσ H Q=>t σ H λc H1=>if c=true then Q true H1 else u σ H1 Q
def qY(t:TT):TT:=λσ H Q=>t σ H λc H1=>Q (!c) H1
theorem Xs(ha:PT X a tA):PW X (.BoolOp .And [a] pos) tA:=by
 intro wh pins s σ H Q I h;refine isTrue_and (thn (ha pins s σ H Q I h) λc s1 e=>?_)
 cases c with
 |true=>exact isTrue_and_nil e
 |false=>exact e
theorem j4(ha:PT X a tA):PW X (.BoolOp .Or [a] pos) tA:=by
 intro wh pins s σ H Q I h;refine isTrue_or (thn (ha pins s σ H Q I h) λc s1 e=>?_)
 cases c with
 |false=>exact isTrue_or_nil e
 |true=>exact e
theorem Xq(ha:PT X a tA)(hb:PW X (.BoolOp .And (b::rest) pos) tB'):PW X (.BoolOp .And (a::b::rest) pos) (qM tA tB'):=by
 intro wh pins s σ H Q I h;refine isTrue_and (thn (ha pins s σ H _ I h) λc s1⟨H1,I1,q1⟩=>?_)
 cases c with
 |true=>exact hb wh pins s1 σ H1 Q I1 q1
 |false=>exact⟨H1,I1,q1⟩
theorem vz(ha:PT X a tA)(hb:PW X (.BoolOp .Or (b::rest) pos) tB'):PW X (.BoolOp .Or (a::b::rest) pos) (tOr tA tB'):=by
 intro wh pins s σ H Q I h;refine isTrue_or (thn (ha pins s σ H _ I h) λc s1⟨H1,I1,q1⟩=>?_)
 cases c with
 |true=>exact⟨H1,I1,q1⟩
 |false=>exact hb wh pins s1 σ H1 Q I1 q1
def vQ(ha:PT X a tA):PT X (.UnaryOp .Not a pos) (qY tA):=by
 intro pins s σ H Q I h;exact isTrue_not (ha pins s σ H (λc H1=>Q (!c) H1) I h)
def qA(ta tb:TE):TE:=λσ H Q=>ta σ H λx H1=>∃c,x=.bl c/\if c=true then tb σ H1 Q else Q (.bl false) H1
def qQ(ta tb:TE):TE:=λσ H Q=>ta σ H λx H1=>∃c,x=.bl c/\if c=true then Q (.bl true) H1 else tb σ H1 Q
def qH(ta:TE):TE:=λσ H Q=>ta σ H λx H1=>∃c,x=.bl c/\Q (.bl (!c)) H1
def Yt{op}(h:PE X a t):PE X (.BoolOp op [a] pos) t:=λpins s σ H Q I hw=>BoolOp_one (h pins s σ H Q I hw)
theorem qw(ha:PE X a ta)(hb:PE X (.BoolOp .And (b::rest) pos) tb):PE X (.BoolOp .And (a::b::rest) pos) (qA ta tb):=by
 intro pins s σ H Q I h;refine BoolOp_and (thn (ha pins s σ H _ I h) λv s1⟨x,H1,I1,r1,q1⟩=>?_);obtain⟨c,rfl,q1⟩:=q1
 cases r1;refine UA ?_
 cases c with
 |true=>exact hb pins s1 σ H1 Q I1 q1
 |false=>exact⟨.bl false,H1,I1,rfl,q1⟩
theorem pe_or(ha:PE X a ta)(hb:PE X (.BoolOp .Or (b::rest) pos) tb):PE X (.BoolOp .Or (a::b::rest) pos) (qQ ta tb):=by
 intro pins s σ H Q I h;refine BoolOp_or (thn (ha pins s σ H _ I h) λv s1⟨x,H1,I1,r1,q1⟩=>?_);obtain⟨c,rfl,q1⟩:=q1
 cases r1;refine UA ?_
 cases c with
 |false=>exact hb pins s1 σ H1 Q I1 q1
 |true=>exact⟨.bl true,H1,I1,rfl,q1⟩
def Zs(ha:PE X a ta):PE X (.UnaryOp .Not a pos) (qH ta):=by
 intro pins s σ H Q I h;refine UnaryOp_ (thn (ha pins s σ H _ I h) λv s1⟨x,H1,I1,r1,q1⟩=>?_);obtain⟨c,rfl,q1⟩:=q1
 cases r1;exact not_of (UA ⟨.bl (!c),H1,I1,rfl,q1⟩)
def tIf(t:TT)(ta tb:TE):TE:=λσ H Q=>t σ H λc H1=>if c=true then ta σ H1 Q else tb σ H1 Q
end
def SqL(K:pI)(H:Hp)(a:Addr)(xs:List V):Prop:=
 Rd H a (.lst xs)∨
  ∃(o:Obj)(its:Array pB)(n:Nat),K.lookup a=some o/\o.cls=.type "list"/\o.dict=none/\o.data=.seq its n/\its.size<=sizeLine/\zn xs its.toList
def SqT(K:pI)(H:Hp)(a:Addr)(xs:List V):Prop:=
 Rd H a (.tup xs)∨
  ∃(o:Obj)(its:Array pB)(n:Nat),K.lookup a=some o/\o.cls=.type "tuple"/\o.data=.seq its n/\its.size<=sizeLine/\zn xs its.toList
noncomputable def absV:pB->Option V
 |.none=>some .non
 |.bool b=>some (.bl b)
 |.int i _=>some (.int i)
 |.str x _=>some (.str x)
 |.bytes b _=>some (.byt b)
 |.float b _=>some (.flt b)
 |.ref a=>some (.ref a)
 |.type n=>some (.ty n)
 |_=>none
theorem zm.abs{x:V}{u:pB}(r:zm x u):absV u=some x:=by
 cases x with
 |non=>cases r;rfl
 |bl _=>cases r;rfl
 |int _=>obtain⟨t,rfl⟩:=r;rfl
 |str _=>obtain⟨t,rfl⟩:=r;rfl
 |byt _=>obtain⟨t,rfl⟩:=r;rfl
 |flt _=>obtain⟨t,rfl⟩:=r;rfl
 |ref _=>cases r;rfl
 |ty _=>cases r;rfl
def zm.inj{x y:V}{u:pB}(r:zm x u)(q:zm y u):x=y:=ux (r.abs.symm.trans q.abs)
theorem zn.inj:∀{xs ys:List V}{us:List pB},zn xs us->zn ys us->xs=ys
 |_,_,_,.nil,.nil=>rfl
 |_,_,_,.cons r t,.cons r' t'=>by rw[r.inj r',zn.inj t t']
section
variable{X:Cx}{pins:List (Addr×Obj)}{σ:St}{H:Hp}{s:pH}{a:Addr}{xs ys:List V}
def SqL.of{K:pI}(h:H a=some (.lst xs)):SqL K H a xs:=.inl (.inl h)
def SqT.of{K:pI}(h:H a=some (.tup xs)):SqT K H a xs:=.inl (.inl h)
theorem Inv.list(I:Inv X pins σ H s)(h:SqL X.K H a xs):∃its:List pB,zn xs its/\PlainL s.heap a its.toArray/\xs.length<=sizeLine:=by
 rcases h with h|⟨o,its,n,hk,hc,hd,hs,hz,r⟩
 ·obtain⟨z,its,n,r,e⟩:=h.ok I.hok;exact⟨its,r,⟨_,n,e,rfl,rfl,rfl⟩,z⟩
 ·refine⟨its.toList,r,⟨o,n,I.kIn a o hk,hc,hd,by simpa using hs⟩,?_⟩
  have e:=r.length;simp only[AR] at e;lia
theorem Inv.tuple(I:Inv X pins σ H s)(h:SqT X.K H a xs):∃its:List pB,zn xs its/\IsTup s.heap a its.toArray/\xs.length<=sizeLine:=by
 rcases h with h|⟨o,its,n,hk,hc,hs,hz,r⟩
 ·obtain⟨z,its,r,p⟩:=h.ok I.hok;exact⟨its,r,p,z⟩
 ·refine⟨its.toList,r,⟨o,I.kIn a o hk,hc,n,by simpa using hs⟩,?_⟩
  have e:=r.length;simp only[AR] at e;lia
def Inv.list_inj(I:Inv X pins σ H s)(h:SqL X.K H a xs)(h':SqL X.K H a ys):xs=ys:=by
 obtain⟨its,r,⟨o,n,e,_,_,d⟩,_⟩:=I.list h;obtain⟨its',r',⟨o',n',e',_,_,d'⟩,_⟩:=I.list h';rw[e] at e';cases e';rw[d] at d'
 injection d' with d1 _
 have:its=its':=by simpa using congrArg Array.toList d1
 subst this;exact r.inj r'
end
abbrev Cx.wish(X:Cx)(E:pB->pH->Prop):Cx:={X with xe:=E}
abbrev Cx.nox(X:Cx):Cx:=X.wish λ_ _=>False
def Cx.Ok.wish{X:Cx}(ok:X.Ok)(E:pB->pH->Prop):(X.wish E).Ok:=
 ⟨ok.mod,ok.kind,ok.glob,ok.blt,ok.above,ok.inj,ok.has,ok.cab,ok.hd,ok.frames,ok.stk,ok.exf,ok.bs,ok.bsz,ok.noex,ok.exfs,ok.funs,ok.frf⟩
def Cx.Ok.unwish{X:Cx}{E:pB->pH->Prop}(ok:(X.wish E).Ok):X.Ok:=
 ⟨ok.mod,ok.kind,ok.glob,ok.blt,ok.above,ok.inj,ok.has,ok.cab,ok.hd,ok.frames,ok.stk,ok.exf,ok.bs,ok.bsz,ok.noex,ok.exfs,ok.funs,ok.frf⟩
section
variable{X:Cx}{pins:List (Addr×Obj)}{σ:St}{H:Hp}{s:pH}{E:pB->pH->Prop}
def Inv.wish(I:Inv X pins σ H s)(E:pB->pH->Prop):Inv (X.wish E) pins σ H s:=⟨I.ok.wish E,I.os,I.bare,I.base,I.loc,I.cell,I.free,I.freeC,I.pin,I.hok,I.len⟩
def Inv.unwish(I:Inv (X.wish E) pins σ H s):Inv X pins σ H s:=⟨I.ok.unwish,I.os,I.bare,I.base,I.loc,I.cell,I.free,I.freeC,I.pin,I.hok,I.len⟩
theorem SP.unwish{D:Ends}{f:Flow}{s':pH}(h:SP (X.wish E) pins D f s'):SP X pins D f s':=by
 cases f with
 |next=>obtain⟨σ',H',I,q⟩:=h;exact⟨σ',H',I.unwish,q⟩
 |brk=>obtain⟨σ',H',I,q⟩:=h;exact⟨σ',H',I.unwish,q⟩
 |cont=>obtain⟨σ',H',I,q⟩:=h;exact⟨σ',H',I.unwish,q⟩
 |ret u=>obtain⟨v,σ',H',I,r,q⟩:=h;exact⟨v,σ',H',I.unwish,r,q⟩
def PSs.nox{st:List Stmt}{t:TS}(h:PSs X.nox st t):PSs X st t:=λpins s σ H D I hw=>
 UX (h pins s σ H D (I.wish _) hw) (λ_ _ q=>q.unwish) λ_ _ z=>Um z
end
section
variable{X:Cx}{st:Stmt}{rest:List Stmt}{t u:TS}{e:Expr}{te:TE}{pos:Pos}
def Yj:TS:=λD σ H=>D.nx σ H
def zG(t u:TS):TS:=λD σ H=>t {D with nx:=u D} σ H
def zR:PSs X [] Yj:=λ_ _ σ H _ I h=>Ca ⟨σ,H,I,h⟩
theorem zK(h1:PS X st t)(h2:PSs X rest u):PSs X (st::rest) (zG t u):=by
 intro pins s σ H D I h;refine Fz (thn (h1 pins s σ H {D with nx:=u D} I h) λf s1 q=>?_)
 cases f with
 |next=>
  obtain⟨σ',H',I',q⟩:=q;exact h2 pins s1 σ' H' D I' q
 |ret v=>exact q
 |brk=>exact q
 |cont=>exact q
theorem zp(h1:PS X st t):PSs X [st] t:=by
 intro pins s σ H D I h;refine Fz (thn (h1 pins s σ H D I h) λf s1 q=>?_)
 cases f with
 |next=>exact Ca q
 |ret v=>exact q
 |brk=>exact q
 |cont=>exact q
def Inv.quiet{pins:List (Addr×Obj)}{σ:St}{H:Hp}{s:pH}(I:Inv X pins σ H s):interactive X.env=false:=by simp[interactive,I.ok.kind]
def qX(te:TE):TS:=λD σ H=>te σ H λ_ H1=>D.nx σ H1
def xD(he:PE X e te)(hs:Cp e none pos.line X.env=pure false:=by rfl):PS X (.Expr e pos) (qX te):=by
 intro pins s σ H D I h;exact wpAny_Expr_any (thn (he pins s σ H _ I h) λv s1⟨x,H1,I1,r1,q1⟩=>⟨σ,H1,I1,q1⟩) I.quiet hs
def jW(te:TE):TS:=λD σ H=>te σ H D.rt
def zq(he:PE X e te):PS X (.Return (some e) pos) (jW te):=by
 intro pins s σ H D I h;exact wpAny_Return_some (thn (he pins s σ H _ I h) λv s1⟨x,H1,I1,r1,q1⟩=>⟨x,σ,H1,I1,r1,q1⟩)
def Ja:TS:=λD _ H=>D.rt .non H
def j7(c:TT)(t u:TS):TS:=λD σ H=>c σ H λb H1=>if b=true then t D σ H1 else u D σ H1
theorem zL{c:Expr}{a b:List Stmt}{tc:TT}(hc:PT X c tc)(ha:PSs X a t)(hb:PSs X b u):PS X (.If c a b pos) (j7 tc t u):=by
 intro pins s σ H D I h;refine wpAny_If (thn (hc pins s σ H _ I h) λd s1⟨H1,I1,q1⟩=>?_)
 cases d with
 |true=>exact ha pins s1 σ H1 D I1 q1
 |false=>exact hb pins s1 σ H1 D I1 q1
def tNever:TS:=λ_ _ _=>False
def VC:PS X st tNever:=λ_ _ _ _ _ _ h=>h.elim
end
abbrev TG:=V->St->Hp->(St->Hp->Prop)->Prop
abbrev TGs:=List V->St->Hp->(St->Hp->Prop)->Prop
def PG(X:Cx)(target:Expr)(t:TG):Prop:=
 ∀(pins:List (Addr×Obj))(s:pH)(σ:St)(H:Hp)(v:V)(u:pB)(Q:St->Hp->Prop),Inv X pins σ H s->zm v u->t v σ H Q->
  wpAny (model X.prog X.w) X.A (assign target X.env u) (λ_ s'=>∃σ' H',Inv X pins σ' H' s'/\Q σ' H') X.xe s
def PGs(X:Cx)(ts:List Expr)(t:TGs):Prop:=
 ∀(pins:List (Addr×Obj))(s:pH)(σ:St)(H:Hp)(vs:List V)(us:List pB)(Q:St->Hp->Prop),Inv X pins σ H s->zn vs us->t vs σ H Q->
  wpAny (model X.prog X.w) X.A (FF ((CL ts X.env).map (·.2)) us) (λ_ s'=>∃σ' H',Inv X pins σ' H' s'/\Q σ' H') X.xe s
variable{n:Nat}
section
variable{X:Cx}{pos:Pos}
def gName(i:Nat):TG:=λv σ H Q=>Q (σ.set i (some v)) H
variable{i:Nat}{x:Str}
theorem qg(hN:X.N.Nodup)(hi:X.N[i]?=some x)(hx:Loc X.env.scope x)(hf:X.fn x=true∨X.env.scope.names.lookup x=some .local:=by first|exact .inl rfl|exact .inr rfl|assumption):PG X (.Name x pos) (gName i):=by
 intro pins s σ H v u Q I r h;exact FZ (Ym I hN hi hx r (λs' I'=>⟨_,H,I',h⟩) hf)
def gNil:TGs:=λvs σ H Q=>vs=[]/\Q σ H
def gCons(t:TG)(u:TGs):TGs:=λvs σ H Q=>∃v r,vs=v::r/\t v σ H λσ' H'=>u r σ' H' Q
def vI:PGs X [] gNil:=by
 intro pins s σ H vs us Q I r h;obtain⟨e,h⟩:=h;subst e
 cases r;exact Fa ⟨σ,H,I,h⟩
variable{es:List Expr}
theorem xt{e:Expr}{t:TG}{u:TGs}(h1:PG X e t)(h2:PGs X es u)
  (hs:(CL (e::es) X.env).map (·.2)=assign e X.env::(CL es X.env).map (·.2):=by rfl):PGs X (e::es) (gCons t u):=by
 intro pins s σ H vs us Q I r h;obtain⟨v,vr,e1,h⟩:=h;subst e1
 cases r with
 |cons r rr=>
  rw[hs];refine Ct (thn (h1 pins s σ H _ _ _ I r h) λ_ s1⟨σ1,H1,I1,q1⟩=>?_);exact h2 pins s1 σ1 H1 _ _ Q I1 rr q1
def gTup(K:pI)(n:Nat)(t:TGs):TG:=λv σ H Q=>∃a xs,v=.ref a/\SqT K H a xs/\xs.length=n/\t xs σ H Q
def zde{k:Nat}{t:TGs}(hc:X.calm=true)(h:PGs X es t)
  (hn:(CL es X.env).length=n:=by rfl)(hst:(CL es X.env).findIdx? (·.1)=none:=by rfl):PG X (.Tuple es k pos) (gTup X.K n t):=by
 intro pins s σ H v u Q I r hw;obtain⟨a,xs,e1,hq,hl,hw⟩:=hw;subst e1
 cases r;obtain⟨its,rv,ht,hz⟩:=I.tuple hq;refine assign_Tuple_tuple (I.ok.hd hc) ht (by simp[hn,←hl,rv.length]) hst λh' hx=>?_
 have I1:Inv X pins σ H {s with heap:=h'}:=I.kept (t':=s.toks) λb o e=>hx b o (ur (uC e)) e;exact h pins _ σ H xs _ Q I1 (by simpa using rv) hw
def w6(te:TE)(g:TG):TS:=λD σ H=>te σ H λx H1=>g x σ H1 D.nx
theorem Vg{e:Expr}{te:TE}{pos':Pos}(hN:X.N.Nodup)(hi:X.N[i]?=some x)(hx:Loc X.env.scope x)(he:PE X e te)(hs:Cp e (some (.Name x pos')) pos.line X.env=pure false:=by rfl)(hf:X.fn x=true∨X.env.scope.names.lookup x=some .local:=by first|exact .inl rfl|exact .inr rfl|assumption):
  PS X (.Assign [.Name x pos'] e pos) (w6 te (gName i)):=by
 intro pins s σ H D I h;refine wpAny_Assign_Name (thn (he pins s σ H _ I h) λv s1⟨y,H1,I1,r1,q1⟩=>?_) hs;exact Ym I1 hN hi hx r1 (λs2 I2=>⟨_,H1,I2,q1⟩) hf
def tPar(i j:Nat)(ta:TA):TS:=λD σ H=>ta σ H λvs H1=>∃v w,vs=[v,w]/\D.nx ((σ.set i (some v)).set j (some w)) H1
theorem Wb{j:Nat}{y:Str}{a b:Expr}{ta:TA}{px py pt:Pos}{kt k2 pt2}(hc:X.calm=true)(hN:X.N.Nodup)(hi:X.N[i]?=some x)(hj:X.N[j]?=some y)(hij:i≠j)
  (hx:X.env.scope.names.lookup x=some .local)(hy:X.env.scope.names.lookup y=some .local)(ha:PA X [a,b] ta)
  (hw:swappedStores [.Tuple [.Name x px,.Name y py] kt pt] (.Tuple [a,b] k2 pt2) X.env=pure (some [x,y]))
  (hs:swapsWithSole [.Tuple [.Name x px,.Name y py] kt pt] (.Tuple [a,b] k2 pt2) pos.line X.env=pure false:=by rfl):
  PS X (.Assign [.Tuple [.Name x px,.Name y py] kt pt] (.Tuple [a,b] k2 pt2) pos) (tPar i j ta):=by
 intro pins s σ H D I h;rw[exec_Assign_arm];refine pA (CO ?_);rw[hs];refine pA (pM ?_);rw[if_neg (by decide)]
 refine pA (Tuple_ (thn (ha _ pins s σ H _ I h) λus s1⟨vs,H1,I1,r1,q1⟩=>?_));obtain⟨v,w,e1,q1⟩:=q1;subst e1;obtain⟨u1,u2,rfl,rv,rw'⟩:∃u1 u2,us=[u1,u2]/\zm v u1/\zm w u2:=by
  cases r1 with
  |cons p q=>
   cases q with
   |cons p' q'=>
    cases q';exact⟨_,_,rfl,p,p'⟩
 refine As ?_ (by show 2<=sizeLine;decide)
 have I2:Inv X pins σ H1 {s1 with heap:=s1.heap.push {cls:=.type "tuple",data:=.seq [u1,u2].toArray}}:=I1.kept (t':=s1.toks) λb o e=>pU _ e;rw[hw];refine pA (pM ?_)
 show wpAny (model X.prog X.w) X.A (do rule "assign.swapped-stores";let items ←unpackItems (.ref s1.heap.objs.size) 2 none;FF [λv=>Gi X.env y v,λv=>Gi X.env x v] items.reverse;pure Flow.next) _ _ _
 refine pA (gC (pA (unpackItems_tuple (items:=#[u1,u2]) (I.ok.hd hc) (IsTup.new s1.heap _) λh' hx'=>?_)));have I3:=I2.kept (h':=h') (t':=s1.toks) λb o e=>hx' b o (ur (uC e)) e
 show wpAny _ _ (FF [λv=>Gi X.env y v,λv=>Gi X.env x v] [u2,u1]>>=λ_=>pure Flow.next) _ _ _
 refine pA (Ct (wpAny_bindName (Ym I3 hN hj (.inl hy) rw' (λs2 I4=>?_) (.inr hy))));refine Ct (wpAny_bindName (Ym I4 hN hi (.inl hx) rv (λs3 I5=>Fa (pM ?_)) (.inr hx)));rw[List.set_comm _ _ (BI hij)] at I5;exact⟨_,H1,I5,q1⟩
end
variable{body:List Stmt}
section
variable{X:Cx}{pos:Pos}
def Xc(c:TT)(tb:TS):TS:=λD σ H=>∃W:Nat->St->Hp->Prop,(∃m,W m σ H)/\∀m σ H,W m σ H->
 c σ H λb H1=>if b=true then ∃N:St->Hp->Prop,(∀σ' H',N σ' H'->∃m',m'<m/\W m' σ' H')/\tb {D with nx:=N,ct:=N,bk:=D.nx} σ H1 else D.nx σ H1
theorem Xk{c:Expr}{tc:TT}{tb:TS}(hp:PassesOwn (model X.prog X.w) X.A X.env X.xe)(hc:PT X c tc)(hb:PSs X body tb):PS X (.While c body [] pos) (Xc tc tb):=by
 intro pins s σ H D I h;obtain⟨W,⟨m0,w0⟩,turn⟩:=h;refine wpAny_While (codeAny_whileLoop (λn s'=>∃σ' H',Inv X pins σ' H' s'/\W n σ' H') ?_ m0 ⟨σ,H,I,w0⟩);rintro n s1 ⟨σ1,H1,I1,w1⟩;refine gu hp (thn (hc pins s1 σ1 H1 _ I1 (turn n σ1 H1 w1)) λb s2⟨H2,I2,q2⟩=>?_)
 cases b with
 |true=>
  obtain⟨N,hN,q2⟩:=q2;rw[if_pos rfl];refine gu hp (thn (hb pins s2 σ1 H2 _ I2 q2) λf s3 q3=>?_)
  cases f with
  |next=>
   obtain⟨σ3,H3,I3,n3⟩:=q3;obtain⟨m',hm,w3⟩:=hN σ3 H3 n3;exact⟨m',hm,σ3,H3,I3,w3⟩
  |cont=>
   obtain⟨σ3,H3,I3,n3⟩:=q3;obtain⟨m',hm,w3⟩:=hN σ3 H3 n3;exact⟨m',hm,σ3,H3,I3,w3⟩
  |brk=>exact q3
  |ret v=>exact q3
 |false=>
  rw[if_neg uO];exact Ca ⟨σ1,H2,I2,q2⟩
end
structure It where
 go:Nat->Hp->Prop
 yld:Nat->Hp->V->Hp->Prop
 stop:Nat->Hp->Prop
def xo(X:Cx)(pins:List (Addr×Obj))(H:Hp)(b:Addr):Prop:=
 H b=none/\b≠X.env.locals/\b∉X.fs/\(b∈X.ex∨X.s₀.heap.objs.size<=b)/\(∀x c,X.env.cells.lookup x=some c->c≠b)/\∀p∈X.pn++pins,p.1≠b
def Inv.fpOk{X:Cx}{pins:List (Addr×Obj)}{σ:St}{H H':Hp}{s:pH}{b:Addr}(I:Inv X pins σ H s)(hb:s.heap.objs.size<=b)(hn:H' b=none):xo X pins H' b:=by
 refine⟨hn,gU (pf I.lt hb),I.nofs hb,.inr (pz I.sz hb),λx c e z=>?_,λp hp z=>?_⟩
 ·obtain⟨v,q⟩:=I.cell x c e;exact absurd (pf q.lt (by rw[z];exact hb)) (Ur _)
 ·exact absurd (pf (uC (I.pin p hp).1) (by rw[z];exact hb)) (Ur _)
structure Turn(P:uB)(w:uW)(K:pI)(tg:Expr)(J:It)(fp:List Addr)(it:Addr)(tn:Nat->Heap->Prop):Prop where
 mem:it∈fp
 obj:∀i h,tn i h->∀b∈fp,∃o,h.get? b=some o/\∀v,o.data≠.cell v
 keep:∀i h h',tn i h->(∀b∈fp,∀o,h.get? b=some o->h'.get? b=some o)->tn i h'
 item:∀(X:Cx),X.prog=P->X.w=w->X.K=K->X.calm=true->∀(i:Nat)(pins:List (Addr×Obj))(s:pH)(σ:St)(H:Hp)(E:pB->pH->Prop),Inv X pins σ H s->(∀b∈fp,xo X pins H b)->tn i s.heap->J.go i H->
  wpAny (model P w) X.A (GA (.ref it)) (λr s1=>∃u,r=some u/\
   wpAny (model P w) X.A (Cb tg (.ref it) u) (λ_ s2=>∃x H',Inv X pins σ H' s2/\zm x u/\J.yld i H x H'/\tn (i+1) s2.heap/\∀b∈fp,H' b=none) E s1) E s
 done:∀(X:Cx),X.prog=P->X.w=w->X.K=K->X.calm=true->∀(i:Nat)(pins:List (Addr×Obj))(s:pH)(σ:St)(H:Hp)(E:pB->pH->Prop),Inv X pins σ H s->(∀b∈fp,xo X pins H b)->tn i s.heap->J.stop i H->
  wpAny (model P w) X.A (GA (.ref it)) (λr s1=>r=none/\Inv X pins σ H s1) E s
 self:∀(A:uv)(i:Nat)(s:pH)(Q:pB->pH->Prop)(E:pB->pH->Prop),tn i s.heap->Q (.ref it) s->wpAny (model P w) A (pyIter (.ref it)) Q E s
abbrev TI:=St->Hp->(It->Hp->Prop)->Prop
def PIE(X:Cx)(pins:List (Addr×Obj))(σ:St)(tg:Expr)(R:It->Hp->Prop)(itv:pB)(s2:pH):Prop:=
 ∃(it:Addr)(fp:List Addr)(tn:Nat->Heap->Prop)(J:It)(H':Hp),itv=.ref it/\Inv X pins σ H' s2/\Turn X.prog X.w X.K tg J fp it tn/\tn 0 s2.heap/\(∀b∈fp,xo X pins H' b)/\R J H'
def PI(X:Cx)(tg iter:Expr)(wi:TI):Prop:=
 ∀(pins:List (Addr×Obj))(s:pH)(σ:St)(H:Hp)(R:It->Hp->Prop),Inv X pins σ H s->wi σ H R->
  wpAny (model X.prog X.w) X.A (eval iter X.env) (λv s1=>wpAny (model X.prog X.w) X.A (pyIter v) (PIE X pins σ tg R) X.xe s1) X.xe s
theorem WG{A:uv}{E:pB->pH->Prop}{s:pH}{tg:Expr}{it:Addr}{u:pB}{o:Obj}{n:String}{vs:Array pB}{Q:Unit->pH->Prop}(ho:s.heap.get? it=some o)(hc:o.cls=.type n)(hd:o.data=.fields vs)
  (hn:["enumerate","zip","dict_itemiterator","dict_reverseitemiterator","odict_iterator","itertools.zip_longest","itertools.pairwise"].contains n=false)(hQ:Q () s):wpAny M A (Cb tg (.ref it) u) Q E s:=by
 unfold Cb
 cases tg<;>first
  |exact pM hQ
  |(cases u<;>first
    |exact pM hQ
    |(refine pA (wpAny_load ho ?_)
      rw[hc,hd];show wpAny M A (if(["enumerate","zip","dict_itemiterator","dict_reverseitemiterator","odict_iterator","itertools.zip_longest","itertools.pairwise"].contains n&&vs[0]?==some (AL _))=true then _ else _) Q E s;rw[if_neg (by intro h;rw[hn,Bool.false_and] at h;cases h)]
      exact pM hQ))
noncomputable def Itl(K:pI)(a:Addr):It:=
 ⟨λi H=>∃xs x,SqL K H a xs/\xs[i]?=some x,λi H x H'=>H'=H/\∀xs,SqL K H a xs->xs[i]?=some x,λi H=>∃xs,SqL K H a xs/\xs.length<=i⟩
noncomputable def Itr(lo:Int)(n:Nat):It:=⟨λi _=>i<n,λi H x H'=>H'=H/\x=.int (lo+i),λi _=>n<=i⟩
theorem zg2{P:uB}{w:uW}{K:pI}{tg:Expr}(a it:Addr):Turn P w K tg (Itl K a) [it] it (λi h=>h.IsListIter it a i) where
 mem:=by simp
 obj:=λi h st b hb=>by
  have e:b=it:=by simpa using hb
  subst e;obtain⟨o,e,c,d⟩:=st;exact⟨o,e,λv z=>by rw[d] at z;cases z⟩
 keep:=λi h h' st k=>st.at λo e=>k it (by simp) o e
 item:=by
  intro X hP hw hK hc i pins s σ H E I hf st hg;subst hP hw hK;obtain⟨xs,x,hq,hx⟩:=hg;obtain⟨its,rv,p,hz⟩:=I.list hq;obtain⟨u,hu,ru⟩:=rv.get hx;obtain⟨f0,f1,f2,f3,f4,f5⟩:=hf it (by simp)
  refine wpAny_pyNext_list_item st p.isList (x:=u) (by simpa using hu) λh' st' sb=>?_
  have I1:Inv X pins σ H {s with heap:=h'}:=I.turned (t':=s.toks) (λb o hb e=>(sb.2 b hb).trans e) f0 f1 f3 f4 f5;obtain⟨o,e,c,d⟩:=id st';exact⟨u,rfl,WG (s:={s with heap:=h'}) e c d (by decide) ⟨x,H,I1,ru,⟨rfl,λys hy=>by rw[I.list_inj hy hq];exact hx⟩,st',λb hb=>(hf b hb).1⟩⟩
 done:=by
  intro X hP hw hK hc i pins s σ H E I hf st hg;subst hP hw hK;obtain⟨xs,hq,hx⟩:=hg;obtain⟨its,rv,p,hz⟩:=I.list hq;obtain⟨f0,f1,f2,f3,f4,f5⟩:=hf it (by simp)
  have hl:=rv.length;exact wpAny_pyNext_list_end (I.ok.hd hc) st p.isList (by simp;lia) λh' eb=>⟨rfl,I.turned (t':=s.toks) (λb o hb e=>eb b o hb e) f0 f1 f3 f4 f5⟩
 self:=λ_ _ _ _ _ st h=>wpAny_pyIter_listiter st h
theorem zfx{P:uB}{w:uW}{K:pI}{tg:Expr}(it:Addr)(lo:Int)(n:Nat):Turn P w K tg (Itr lo n) [it] it (λi h=>IsRangeIter h it (lo+(i:Nat)*1) ((n:Int)-(i:Nat)) 1) where
 mem:=by simp
 obj:=λi h st b hb=>by
  have e:b=it:=by simpa using hb
  subst e;exact⟨_,st,λv z=>by
   have z':HV _=HF v:=z
   cases z'⟩
 keep:=λi h h' st k=>k it (by simp) _ st
 item:=by
  intro X hP hw hK hc i pins s σ H E I hf st hg;subst hP hw hK;obtain⟨f0,f1,f2,f3,f4,f5⟩:=hf it (by simp)
  have W:=Walks.range (prog:=X.prog) (w:=X.w) (I.ok.hd hc) it lo 1 n;refine W.item i s _ _ hg st λv h' tk hv st' kk=>?_;obtain⟨t,rfl⟩:=hv;have I1:Inv X pins σ H {s with heap:=h',toks:=tk}:=I.turned (λb o hb e=>kk b o (by simpa using hb) e) f0 f1 f3 f4 f5
  refine⟨_,rfl,WG (s:={s with heap:=h',toks:=tk}) (n:="range_iterator") st' rfl rfl (by decide) ⟨.int (lo+i),H,I1,⟨t,?_⟩,⟨rfl,rfl⟩,st',λb hb=>(hf b hb).1⟩⟩
  rw[HW]
 done:=by
  intro X hP hw hK hc i pins s σ H E I hf st hg;subst hP hw hK;obtain⟨f0,f1,f2,f3,f4,f5⟩:=hf it (by simp)
  exact wpAny_pyNext_range_end (I.ok.hd hc) st (by have:n<=i:=hg;lia) λh' eb=>⟨rfl,I.turned (t':=s.toks) (λb o hb e=>eb b o hb e) f0 f1 f3 f4 f5⟩
 self:=λ_ _ _ _ _ st h=>wpAny_pyIter_rangeiter st h
variable{fp:List Addr}{g:TG}
section
variable{X:Cx}{tg:Expr}
def zX(K:pI)(tl:TE):TI:=λσ H R=>tl σ H λx H1=>∃a,x=.ref a/\(∃xs,SqL K H1 a xs)/\R (Itl K a) H1
def yd{l:Expr}{tl:TE}(hl:PE X l tl):PI X tg l (zX X.K tl):=by
 intro pins s σ H R I h;refine thn (hl pins s σ H _ I h) λv s1⟨x,H1,I1,r1,q1⟩=>?_;obtain⟨a,e,⟨xs,hq⟩,q⟩:=q1;subst e
 cases r1;obtain⟨its,rv,p,hz⟩:=I1.list hq;refine DP p.isList ?_;refine⟨s1.heap.objs.size,[s1.heap.objs.size],_,_,H1,rfl,I1.kept (t':=s1.toks) λb o e=>pU _ e,zg2 a _,⟨_,uM _ rfl,rfl,rfl⟩,λb hb=>?_,q⟩;have e:b=s1.heap.objs.size:=by simpa using hb
 subst e;exact I1.fpOk (pG _) (I1.hok.fresh (pG _))
variable{pins:List (Addr×Obj)}{σ:St}{H:Hp}
theorem zfh{s:pH}{R:It->Hp->Prop}{E:pB->pH->Prop}{lo hi:Int}{t u v:Tok}{tk:Nat}(I:Inv X pins σ H s)(h1: -(2^62)<=lo)(h2:lo<2^62)(h3: -(2^62)<=hi)(h4:hi<2^62)
  (q:R (Itr lo (hi-lo).toNat) H):wpAny (model X.prog X.w) X.A (pyIter (.ref s.heap.objs.size)) (PIE X pins σ tg R) E {s with heap:=s.heap.push {cls:=.type "range",data:=.fields #[.int lo t,.int hi u,.int 1 v]},toks:=tk}:=by
 refine wpAny_pyIter_range (IsRange.new ..) (small_one h1 h2 h3 h4) ?_;have I1:Inv X pins σ H {s with heap:=s.heap.push {cls:=.type "range",data:=.fields #[.int lo t,.int hi u,.int 1 v]},toks:=tk}:=I.kept λb o e=>pU _ e;refine⟨(s.heap.push {cls:=.type "range",data:=.fields #[.int lo t,.int hi u,.int 1 v]}).objs.size,[(s.heap.push {cls:=.type "range",data:=.fields #[.int lo t,.int hi u,.int 1 v]}).objs.size],_,_,H,rfl,
  I1.kept (t':=tk) λb o e=>pU _ e,zfx _ lo (hi-lo).toNat,?_,λb hb=>?_,q⟩
 ·have e1:lo+((0:Nat):Int)*1=lo:=by simp
  have e2:(((hi-lo).toNat:Nat):Int)-((0:Nat):Int)=Builtin.Range.rangeSize lo hi 1:=by rw[rangeSize_one];split<;>lia
  show IsRangeIter _ _ (lo+((0:Nat):Int)*1) ((((hi-lo).toNat:Nat):Int)-((0:Nat):Int)) 1
  rw[e1,e2];exact uM _ rfl
 ·have e:b=(s.heap.push {cls:=.type "range",data:=.fields #[.int lo t,.int hi u,.int 1 v]}).objs.size:=by simpa using hb
  subst e;exact I1.fpOk (pG _) (I1.hok.fresh (pG _))
def wv(ta:TA):TI:=λσ H R=>ta σ H λvs H1=>∃j:Int,vs=[.int j]/\ -(2^62)<=j/\j<2^62/\R (Itr 0 j.toNat) H1
variable{pos:Pos}
theorem wG{a:Expr}{ta:TA}{p:Pos}(hg:Gl X "range")(hm:X.mg "range"=none)(ha:PA X [a] ta)(hs:QP [a] X.env=[(false,eval a X.env)]:=by rfl):PI X tg (.Call (.Name "range" p) [a] [] pos) (wv ta):=by
 intro pins s σ H R I h;refine Call_ (vR I hg hm boot_range (gX (thn (ha pos pins s σ H _ I h) λus s1⟨vs,H1,I1,r1,q1⟩=>?_) hs rfl));obtain⟨j,e,q1,q2,q⟩:=q1;subst e
 cases r1 with
 |cons r rr=>
  cases rr;obtain⟨t,rfl⟩:=r;exact call_range_1 (zfh I1 (by lia) (by lia) q1 q2 (by simpa using q))
def tFor(wi:TI)(g:TG)(tb:TS):TS:=λD σ H=>wi σ H λJ H1=>∃W:Nat->Nat->St->Hp->Prop,(∃m,W 0 m σ H1)/\∀i m σ H,W i m σ H->
 (J.stop i H/\D.nx σ H)∨(J.go i H/\∃N:St->Hp->Prop,(∀σ' H',N σ' H'->∃m',m'<m/\W (i+1) m' σ' H')/\∀x H',J.yld i H x H'->g x σ H' λσ2 H2=>tb {D with nx:=N,ct:=N,bk:=D.nx} σ2 H2)
noncomputable def Yb(fp:List Addr)(h:Heap):List (Addr×Obj):=fp.filterMap λb=>(h.get? b).map λo=>(b,o)
def XA{h:Heap}{b:Addr}{o:Obj}(hb:b∈fp)(e:h.get? b=some o):(b,o)∈Yb fp h:=List.mem_filterMap.mpr ⟨b,hb,by rw[e];rfl⟩
theorem zgf{h:Heap}{p:Addr×Obj}(hp:p∈Yb fp h):p.1∈fp/\h.get? p.1=some p.2:=by
 obtain⟨b,hb,e⟩:=List.mem_filterMap.mp hp
 cases q:h.get? b with
 |none=>rw[q] at e;cases e
 |some o=>
  rw[q] at e;have e':(b,o)=p:=ux e;subst e';exact⟨hb,q⟩
def Inv.pinned{s:pH}(I:Inv X pins σ H s)(hf:∀b∈fp,xo X pins H b)(ho:∀b∈fp,∃o,s.heap.get? b=some o/\∀v,o.data≠.cell v):Inv X (pins++Yb fp s.heap) σ H s:=
 I.pins_of λp hp=>(pd.mp hp).elim (λz=>I.pin p (pY _ z)) λz=>by
  obtain⟨hb,e⟩:=zgf z;obtain⟨f0,f1,f2,_⟩:=hf p.1 hb;obtain⟨o,e',d⟩:=ho p.1 hb;rw[e] at e';cases e';exact⟨e,f0,f1,f2,d⟩
def Inv.unpinned{pl:List (Addr×Obj)}{s:pH}(I:Inv X (pins++pl) σ H s):Inv X pins σ H s:=I.pins_of λp hp=>I.pin p (pY _ (Qp _ hp))
theorem yv{iter:Expr}{wi:TI}{tb:TS}(hp:PassesOwn (model X.prog X.w) X.A X.env X.xe)(hc:X.calm=true)(hi:PI X tg iter wi)(hg:PG X tg g)(hb:PSs X body tb)
  (hs:∀x,AB iter X.env x=pure x:=by intro _;rfl):PS X (.For tg iter body [] pos) (tFor wi g tb):=by
 intro pins s σ H D I h;refine wpAny_For (thn (hi pins s σ H _ I h) λv s1 h1=>thn h1 λitv s2 h2=>?_) hs;obtain⟨it,fp,tn,J,H2,e,I2,T,st2,f2,W,⟨m0,w0⟩,turn⟩:=h2;subst e;have stat:∀{H':Hp},(∀b∈fp,H' b=none)->∀b∈fp,xo X pins H' b:=λhn b hb=>⟨hn b hb,(f2 b hb).2⟩;refine codeAny_forLoop_any (λn s'=>∃i σ' H',Inv X pins σ' H' s'/\tn i s'.heap/\(∀b∈fp,H' b=none)/\W i n σ' H') ?_ m0 ⟨0,σ,H2,I2,st2,λb hb=>(f2 b hb).1,w0⟩;rintro n s3 ⟨i,σ3,H3,I3,st3,fr3,w3⟩;rcases turn i n σ3 H3 w3 with⟨stop,qn⟩|⟨go,N,hN,step⟩
 ·refine gu hp (thn (T.done X rfl rfl rfl hc i pins s3 σ3 H3 X.xe I3 (stat fr3) st3 stop) λr s4⟨hr,I4⟩=>?_);subst hr;exact Ca ⟨σ3,H3,I4,qn⟩
 ·refine gu hp (thn (T.item X rfl rfl rfl hc i pins s3 σ3 H3 X.xe I3 (stat fr3) st3 go) λr s4⟨u,hr,h4⟩=>?_);subst hr;refine gu hp (thn h4 λ_ s5⟨x,H5,I5,r5,y5,st5,fr5⟩=>?_);have I5':=I5.pinned (stat fr5) (T.obj _ _ st5);refine gu hp (thn (hg _ s5 σ3 H5 x u _ I5' r5 (step x H5 y5)) λ_ s6⟨σ6,H6,I6,q6⟩=>?_);refine gu hp (thn (hb _ s6 σ6 H6 _ I6 q6) λf s7 q7=>?_);have again:∀{σ7:St}{H7:Hp},Inv X (pins++Yb fp s5.heap) σ7 H7 s7->N σ7 H7->∃m,m<n/\∃i σ' H',Inv X pins σ' H' s7/\tn i s7.heap/\(∀b∈fp,H' b=none)/\W i m σ' H':=λ{σ7 H7} I7 n7=>by
   obtain⟨m',hm,w7⟩:=hN σ7 H7 n7;refine⟨m',hm,i+1,σ7,H7,I7.unpinned,T.keep _ _ _ st5 λb hb o e=>(I7.pin (b,o) (pY _ (pY _ (XA hb e)))).1,λb hb=>?_,w7⟩;obtain⟨o,e,d⟩:=T.obj _ _ st5 b hb;exact(I7.pin (b,o) (pY _ (pY _ (XA hb e)))).2.1
  cases f with
  |next=>obtain⟨σ7,H7,I7,n7⟩:=q7;exact again I7 n7
  |cont=>obtain⟨σ7,H7,I7,n7⟩:=q7;exact again I7 n7
  |brk=>obtain⟨σ7,H7,I7,q7⟩:=q7;exact⟨σ7,H7,I7.unpinned,q7⟩
  |ret v=>obtain⟨x7,σ7,H7,I7,r7,q7⟩:=q7;exact⟨x7,σ7,H7,I7.unpinned,r7,q7⟩
end
theorem zew{K:pI}{a:Addr}{xs:List V}{tb:TS}{D:Ends}{σ:St}{H:Hp}(Pv:Nat->St->Hp->Prop)(h0:Pv 0 σ H)(hl:∀i σ H,i<=xs.length->Pv i σ H->SqL K H a xs)
  (hs:∀i x σ H,xs[i]?=some x->Pv i σ H->g x σ H λσ2 H2=>tb {D with nx:=Pv (i+1),ct:=Pv (i+1),bk:=D.nx} σ2 H2)(hd:∀σ H,Pv xs.length σ H->D.nx σ H):
  ∃W:Nat->Nat->St->Hp->Prop,(∃m,W 0 m σ H)/\∀i m σ H,W i m σ H->
   ((Itl K a).stop i H/\D.nx σ H)∨((Itl K a).go i H/\∃N:St->Hp->Prop,(∀σ' H',N σ' H'->∃m',m'<m/\W (i+1) m' σ' H')/\∀x H',(Itl K a).yld i H x H'->g x σ H' λσ2 H2=>tb {D with nx:=N,ct:=N,bk:=D.nx} σ2 H2):=by
 refine⟨λi m σ H=>m=xs.length-i/\i<=xs.length/\Pv i σ H,⟨xs.length,by simp,uL _,h0⟩,?_⟩
 rintro i m σ H ⟨rfl,hi,p⟩;have q:=hl i σ H hi p
 by_cases hlt:i<xs.length
 ·refine .inr ⟨⟨xs,xs[i],q,by simp[hlt]⟩,Pv (i+1),λσ' H' p'=>⟨xs.length-(i+1),by omega,rfl,hlt,p'⟩,λx H' y=>?_⟩
  obtain⟨e,y⟩:=y;subst e;exact hs i x σ _ (y xs q) p
 ·have e:i=xs.length:=by lia
  subst e;exact .inl ⟨⟨xs,q,pG _⟩,hd σ H p⟩
theorem zej{lo:Int}{tb:TS}{D:Ends}{σ:St}{H:Hp}(Pv:Nat->St->Hp->Prop)(h0:Pv 0 σ H)
  (hs:∀i σ H,i<n->Pv i σ H->g (.int (lo+i)) σ H λσ2 H2=>tb {D with nx:=Pv (i+1),ct:=Pv (i+1),bk:=D.nx} σ2 H2)(hd:∀σ H,Pv n σ H->D.nx σ H):
  ∃W:Nat->Nat->St->Hp->Prop,(∃m,W 0 m σ H)/\∀i m σ H,W i m σ H->
   ((Itr lo n).stop i H/\D.nx σ H)∨((Itr lo n).go i H/\∃N:St->Hp->Prop,(∀σ' H',N σ' H'->∃m',m'<m/\W (i+1) m' σ' H')/\∀x H',(Itr lo n).yld i H x H'->g x σ H' λσ2 H2=>tb {D with nx:=N,ct:=N,bk:=D.nx} σ2 H2):=by
 refine⟨λi m σ H=>m=n-i/\i<=n/\Pv i σ H,⟨n,by simp,uL _,h0⟩,?_⟩
 rintro i m σ H ⟨rfl,hi,p⟩
 by_cases hlt:i<n
 ·refine .inr ⟨hlt,Pv (i+1),λσ' H' p'=>⟨n-(i+1),by lia,rfl,hlt,p'⟩,λx H' y=>?_⟩
  obtain⟨e,y⟩:=y;subst e y;exact hs i σ _ hlt p
 ·have e:i=n:=by lia
  subst e;exact .inl ⟨pG _,hd σ H p⟩
theorem zcp{c:TT}{tb:TS}{D:Ends}{σ:St}{H:Hp}(Pv:St->Hp->Prop)(μ:St->Hp->Nat)(h0:Pv σ H)
  (hs:∀σ H,Pv σ H->c σ H λb H1=>if b=true then tb {D with nx:=λσ' H'=>Pv σ' H'/\μ σ' H'<μ σ H,ct:=λσ' H'=>Pv σ' H'/\μ σ' H'<μ σ H,bk:=D.nx} σ H1 else D.nx σ H1)
  (mono:∀σ H Q Q',(∀b H1,Q b H1->Q' b H1)->c σ H Q->c σ H Q'):Xc c tb D σ H:=by
 refine⟨λm σ H=>m=μ σ H/\Pv σ H,⟨_,rfl,h0⟩,?_⟩;rintro m σ H ⟨rfl,p⟩;refine mono σ H _ _ (λb H1 q=>?_) (hs σ H p)
 cases b with
 |true=>exact⟨_,λσ' H'⟨p',l⟩=>⟨_,l,rfl,p'⟩,q⟩
 |false=>exact q
abbrev R2:=V->V->Hp->VK->Prop
def OpR(X:Cx)(f:pB->pB->Sem pB)(r:R2):Prop:=
 ∀(pins:List (Addr×Obj))(s:pH)(σ:St)(H:Hp)(x y:V)(v u:pB)(Q:VK),Inv X pins σ H s->zm x v->zm y u->r x y H Q->
  wpAny (model X.prog X.w) X.A (f v u) (EP X pins σ Q) X.xe s
def UnR(X:Cx)(f:pB->Sem pB)(r:V->Hp->VK->Prop):Prop:=
 ∀(pins:List (Addr×Obj))(s:pH)(σ:St)(H:Hp)(x:V)(v:pB)(Q:VK),Inv X pins σ H s->zm x v->r x H Q->
  wpAny (model X.prog X.w) X.A (f v) (EP X pins σ Q) X.xe s
def yF(X:Cx)(f:pB)(r:List V->Hp->VK->Prop):Prop:=
 ∀(pins:List (Addr×Obj))(s:pH)(σ:St)(H:Hp)(xs:List V)(us:List pB)(Q:VK),Inv X pins σ H s->zn xs us->r xs H Q->
  wpAny (model X.prog X.w) X.A (call f us) (EP X pins σ Q) X.xe s
def tOp(r:R2)(ta tb:TE):TE:=λσ H Q=>ta σ H λx H1=>tb σ H1 λy H2=>r x y H2 Q
def tUn(r:V->Hp->VK->Prop)(ta:TE):TE:=λσ H Q=>ta σ H λx H1=>r x H1 Q
def rI(C:Int->Int->Prop)(g:Int->Int->V):R2:=λx y H Q=>∃i j,x=.int i/\y=.int j/\C i j/\Q (g i j) H
def rI0(g:Int->Int->V):R2:=λx y H Q=>∃i j,x=.int i/\y=.int j/\Q (g i j) H
def rU(g:Int->V):V->Hp->VK->Prop:=λx H Q=>∃i,x=.int i/\Q (g i) H
variable{g:Int->Int->Int}
section
variable{X:Cx}{a b c:Expr}{ta tb tc:TE}{pos:Pos}
def binT(ha:PE X a ta)(hb:PE X b tb){pins:List (Addr×Obj)}{s:pH}{σ:St}{H:Hp}{R:V->V->Hp->Prop}(I:Inv X pins σ H s)
  (h:ta σ H λx H1=>tb σ H1 λy H2=>R x y H2){Q:pB->pH->Prop}{f:pB->pB->Sem pB}
  (hf:∀v u s2 x y H2,Inv X pins σ H2 s2->zm x v->zm y u->R x y H2->wpAny (model X.prog X.w) X.A (f v u) Q X.xe s2):
  wpAny (model X.prog X.w) X.A (eval a X.env) (λv s₁=>wpAny (model X.prog X.w) X.A (eval b X.env) (λu s₂=>wpAny (model X.prog X.w) X.A (f v u) Q X.xe s₂) X.xe s₁) X.xe s:=by
 refine thn (ha pins s σ H _ I h) λv s1⟨x,H1,I1,r1,q1⟩=>?_;refine thn (hb pins s1 σ H1 _ I1 q1) λu s2⟨y,H2,I2,r2,q2⟩=>?_;exact hf v u s2 x y H2 I2 r1 r2 q2
def zc{op:Operator}{r:R2}(ho:OpR X (Bk op) r)(ha:PE X a ta)(hb:PE X b tb):PE X (.BinOp a op b pos) (tOp r ta tb):=by
 intro pins s σ H Q I h;exact wpAny_BinOp (binT ha hb I h λv u s2 x y H2 I2 rx ry q=>ho pins s2 σ H2 x y v u Q I2 rx ry q)
def Vh{op:UnaryOp}{r:V->Hp->VK->Prop}(ho:UnR X (unaryOp op) r)(ha:PE X a ta):PE X (.UnaryOp op a pos) (tUn r ta):=by
 intro pins s σ H Q I h;exact UnaryOp_ (thn (ha pins s σ H _ I h) λv s1⟨x,H1,I1,r1,q1⟩=>ho pins s1 σ H1 x v Q I1 r1 q1)
variable{f:pB->pB->Sem pB}
def opI{C:Int->Int->Prop}
  (rule:∀(i j:Int)(t u:Tok)(s:pH)(Q:pB->pH->Prop)(E:pB->pH->Prop),C i j->Q (.int (g i j) s.toks) {s with toks:=s.toks+1}->wpAny (model X.prog X.w) X.A (f (.int i t) (.int j u)) Q E s):
  OpR X f (rI C λi j=>.int (g i j)):=by
 intro pins s σ H x y v u Q I rx ry h;obtain⟨i,j,rfl,rfl,hc,q⟩:=h;obtain⟨t,rfl⟩:=rx;obtain⟨t',rfl⟩:=ry;exact rule i j t t' s _ _ hc ⟨.int (g i j),H,I.tok _,⟨_,rfl⟩,q⟩
def opI0
  (rule:∀(i j:Int)(t u:Tok)(s:pH)(Q:pB->pH->Prop)(E:pB->pH->Prop),Q (.int (g i j) s.toks) {s with toks:=s.toks+1}->wpAny (model X.prog X.w) X.A (f (.int i t) (.int j u)) Q E s):
  OpR X f (rI0 λi j=>.int (g i j)):=by
 intro pins s σ H x y v u Q I rx ry h;obtain⟨i,j,rfl,rfl,q⟩:=h;obtain⟨t,rfl⟩:=rx;obtain⟨t',rfl⟩:=ry;exact rule i j t t' s _ _ ⟨.int (g i j),H,I.tok _,⟨_,rfl⟩,q⟩
def opB0{g:Int->Int->Bool}
  (rule:∀(i j:Int)(t u:Tok)(s:pH)(Q:pB->pH->Prop)(E:pB->pH->Prop),Q (.bool (g i j)) s->wpAny (model X.prog X.w) X.A (f (.int i t) (.int j u)) Q E s):
  OpR X f (rI0 λi j=>.bl (g i j)):=by
 intro pins s σ H x y v u Q I rx ry h;obtain⟨i,j,rfl,rfl,q⟩:=h;obtain⟨t,rfl⟩:=rx;obtain⟨t',rfl⟩:=ry;exact rule i j t t' s _ _ ⟨.bl (g i j),H,I,rfl,q⟩
def CDiv(i j:Int):Prop:=0<j/\j<1073741824
def CMul(i j:Int):Prop:=(-(2^64)<i/\i<2^64)∨(-(2^64)<j/\j<2^64)
def CMul.ok{i j:Int}(h:CMul i j):IntMulOk i j:=by
 rcases h with⟨h1,h2⟩|⟨h1,h2⟩
 ·exact .of_left (intBits_le_64 h1 h2)
 ·exact .of_right (intBits_le_64 h1 h2)
def zQ:OpR X (Bk .Add) (rI0 λi j=>.int (i+j)):=opI0 λ_ _ _ _ _ _ _ q=>add_int q
def yr:OpR X (Bk .Sub) (rI0 λi j=>.int (i-j)):=opI0 λ_ _ _ _ _ _ _ q=>sub_int q
def y4:OpR X (Bk .Mult) (rI CMul λi j=>.int (i*j)):=opI λ_ _ _ _ _ _ _ hc q=>mul_int q hc.ok
theorem wQ:OpR X (Bk .FloorDiv) (rI CDiv λi j=>.int (i/j)):=opI λi j _ _ _ _ _ hc q=>by
 have h1:(0:Int)<j:=hc.1;have h2:j<1073741824:=hc.2;exact floordiv_int (by lia) (by rw[UQ i (by lia)];exact q) (.inl (PyProof.noPylong_small (by omega)))
theorem yn:OpR X (Bk .Mod) (rI (λ_ j=>0<j) λi j=>.int (i%j)):=opI λi j _ _ _ _ _ hc q=>by
 have h1:(0:Int)<j:=hc;exact mod_int' (by lia) (by rw[Us i (by lia)];exact q)
def jx:OpR X (Bk .Mod) (rI (λ_ j=>j≠0) λi j=>.int (i.fmod j)):=opI λ_ _ _ _ _ _ _ hc q=>mod_int' hc q
def unI{f:pB->Sem pB}{g:Int->Int}
  (rule:∀(i:Int)(t:Tok)(s:pH)(Q:pB->pH->Prop)(E:pB->pH->Prop),Q (.int (g i) s.toks) {s with toks:=s.toks+1}->wpAny (model X.prog X.w) X.A (f (.int i t)) Q E s):
  UnR X f (rU λi=>.int (g i)):=by
 intro pins s σ H x v Q I rx h;obtain⟨i,rfl,q⟩:=h;obtain⟨t,rfl⟩:=rx;exact rule i t s _ _ ⟨.int (g i),H,I.tok _,⟨_,rfl⟩,q⟩
def Wu:UnR X (unaryOp .USub) (rU λi=>.int (-i)):=unI λ_ _ _ _ _ q=>neg_int q
end
noncomputable def scal:V->V->Bool
 |.non,.non=>true|.non,.int _=>true|.int _,.non=>true|.non,.bl _=>true|.bl _,.non=>true|.non,.str _=>true|.str _,.non=>true
 |.int _,.int _=>true|.bl _,.bl _=>true|.str _,.str _=>true|.byt _,.byt _=>true
 |.int _,.str _=>true|.str _,.int _=>true|.bl _,.str _=>true|.str _,.bl _=>true
 |_,_=>false
def rEq:R2:=λx y H Q=>scal x y=true/\Q (.bl (decide (x=y))) H
def rNe:R2:=λx y H Q=>scal x y=true/\Q (.bl (!decide (x=y))) H
def zcc{i j:Int}:decide (V.int i=V.int j)=(i==j):=by
 rw[Qa]
 simp
def JN{i j:Bool}:decide (V.bl i=V.bl j)=(i==j):=by
 rw[Qa]
 simp
def ze9{i j:Str}:decide (V.str i=V.str j)=(i==j):=by
 rw[Qa]
 simp
def JR{i j:Array UInt8}:decide (V.byt i=V.byt j)=(i.toList==j.toList):=by
 rw[Qa]
 cases i
 cases j
 simp
variable{op:CmpOp}
section
variable{X:Cx}{a b c:Expr}{ta tb tc:TE}{pos:Pos}
def zS{pins:List (Addr×Obj)}{σ:St}{H:Hp}{s:pH}{Q:VK}{k k':Bool}(I:Inv X pins σ H s)(q:Q (.bl k) H)(e:k=k'):EP X pins σ Q (.bool k') s:=by
 subst e;exact⟨.bl k,H,I,rfl,q⟩
theorem wz:OpR X (Qy .Eq) rEq:=by
 intro pins s σ H x y v u Q I rx ry h;obtain⟨hs,q⟩:=h
 cases x with
 |non=>
  cases rx
  cases y with
  |non=>cases ry;exact PySem.EqNone.eq_none_none (zS I q (by simp))
  |bl j=>cases ry;exact PySem.EqNone.eq_none_bool (zS I q (by simp))
  |int j=>obtain⟨t',rfl⟩:=ry;exact PySem.EqNone.eq_none_int (zS I q (by simp))
  |str j=>obtain⟨t',rfl⟩:=ry;exact PySem.EqNone.eq_none_str (zS I q (by simp))
  |_=>exact absurd (show false=true from hs) uO
 |bl i=>
  cases rx
  cases y with
  |non=>cases ry;exact PySem.EqNone.eq_bool_none (zS I q (by simp))
  |bl j=>cases ry;exact eq_bool (zS I q JN)
  |str j=>obtain⟨t',rfl⟩:=ry;exact PySem.EqMixed.eq_bool_str (zS I q (by simp))
  |_=>exact absurd (show false=true from hs) uO
 |int i=>
  obtain⟨t,rfl⟩:=rx
  cases y with
  |non=>cases ry;exact PySem.EqNone.eq_int_none (zS I q (by simp))
  |int j=>obtain⟨t',rfl⟩:=ry;exact eq_int (zS I q zcc)
  |str j=>obtain⟨t',rfl⟩:=ry;exact PySem.EqMixed.eq_int_str (zS I q (by simp))
  |_=>exact absurd (show false=true from hs) uO
 |str i=>
  obtain⟨t,rfl⟩:=rx
  cases y with
  |non=>cases ry;exact PySem.EqNone.eq_str_none (zS I q (by simp))
  |bl j=>cases ry;exact PySem.EqMixed.eq_str_bool (zS I q (by simp))
  |int j=>obtain⟨t',rfl⟩:=ry;exact PySem.EqMixed.eq_str_int (zS I q (by simp))
  |str j=>obtain⟨t',rfl⟩:=ry;exact eq_str (zS I q ze9)
  |_=>exact absurd (show false=true from hs) uO
 |byt i=>
  obtain⟨t,rfl⟩:=rx
  cases y with
  |byt j=>obtain⟨t',rfl⟩:=ry;exact PySem.W.eq_bytes (zS I q JR)
  |_=>exact absurd (show false=true from hs) uO
 |_=>cases y<;>exact absurd (show false=true from hs) uO
theorem vt:OpR X (Qy .NotEq) rNe:=by
 intro pins s σ H x y v u Q I rx ry h;obtain⟨hs,q⟩:=h
 cases x with
 |non=>
  cases rx
  cases y with
  |non=>cases ry;exact PySem.EqNone.ne_none_none (zS I q (by simp))
  |bl j=>cases ry;exact PySem.EqNone.ne_none_bool (zS I q (by simp))
  |int j=>obtain⟨t',rfl⟩:=ry;exact PySem.EqNone.ne_none_int (zS I q (by simp))
  |str j=>obtain⟨t',rfl⟩:=ry;exact PySem.EqNone.ne_none_str (zS I q (by simp))
  |_=>exact absurd (show false=true from hs) uO
 |bl i=>
  cases rx
  cases y with
  |non=>cases ry;exact PySem.EqNone.ne_bool_none (zS I q (by simp))
  |bl j=>cases ry;exact ne_bool (zS I q (congrArg not JN))
  |str j=>obtain⟨t',rfl⟩:=ry;exact PySem.EqMixed.ne_bool_str (zS I q (by simp))
  |_=>exact absurd (show false=true from hs) uO
 |int i=>
  obtain⟨t,rfl⟩:=rx
  cases y with
  |non=>cases ry;exact PySem.EqNone.ne_int_none (zS I q (by simp))
  |int j=>obtain⟨t',rfl⟩:=ry;exact ne_int (zS I q (congrArg not zcc))
  |str j=>obtain⟨t',rfl⟩:=ry;exact PySem.EqMixed.ne_int_str (zS I q (by simp))
  |_=>exact absurd (show false=true from hs) uO
 |str i=>
  obtain⟨t,rfl⟩:=rx
  cases y with
  |non=>cases ry;exact PySem.EqNone.ne_str_none (zS I q (by simp))
  |bl j=>cases ry;exact PySem.EqMixed.ne_str_bool (zS I q (by simp))
  |int j=>obtain⟨t',rfl⟩:=ry;exact PySem.EqMixed.ne_str_int (zS I q (by simp))
  |str j=>obtain⟨t',rfl⟩:=ry;exact ne_str (zS I q (congrArg not ze9))
  |_=>exact absurd (show false=true from hs) uO
 |byt i=>
  obtain⟨t,rfl⟩:=rx
  cases y with
  |byt j=>obtain⟨t',rfl⟩:=ry;exact PySem.W.ne_bytes (zS I q (congrArg not JR))
  |_=>exact absurd (show false=true from hs) uO
 |_=>cases y<;>exact absurd (show false=true from hs) uO
def xF:OpR X (Qy .Lt) (rI0 λi j=>.bl (decide (i<j))):=opB0 λ_ _ _ _ _ _ _ q=>lt_int q
def op_le:OpR X (Qy .LtE) (rI0 λi j=>.bl (decide (i<=j))):=opB0 λ_ _ _ _ _ _ _ q=>le_int q
def qf:OpR X (Qy .Gt) (rI0 λi j=>.bl (decide (j<i))):=opB0 λ_ _ _ _ _ _ _ q=>gt_int q
def op_ge:OpR X (Qy .GtE) (rI0 λi j=>.bl (decide (j<=i))):=opB0 λ_ _ _ _ _ _ _ q=>ge_int q
theorem Vu:OpR X (Qy .Is) (λx y H Q=>y=.non/\Q (.bl (decide (x=.non))) H):=by
 intro pins s σ H x y v u Q I rx ry h;obtain⟨rfl,q⟩:=h
 cases ry;refine is_none_gen (zS I q ?_)
 cases x<;>first
  |(cases rx;rfl)
  |(obtain⟨t,rfl⟩:=rx;rfl)
theorem VR:OpR X (Qy .IsNot) (λx y H Q=>y=.non/\Q (.bl (!decide (x=.non))) H):=by
 intro pins s σ H x y v u Q I rx ry h;obtain⟨rfl,q⟩:=h
 cases ry;refine isnot_none_gen (zS I q ?_)
 cases x<;>first
  |(cases rx;rfl)
  |(obtain⟨t,rfl⟩:=rx;rfl)
def nomark(b:Expr)(h:op≠.In:=by decide)(h2:op≠.NotIn:=by decide):CN op b=false:=by
 have e1:(op==CmpOp.In)=false:=by cases op<;>first|rfl|exact absurd rfl h
 have e2:(op==CmpOp.NotIn)=false:=by cases op<;>first|rfl|exact absurd rfl h2
 cases b<;>simp[CN,e1,e2]
variable{r:R2}
def xq(ho:OpR X (Qy op) r)(ha:PE X a ta)(hb:PE X b tb)(hm:CN op b=false):PE X (.Compare a [op] [b] pos) (tOp r ta tb):=by
 intro pins s σ H Q I h;exact wpAny_Compare1 (binT ha hb I h λv u s2 x y H2 I2 rx ry q=>ho pins s2 σ H2 x y v u Q I2 rx ry q) hm
def Yd(t:TE):TT:=λσ H Q=>t σ H λx H'=>∃k,x=.bl k/\Q k H'
def zM(ho:OpR X (Qy op) r)(ha:PE X a ta)(hb:PE X b tb)(hm:CN op b=false):PT X (.Compare a [op] [b] pos) (Yd (tOp r ta tb)):=by
 intro pins s σ H Q I h;refine EV (thn (ha pins s σ H _ I h) λv s1⟨x,H1,I1,r1,q1⟩=>thn (hb pins s1 σ H1 _ I1 q1) λu s2⟨y,H2,I2,r2,q2⟩=>
  thn (ho pins s2 σ H2 x y v u _ I2 r1 r2 q2) λc s3⟨z,H3,I3,r3,k,e,q3⟩=>?_) hm
 subst e
 cases r3;exact UA ⟨H3,I3,q3⟩
def zbk(r r':R2)(ta tb tc:TE):TE:=λσ H Q=>ta σ H λx H1=>tb σ H1 λy H2=>r x y H2 λz H3=>∃k,z=.bl k/\
 (if k=true then tc σ H3 λw' H4=>r' y w' H4 Q else Q (.bl false) H3)
theorem zhi{op':CmpOp}{r':R2}(ho:OpR X (Qy op) r)(ho':OpR X (Qy op') r')(ha:PE X a ta)(hb:PE X b tb)(hc:PE X c tc)
  (hm:lastMarks [op,op'] [b,c]=false:=by with_unfolding_all rfl):PE X (.Compare a [op,op'] [b,c] pos) (zbk r r' ta tb tc):=by
 intro pins s σ H Q I h;refine Compare_chain (thn (ha pins s σ H _ I h) λv s1⟨x,H1,I1,r1,q1⟩=>chain_link (thn (hb pins s1 σ H1 _ I1 q1) λu s2⟨y,H2,I2,r2,q2⟩=>
  thn (ho pins s2 σ H2 x y v u _ I2 r1 r2 q2) λd s3⟨z,H3,I3,r3,k,e,q3⟩=>?_)) hm
 subst e
 cases r3;refine UA ?_
 cases k with
 |false=>exact ite_ff ⟨.bl false,H3,I3,rfl,q3⟩
 |true=>exact ite_tt (chain_last (thn (hc pins s3 σ H3 _ I3 q3) λw' s4⟨z',H4,I4,r4,q4⟩=>ho' pins s4 σ H4 y z' u w' Q I4 r2 r4 q4))
def line63:(sizeLine:Nat)<2^63:=by rw[DQ];decide
variable{us:List pB}
theorem vals1{x:V}(r:zn [x] us):∃u,us=[u]/\zm x u:=by
 cases r with
 |cons r1 r2=>cases r2;exact⟨_,rfl,r1⟩
theorem vals2{x y:V}(r:zn [x,y] us):∃u w',us=[u,w']/\zm x u/\zm y w':=by
 cases r with
 |cons r1 r2=>
  cases r2 with
  |cons r3 r4=>cases r4;exact⟨_,_,rfl,r1,r3⟩
def XS:yF X (.builtin "abs") (λxs H Q=>∃i,xs=[.int i]/\Q (.int (if i<0 then-i else i)) H):=by
 intro pins s σ H xs us Q I r h;obtain⟨i,rfl,q⟩:=h;obtain⟨u,rfl,t,rfl⟩:=vals1 r;exact call_abs_int λu tk=>⟨.int (if i<0 then-i else i),H,I.tok _,⟨_,rfl⟩,q⟩
def WK(hc:X.calm=true):yF X (.builtin "min") (λxs H Q=>∃i j,xs=[.int i,.int j]/\Q (.int (if j<i then j else i)) H):=by
 intro pins s σ H xs us Q I r h;obtain⟨i,j,rfl,q⟩:=h;obtain⟨u,w',rfl,⟨t,rfl⟩,⟨t',rfl⟩⟩:=vals2 r;refine min_two_ints (I.ok.hd hc) λh' tk k=>⟨_,H,I.kept k,?_,q⟩
 by_cases hj:j<i
 ·rw[if_pos hj,if_pos hj];exact⟨_,rfl⟩
 ·rw[if_neg hj,if_neg hj];exact⟨_,rfl⟩
def zho:yF X (.type "int") (λxs H Q=>(∃i,xs=[.int i]/\Q (.int i) H)∨∃k,xs=[.bl k]/\Q (.int (if k then 1 else 0)) H):=by
 intro pins s σ H xs us Q I r h;rcases h with⟨i,rfl,q⟩|⟨k,rfl,q⟩
 ·obtain⟨u,rfl,t,rfl⟩:=vals1 r;exact call_int_int ⟨.int i,H,I,⟨_,rfl⟩,q⟩
 ·obtain⟨u,rfl,r1⟩:=vals1 r
  cases r1;exact call_int_bool ⟨.int (if k then 1 else 0),H,I.tok _,⟨_,rfl⟩,q⟩
end
theorem xQ.some_of{v:V}{o:Option pB}(r:xQ (some v) o):∃u,o=some u/\zm v u:=by
 cases o with
 |none=>exact(show False from r).elim
 |some u=>exact⟨u,rfl,r⟩
structure yb(k:Nat)(A:uv):Prop where
 hd:A.handled=none
 dp:A.depth+3*k+5<recursionLimit
 un:A.units+16*k+200<cLine
theorem yb.mono{j k:Nat}{A:uv}(r:yb k A)(h:j<=k):yb j A:=⟨r.hd,by have:=r.dp;lia,by have:=r.un;lia⟩
theorem yb.deeper{k:Nat}{A:uv}(r:yb (k+1) A)(env:Env):yb k (A.deeper env):=
 ⟨r.hd,by have:=r.dp;show A.depth+1+3*k+5<_;lia,by have:=r.un;show A.units+3+16*k+200<_;lia⟩
theorem yb.in1{k:Nat}{A:uv}(r:yb (k+1) A):yb k A.in1:=
 ⟨r.hd,by have:=r.dp;show A.depth+3*k+5<_;lia,by have:=r.un;show A.units+1+16*k+200<_;lia⟩
theorem yb.depth{k:Nat}{A:uv}(r:yb k A):A.depth<recursionLimit:=by have:=r.dp;lia
theorem yb.units{k:Nat}{A:uv}(r:yb k A):A.units+64<cLine:=by have:=r.un;lia
def xy:TA:=λ_ H Q=>Q [] H
def zU(ta:TE)(tr:TA):TA:=λσ H Q=>ta σ H λx H1=>tr σ H1 λxs H2=>Q (x::xs) H2
section
variable{X:Cx}{e:Expr}{es:List Expr}{te:TE}{t:TA}{pos:Pos}
def yM:PA X [] xy:=λ_ _ _ _ H Q I h=>Bl ⟨[],H,I,.nil,h⟩
def yD(ha:PE X e te)(hr:PA X es t)(hs:QP (e::es) X.env=(false,eval e X.env)::QP es X.env:=by rfl):PA X (e::es) (zU te t):=by
 intro pos pins s σ H Q I h;rw[hs];show wpAny _ _ (spliced ((false,eval e X.env)::Ao pos (QP es X.env))) _ _ s;refine ge (thn (ha pins s σ H _ I h) λu s1⟨x,H1,I1,r1,q1⟩=>?_);exact thn (hr pos pins s1 σ H1 _ I1 q1) λus s2⟨xs,H2,I2,r2,q2⟩=>⟨x::xs,H2,I2,.cons r1 r2,q2⟩
def qP(t:TA):TE:=λσ H Q=>t σ H λxs H1=>xs.length<=sizeLine/\∀p,H1 p=none->Q (.ref p) (upd H1 p (.tup xs))
def qr(t:TA):TE:=λσ H Q=>t σ H λxs H1=>xs.length<=sizeLine/\∀p,H1 p=none->Q (.ref p) (upd H1 p (.lst xs))
def ye{x1}(h:PA X es t):PE X (.Tuple es x1 pos) (qP t):=by
 intro pins s σ H Q I hq;refine wpAny_Tuple_spliced (thn (h pos pins s σ H _ I hq) λus s1⟨xs,H1,I1,r,z,q⟩=>⟨by rw[←r.length];exact z,?_⟩)
 have hf:H1 s1.heap.objs.size=none:=I1.hok.fresh (pG _);refine⟨.ref s1.heap.objs.size,upd H1 s1.heap.objs.size (.tup xs),I1.laid (t':=s1.toks) (λb u e=>pU _ e) (pG _) ?_,rfl,q _ hf⟩;exact⟨z,us,r,⟨_,uM _ rfl,rfl,_,rfl⟩⟩
def yN(h:PA X es t):PE X (.List es pos) (qr t):=by
 intro pins s σ H Q I hq;refine wpAny_List_spliced (thn (h pos pins s σ H _ I hq) λus s1⟨xs,H1,I1,r,z,q⟩=>⟨by rw[←r.length];exact z,?_⟩)
 have hf:H1 s1.heap.objs.size=none:=I1.hok.fresh (pG _);refine⟨.ref s1.heap.objs.size,upd H1 s1.heap.objs.size (.lst xs),I1.laid (t':=s1.toks) (λb u e=>pU _ e) (pG _) ?_,rfl,q _ hf⟩;exact⟨z,us,0,r,uM _ rfl⟩
end
abbrev Sp:=List V->Hp->VK->XK->Prop
abbrev CXT:=List Env->Hp->pH->XK->pB->pH->Prop
structure Env0(P:uB)(w:uW)(K:pI)(mg:Str->Option pB)(base:Heap)(A:uv)(outer:List Env)(s:pH)(H:Hp):Prop where
 frames:A.frames=some outer
 mod:Mod K mg base
 bs:∀b o,base.get? b=some o->s.heap.get? b=some o/\H b=none
 bsz:base.objs.size<=s.heap.objs.size
 funs:s.heap.FunFrames base outer
 frf:∀b∈frs outer,H b=none
 hok:HOk P w H s.heap
 bare:DO s.gens
def CE(outer:List Env)(P:uB)(w:uW)(H:Hp)(s:pH)(Q:VK)(u:pB)(s':pH):Prop:=
 ∃v H',s'.os=s.os/\DO s'.gens/\Un (frs outer) [] H H' s.heap s'.heap/\HOk P w H' s'.heap/\zm v u/\Q v H'
def CR(CX:CXT)(outer:List Env)(P:uB)(w:uW)(H:Hp)(s:pH)(Q:VK)(E:XK)(r:HI)(s':pH):Prop:=
 match r with
 |.ok (.ret u)=>CE outer P w H s Q u s'
 |.ok _=>False
 |.error e=>CX outer H s E e s'
structure zv(P:uB)(w:uW)(K:pI)(mg:Str->Option pB)(base:Heap)(CX:CXT)(k:Nat)(f:Addr)(fd:UM)(ps:List Str)(sp:Sp):Prop where
 len:∀vs H Q E,sp vs H Q E->vs.length=ps.length
 run:∀(A:uv)(outer:List Env)(s:pH)(H:Hp)(args:Args)(us:List pB)(vs:List V)(Q:VK)(E:XK),yb k A->Env0 P w K mg base A outer s H->Fb s fd args (ps.zip us)->zn vs us->sp vs H Q E->
  Ci (model P w) A (.call (.ref f) args) (CR CX outer P w H s Q E) s
variable{w:uW}{K:pI}{mg:Str->Option pB}{base:Heap}{outer:List Env}
def Env0.in1{P:uB}{A:uv}{s:pH}{H:Hp}(e:Env0 P w K mg base A outer s H):
  Env0 P w K mg base A.in1 outer s H:=⟨e.frames,e.mod,e.bs,e.bsz,e.funs,e.frf,e.hok,e.bare⟩
section
variable{X:Cx}{pins:List (Addr×Obj)}{σ:St}{H:Hp}{s s':pH}
def Inv.env0(I:Inv X pins σ H s):Env0 X.prog X.w X.K X.mg X.base X.A X.stack s H:=
 ⟨I.ok.frames,I.ok.mod,I.bs,pz I.ok.bsz I.sz,I.stack,I.stkFree,I.hok,I.bare⟩
def Inv.after{Q:VK}{u:pB}(I:Inv X pins σ H s)(h:CE X.stack X.prog X.w H s Q u s'):EP X pins σ Q u s':=by
 obtain⟨v,H',os,bare,un,hok,r,q⟩:=h;obtain⟨hh,g,d,t,os'⟩:=s';obtain rfl:os'=s.os:=os;exact⟨v,H',I.call (h':=hh) (g':=g) (d':=d) (t':=t) (ch:=[]) un hok bare (λb z=>absurd z (by simp)),r,q⟩
end
def jL(sp:Sp)(dvs:List V)(E:XK)(t:TA):TE:=λσ H Q=>t σ H λvs H1=>sp (vs++dvs) H1 Q E
def Binds(K:pI)(fd:UM)(ps:List Str)(ds:List pB):Prop:=
 ∀(s:pH)(us:List pB),K.In s.heap->(us++ds).length=ps.length->Fb s fd ⟨us,[]⟩ (ps.zip (us++ds))
def Binds.all{fd:UM}{ps:List Str}(h:∀us:List pB,us.length=ps.length->AS fd ⟨us,[]⟩=pure (ps.zip us)):Binds K fd ps []:=λs us _ hl=>by
 rw[uR] at hl⊢;exact .of_eq (h us hl)
def Passes(CX:CXT)(X:Cx)(E:XK):Prop:=∀(pins:List (Addr×Obj))(σ:St)(H:Hp)(s:pH)(e:pB)(s':pH),Inv X pins σ H s->CX X.stack H s E e s'->X.xe e s'
variable{us:List pB}
section
variable{X:Cx}{CX:CXT}{k:Nat}{f C:Addr}{fd:UM}{ps:List Str}{sp:Sp}{dvs:List V}{ds:List pB}{E:XK}{x m:Str}{p pos apos:Pos}{e o:Expr}{es:List Expr}{ta:TE}{t:TA}
theorem run_fn{pins:List (Addr×Obj)}{σ:St}{H:Hp}{s:pH}{Q:VK}{vs:List V}(F:zv X.prog X.w X.K X.mg X.base CX k f fd ps sp)(hr:yb k X.A)(hb:Binds X.K fd ps ds)(hd:zn dvs ds)(hx:Passes CX X E)
  (I:Inv X pins σ H s)(r:zn vs us)(h:sp (vs++dvs) H Q E):wpAny (model X.prog X.w) X.A (call (.ref f) us) (EP X pins σ Q) X.xe s:=by
 have r2:zn (vs++dvs) (us++ds):=r.append hd;have hl:(us++ds).length=ps.length:=by rw[←r2.length];exact F.len _ _ _ _ h
 refine wpAny_call (EB (F.run X.A X.stack s H ⟨us,[]⟩ (us++ds) (vs++dvs) Q E hr I.env0 (hb s us I.kIn hl) r2 h) λr s' hq=>?_)
 cases r with
 |error e=>exact hx pins σ H s e s' I hq
 |ok fl=>
  cases fl with
  |ret u=>exact I.after hq
  |next=>exact Um hq
  |brk=>exact Um hq
  |cont=>exact Um hq
def zc0(F:zv X.prog X.w X.K X.mg X.base CX k f fd ps sp)(hr:yb k X.A)(hg:Gl X x)(hm:X.mg x=some (.ref f))(hk:Bm X.K (.ref f)=true)(hb:Binds X.K fd ps ds)(hd:zn dvs ds)(hx:Passes CX X E)
  (ha:PA X (e::es) t)(hdb:(x==("__debug__":Str))=false:=by decide)(he:QP (e::es) X.env=(false,eval e X.env)::QP es X.env:=by rfl)(hpl:(Ao pos (QP es X.env)).any (·.1)=false:=by rfl):
  PE X (.Call (.Name x p) (e::es) [] pos) (jL sp dvs E t):=by
 intro pins s σ H Q I h;refine Af (ld_glob I hg hm ?_ hdb);refine PySem.W.callWith_K (h₀:=X.base) I.ok.mod.kin hk (thn (ha pos pins s σ H _ I h) λus s1⟨vs,H1,I1,r,q⟩=>⟨I1.kIn,?_⟩) he hpl;exact run_fn F hr hb hd hx I1 r q
end
def PK(X:Cx)(kws:List DR)(t:TA):Prop:=
 ∀(pos:Pos)(pins:List (Addr×Obj))(s:pH)(σ:St)(H:Hp)(Q:List V->Hp->Prop),Inv X pins σ H s->t σ H Q->wpAny (model X.prog X.w) X.A (evalAll ((Cu pos (Ax kws X.env)).map (·.2))) (AP X pins σ Q) X.xe s
section
variable{X:Cx}{CX:CXT}{k:Nat}{f C:Addr}{fd:UM}{ps ks:List Str}{sp:Sp}{E:XK}{x m:Str}{p pos apos kpos:Pos}{e o:Expr}{es:List Expr}{kws:List DR}{te ta:TE}{t tk:TA}{nm:Option Str}
def pk_nil:PK X [] xy:=λ_ _ _ _ H Q I h=>wpAny_evalAll_nil ⟨[],H,I,.nil,h⟩
def pk_cons(ha:PE X e te)(hr:PK X kws t):PK X (⟨nm,e,kpos⟩::kws) (zU te t):=by
 intro pos pins s σ H Q I h;show wpAny _ _ (evalAll ((do let v ←eval e X.env;standAt pos;pure v)::(Cu pos (Ax kws X.env)).map (·.2))) _ _ s;refine wpAny_evalAll_cons (pA (thn (ha pins s σ H _ I h) λu s1⟨x,H1,I1,r1,q1⟩=>pA (CO (pM ?_))));exact thn (hr pos pins s1 σ H1 _ I1 q1) λus s2⟨xs,H2,I2,r2,q2⟩=>⟨x::xs,H2,I2,.cons r1 r2,q2⟩
variable{g:List pB->List pB->List pB}{gV:List V->List V->List V}
end
structure zw(N P:List Str)(sc:Scope):Prop where
 kind:sc.kind=.function
 co:sc.isCoroutine=false
 gen:sc.isGenerator=false
 nd:N.Nodup
 pre:N.take P.length=P
 par:∀x∈P,sc.names.lookup x=some .local∨sc.names.lookup x=some .cell
 nofree:∀y∈sc.names,y.2≠.free
theorem zam{kindOf:Str->Option Cv}{x:Str}:∀{binds:List (Str×pB)}{m:Str->Option pB},(∀v,(x,v)∉binds)->bindL kindOf binds m x=m x
 |[],_,_=>rfl
 |(n,v)::r,m,h=>by
  unfold bindL;rw[zam λw hw=>h w (pE _ hw)]
  split
  ·have:x≠n:=by rintro rfl;exact h v pj
   simp[this]
  ·rfl
theorem Zx{kindOf:Str->Option Cv}{x:Str}:∀{binds:List (Str×pB)}{m:Str->Option pB},(∀v,(x,v)∉binds)->bindC kindOf binds m x=m x
 |[],_,_=>rfl
 |(n,v)::r,m,h=>by
  unfold bindC;rw[Zx λw hw=>h w (pE _ hw)]
  split
  ·rfl
  ·have:x≠n:=by rintro rfl;exact h v pj
   simp[this]
theorem zbt{kindOf:Str->Option Cv}{x:Str}{v:pB}:∀{P:List Str}{vs:List pB}{i:Nat}{m:Str->Option pB},P.Nodup->P[i]?=some x->vs[i]?=some v->kindOf x=some .local->
  bindL kindOf (P.zip vs) m x=some v
 |[],_,_,_,_,h,_,_=>by simp at h
 |_::_,[],_,_,_,_,h,_=>by simp at h
 |p::P,w::vs,0,m,nd,h1,h2,hk=>by
  simp at h1 h2;subst h1;subst h2
  show bindL kindOf ((p,w)::P.zip vs) m p=_
  unfold bindL;rw[zam λv hv=>(US.mp nd).1 (Cd hv).1,if_pos hk]
  simp
 |p::P,w::vs,i+1,m,nd,h1,h2,hk=>by
  show bindL kindOf ((p,w)::P.zip vs) m x=_
  unfold bindL;exact zbt (i:=i) (US.mp nd).2 (by simpa using h1) (by simpa using h2) hk
theorem zai{kindOf:Str->Option Cv}{x:Str}{v:pB}:∀{P:List Str}{vs:List pB}{i:Nat}{m:Str->Option pB},P.Nodup->P[i]?=some x->vs[i]?=some v->kindOf x≠some .local->
  bindC kindOf (P.zip vs) m x=some v
 |[],_,_,_,_,h,_,_=>by simp at h
 |_::_,[],_,_,_,_,h,_=>by simp at h
 |p::P,w::vs,0,m,nd,h1,h2,hk=>by
  simp at h1 h2;subst h1;subst h2
  show bindC kindOf ((p,w)::P.zip vs) m p=_
  unfold bindC;rw[Zx λv hv=>(US.mp nd).1 (Cd hv).1,if_neg hk]
  simp
 |p::P,w::vs,i+1,m,nd,h1,h2,hk=>by
  show bindC kindOf ((p,w)::P.zip vs) m x=_
  unfold bindC;exact zai (i:=i) (US.mp nd).2 (by simpa using h1) (by simpa using h2) hk
noncomputable def start(N:List Str)(vs:List V):St:=vs.map some++AT (N.length-vs.length) none
noncomputable def wc(CX:CXT)(P:uB)(w:uW)(K:pI)(mg:Str->Option pB)(base:Heap)(N:List Str)(qual:Str)(scope:Scope)(f:Addr)(cd:pB)(A:uv)(outer:List Env)(s:pH)(H:Hp)(E:XK):Cx where
 prog:=P
 w:=w
 K:=K
 mg:=mg
 base:=base
 A:=A.deeper (EC qual scope s.heap.objs.size f cd)
 N:=N
 s₀:=s
 H₀:=H
 env:=EC qual scope s.heap.objs.size f cd
 outer:=outer
 stack:=EC qual scope s.heap.objs.size f cd::outer
 ex:=[]
 calm:=true
 fn:=λ_=>true
 pn:=[]
 xe:=λe s'=>wpAny (model P w) (A.deeper (EC qual scope s.heap.objs.size f cd)) (leaving (EC qual scope s.heap.objs.size f cd) e) (λ_ s''=>CX outer H s E e s'') (λe' s''=>CX outer H s E e' s'') s'
def zdk{sc:Scope}{x:Str}(h:sc.names.lookup x=some .cell):∃c,(HG n sc.names []).lookup x=some c:=by
 have q:=ED sc.names n [] (.inl h);exact DY.mp q
variable{ps:List Str}{qual:Str}{scope:Scope}
theorem zgu{CX:CXT}{P:uB}{N:List Str}{f:Addr}{cd:pB}{A:uv}{s s1:pH}{H:Hp}{E:XK}{vs:List V}
  (S:zw N ps scope)(hd:A.handled=none)(e0:Env0 P w K mg base A outer s H)(hl:vs.length=ps.length)(r:zn vs us)
  (x:InCallC s s.heap.objs.size (bindL (EC qual scope s.heap.objs.size f cd).kindOf (ps.zip us) λ_=>none) (HG (s.heap.objs.size+1) scope.names []) (bindC (EC qual scope s.heap.objs.size f cd).kindOf (ps.zip us) λ_=>none) s1):
  Inv (wc CX P w K mg base N qual scope f cd A outer s H E) [] (start N vs) H s1:=by
 have hpl:ps.length<=N.length:=by have:=congrArg Bd S.pre;rw[uI] at this;lia
 obtain⟨h1,tk,rfl,hk⟩:=x.done;have noA:∀b:Addr,b∉(wc CX P w K mg base N qual scope f cd A outer s H E).ex:=λb z=>absurd (show b∈([]:List Addr) from z) (by simp)
 refine⟨⟨e0.mod,S.kind,rfl,rfl,pG _,λy z c h1 h2=>?_,λy hy=>?_,λy c _ h=>?_,λ_=>hd,Ee e0.frames,.inr ⟨rfl,rfl⟩,λb z=>absurd z (noA b),e0.bs,e0.bsz,λb _ _=>noA b,λb z=>absurd z (noA b),e0.funs,e0.frf⟩,
  rfl,e0.bare,Un.kept hk,⟨_,x.toInCall.ns,λi y v h1 h2 h3=>?_⟩,λy c h=>⟨_,x.cell y c h⟩,e0.hok.fresh (pG _),λy c h=>?_,λp hp=>absurd (show p∈([]:List (Addr×Obj)) from hp) (by simp),e0.hok.kept hk,?_⟩
 ·exact name_of_addr x.apart (Qn h1) (Qn h2)
 ·have hy:scope.names.lookup y=some .cell∨scope.names.lookup y=some .free:=hy;rcases hy with hy|hy
  ·exact zdk hy
  ·exact absurd rfl (S.nofree _ (Qn hy))
 ·exact UE (x.above y c (Qn h))
 ·have hi:i<vs.length:=by
   unfold start at h2
   by_cases hi:i<vs.length
   ·exact hi
   ·rw[uJ (by simpa using hi)] at h2
    rw[Dm] at h2
    split at h2<;>cases h2
  have ha:vs[i]?=some v:=by
   unfold start at h2;rw[uX (by simpa using hi),pT] at h2
   cases e:vs[i]? with
   |none=>rw[e] at h2;cases h2
   |some a=>rw[e] at h2;cases h2;rfl
  obtain⟨u,hu,rv⟩:=r.get ha;have hp:ps[i]?=some y:=by
   rw[←S.pre,AM (by lia)];exact h1
  have ndP:ps.Nodup:=by rw[←S.pre];exact S.nd.sublist (Fc _ _)
  refine⟨u,rv,?_⟩;rcases S.par y (pX hp) with k|k
  ·exact .inl ⟨k,zbt ndP hp hu k⟩
  ·obtain⟨c,e⟩:=zdk (n:=s.heap.objs.size+1) k;refine .inr ⟨.inl k,c,e,?_⟩;have q:=x.cell y c e;rw[zai ndP hp hu (by show scope.names.lookup y≠_;rw[k];decide)] at q
   exact q
 ·exact e0.hok.fresh (UE (x.above y c (Qn h)))
 ·unfold start;show _=N.length;rw[pK,pC,gj];lia
theorem fn_of{CX:CXT}{P:uB}{k:Nat}{f:Addr}{name:Str}{params:Dn}{dV kV doc pm cdv ct oc:pB}{an od:Option Addr}
  {osl:Array (Option pB)}{N:List Str}{sp:Sp}(lk:K.lookup f=some ⟨oc,od,.func (Ut name qual params body scope dV kV doc pm an cdv ct),osl⟩)(hcd:Ay K cdv qual=true)(S:zw N ps scope)
  (len:∀vs H Q E,sp vs H Q E->vs.length=ps.length)
  (hbody:∀(A:uv)(outer:List Env)(s:pH)(H:Hp)(vs:List V)(Q:VK)(E:XK),yb k (A.deeper (EC qual scope s.heap.objs.size f cdv))->sp vs H Q E->
   ∃t,PSs (wc CX P w K mg base N qual scope f cdv A outer s H E) body t/\t {nx:=λ_ H'=>Q .non H',rt:=Q} (start N vs) H):
  zv P w K mg base CX (k+1) f (Ut name qual params body scope dV kV doc pm an cdv ct) ps sp:=by
 refine⟨len,λA outer s H args us vs Q E hr e0 hb r hsp=>?_⟩;have hl:=len _ _ _ _ hsp;have KX:K.In s.heap:=e0.mod.kin.keeps λb o e=>(e0.bs b o e).1;have lim:s.heap.NoLimit:=e0.mod.nolimit.keeps λb o e=>(e0.bs b o e).1;have hkind:∀y∈ps.zip us,scope.names.lookup y.1=some .local∨(scope.names.lookup y.1=some .cell/\((HG (s.heap.objs.size+1) scope.names []).lookup y.1).isSome=true):=λ⟨n,v⟩ hy=>by
  rcases S.par n (Cd hy).1 with q|q
  ·exact .inl q
  ·exact .inr ⟨q,ED _ _ _ (.inl q)⟩
 refine codeAny_call_function hr.depth (KX _ _ lk) rfl S.co S.gen rfl (PySem.W.codeRec_of KX hcd) (hb _ _ _ _ ?_);refine wpAny_newFunctionEnv_cells S.kind hkind λenv he s1 x=>?_;subst he;refine⟨lim.keeps x.toInCall.keep,codeAny_func ?_⟩;obtain⟨t,ht,hq⟩:=hbody A outer s H vs Q E (hr.deeper _) hsp;have I:Inv (wc CX P w K mg base N qual scope f cdv A outer s H E) [] (start N vs) H s1:=zgu S hr.hd e0 hl r x;refine UX (ht [] s1 (start N vs) H _ I hq) (λfl s' hs=>?_) λe s' hs=>hs;have fin:∀{σ':St}{H':Hp}{v:V}{u:pB},Inv (wc CX P w K mg base N qual scope f cdv A outer s H E) [] σ' H' s'->zm v u->Q v H'->CE outer P w H s Q u s':=
  λ{σ' H' v u} J rv q=>⟨v,H',J.os,J.bare,J.base,J.hok,rv,q⟩
 cases fl with
 |ret u=>
  obtain⟨v,σ',H',J,rv,q⟩:=hs;exact fin J rv q
 |next=>
  obtain⟨σ',H',J,q⟩:=hs;exact fin (v:=V.non) (u:=UK) J rfl q
 |brk=>
  obtain⟨_,_,_,q⟩:=hs;exact Um q
 |cont=>
  obtain⟨_,_,_,q⟩:=hs;exact Um q
section
variable{X:Cx}{x:Str}{p pos:Pos}{e:Expr}{es:List Expr}{t:TA}{id T:String}{r:List V->Hp->VK->Prop}
def tCB(r:List V->Hp->VK->Prop)(t:TA):TE:=λσ H Q=>t σ H λvs H1=>r vs H1 Q
def ya(hc:yF X (.builtin id) r)(hg:Gl X x)(hm:X.mg x=none)(hv:Qh x=some (.builtin id))(ha:PA X (e::es) t)(hn:x≠"__name__":=by decide)(hdb:(x==("__debug__":Str))=false:=by decide)
  (he:QP (e::es) X.env=(false,eval e X.env)::QP es X.env:=by rfl) (hpl:(Ao pos (QP es X.env)).any (·.1)=false:=by rfl):PE X (.Call (.Name x p) (e::es) [] pos) (tCB r t):=by
 intro pins s σ H Q I h;refine Af (vR I hg hm hv ?_ hn hdb);exact PyProof.Rows.callWith_builtin1 (thn (ha pos pins s σ H _ I h) λus s1⟨vs,H1,I1,r1,q1⟩=>hc pins s1 σ H1 vs us Q I1 r1 q1) he hpl
def zd4(hc:yF X (.type T) r)(hg:Gl X x)(hm:X.mg x=none)(hv:Qh x=some (.type T))(ha:PA X (e::es) t)(hn:x≠"__name__":=by decide)(hdb:(x==("__debug__":Str))=false:=by decide)
  (he:QP (e::es) X.env=(false,eval e X.env)::QP es X.env:=by rfl) (hpl:(Ao pos (QP es X.env)).any (·.1)=false:=by rfl):PE X (.Call (.Name x p) (e::es) [] pos) (tCB r t):=by
 intro pins s σ H Q I h;refine Af (vR I hg hm hv ?_ hn hdb);exact gX (thn (ha pos pins s σ H _ I h) λus s1⟨vs,H1,I1,r1,q1⟩=>hc pins s1 σ H1 vs us Q I1 r1 q1) he hpl
end
end L2
namespace HT
open PySem PyProof.Rows
noncomputable def lexLt:List Int->List Int->Bool
 |[],[]=>false
 |[],_::_=>true
 |_::_,[]=>false
 |x::xs,y::ys=>if x=y then lexLt xs ys else decide (x<y)
def lexLt_cons(x y:Int)(xs ys:List Int):lexLt (x::xs) (y::ys)=if x=y then lexLt xs ys else decide (x<y):=rfl
def lexLt_nil_nil:lexLt [] []=false:=rfl
def eqAt_int(A:uv)(s:pH)(a:Int)(t:Tok)(c:Int)(u:Tok):∃e,SeqAt.EqAt A s (.int a t) (.int c u) e/\(e=true↔a=c):=
 ⟨(a==c),SeqAt.EqAt.int_int a t c u,by simp⟩
section
variable{prog:uB}{w:uW}{A:uv}{E:pB->pH->Prop}{s:pH}
noncomputable def sIx(n d:Nat):Option Int->Nat
 |none=>d
 |some v=>if v<0 then(v+(n:Int)).toNat else min v.toNat n
def sIx_none(n d:Nat):sIx n d none=d:=rfl
theorem sIx_nat(n d k:Nat):sIx n d (some (k:Int))=min k n:=by
 show(if(k:Int)<0 then((k:Int)+(n:Int)).toNat else min (k:Int).toNat n)=min k n
 rw[if_neg (by omega),Ua]
end
end HT
namespace L2
open PySem PySem.Spec PyProof.Rows
abbrev TO:=St->Hp->(Option Int->Hp->Prop)->Prop
def PO(X:Cx)(e:Option Expr)(t:TO):Prop:=
 ∀(pins:List (Addr×Obj))(s:pH)(σ:St)(H:Hp)(Q:Option Int->Hp->Prop),Inv X pins σ H s->t σ H Q->
  wpAny (model X.prog X.w) X.A (evalPart e X.env) (λu s'=>∃o H',Inv X pins σ H' s'/\IsPart u o/\Q o H') X.xe s
def ZS:TO:=λ_ H Q=>Q none H
def tPart(t:TE):TO:=λσ H Q=>t σ H λx H1=>∃i,x=.int i/\Q (some i) H1
theorem Y0{ns:List Int}:∀{us:List pB},zn (ns.map V.int) us->gq us ns:=by
 induction ns with
 |nil=>intro us r;rw[QF] at r;cases r;exact .nil
 |cons n ns ih=>
  intro us r;rw[pR] at r
  cases r with
  |cons r1 r2=>
   obtain⟨t,e⟩:=r1;subst e;exact .cons n t (ih r2)
section
variable{X:Cx}{e:Expr}{te:TE}{lo hi:Option Expr}{tl th:TO}{pos p2:Pos}
def vD:PO X none ZS:=by
 intro pins s σ H Q I h;rw[FG];exact pM ⟨none,H,I,.none,h⟩
def vw(h:PE X e te):PO X (some e) (tPart te):=by
 intro pins s σ H Q I hw;rw[evalPart_some];refine thn (h pins s σ H _ I hw) λu s1⟨x,H1,I1,r1,q1⟩=>?_;obtain⟨i,rfl,q⟩:=q1;obtain⟨t,rfl⟩:=r1;exact⟨some i,H1,I1,.int i t,q⟩
def SlR(X:Cx)(r:V->Option Int->Option Int->Hp->VK->Prop):Prop:=
 ∀(pins:List (Addr×Obj))(s:pH)(σ:St)(H:Hp)(x:V)(v vl vu:pB)(lo hi:Option Int)(sl:Addr)(Q:VK),Inv X pins σ H s->zm x v->s.heap.IsSliceOf sl vl vu .none->IsPart vl lo->IsPart vu hi->r x lo hi H Q->
  ∃T id,typeLookup (.type T) "__getitem__"=pure (some (.builtin id))/\s.TypeIs v T/\wpAny (model X.prog X.w) X.A (Ff v (.ref sl)) (EP X pins σ Q) X.xe s
def tSl(r:V->Option Int->Option Int->Hp->VK->Prop)(te:TE)(tl th:TO):TE:=λσ H Q=>te σ H λx H1=>tl σ H1 λl H2=>th σ H2 λu H3=>r x l u H3 Q
def vJ{r:V->Option Int->Option Int->Hp->VK->Prop}(hr:SlR X r)(he:PE X e te)(hl:PO X lo tl)(hu:PO X hi th):PE X (.Subscript e (.Slice lo hi none p2) pos) (tSl r te tl th):=by
 intro pins s σ H Q I h;refine FI (thn (he pins s σ H _ I h) λv s1⟨x,H1,I1,r1,q1⟩=>?_);refine wpAny_Slice (thn (hl pins s1 σ H1 _ I1 q1) λvl s2⟨l,H2,I2,pl,q2⟩=>thn (hu pins s2 σ H2 _ I2 q2) λvu s3⟨u,H3,I3,pu,q3⟩=>?_);rw[FG];refine pM ?_;have I4:Inv X pins σ H3 {s3 with heap:=s3.heap.push {cls:=.type "slice",data:=.fields #[vl,vu,.none]}}:=I3.kept (t':=s3.toks) λb ob q=>pU _ q;obtain⟨T,id,hT,ht,hg⟩:=hr pins {s3 with heap:=s3.heap.push {cls:=.type "slice",data:=.fields #[vl,vu,.none]}} σ H3 x v vl vu l u s3.heap.objs.size Q I4 r1 (FJ ..) pl pu q3;show wpAny (model X.prog X.w) X.A (DZ e (.Slice lo hi none p2) v (.ref s3.heap.objs.size)) (EP X pins σ Q) X.xe {s3 with heap:=s3.heap.push {cls:=.type "slice",data:=.fields #[vl,vu,.none]}};exact tail_any (ops:=[.ref s3.heap.objs.size,v]) ht hT hg (by with_unfolding_all rfl)
noncomputable def xH(xs:List V)(lo hi:Option Int):List V:=(xs.drop (HT.sIx xs.length 0 lo)).take (HT.sIx xs.length xs.length hi-HT.sIx xs.length 0 lo)
theorem zi2(xs:List V)(lo hi:Option Int):(xH xs lo hi).length<=xs.length:=by
 unfold xH;rw[uI,uK];omega
end
noncomputable def ixN(n:Nat)(i:Int):Option Nat:=if 0<=i then(if i<n then some i.toNat else none) else if-(n:Int)<=i then some (i+n).toNat else none
variable{α:Type}
noncomputable def atI(xs:List α)(i:Int):Option α:=(ixN xs.length i).bind λj=>xs[j]?
theorem ixN_seq{n:Nat}{i:Int}{j:Nat}(h:ixN n i=some j):seqIndex? i n=some j/\j<n/\ -(n:Int)<=i/\i<n:=by
 unfold ixN at h
 by_cases h0:0<=i
 ·rw[if_pos h0] at h
  by_cases h1:i<n
  ·rw[if_pos h1] at h;have e:i.toNat=j:=ux h;exact⟨by rw[seqIndex_of h0 h1,e],by omega,by lia,h1⟩
  ·rw[if_neg h1] at h;cases h
 ·rw[if_neg h0] at h
  by_cases h1: -(n:Int)<=i
  ·rw[if_pos h1] at h;have e:(i+n).toNat=j:=ux h;exact⟨by rw[seqIndex_neg (by lia) h1,e],by lia,h1,by lia⟩
  ·rw[if_neg h1] at h;cases h
theorem zap{xs:List α}{i:Int}{v:α}(h:atI xs i=some v):∃j,seqIndex? i xs.length=some j/\xs[j]?=some v/\j<xs.length/\ -(xs.length:Int)<=i/\i<xs.length:=by
 unfold atI at h
 cases e:ixN xs.length i with
 |none=>rw[e] at h;cases h
 |some j=>
  rw[e] at h;obtain⟨h1,h2,h3,h4⟩:=ixN_seq e;exact⟨j,h1,h,h2,h3,h4⟩
theorem yl{xs:List α}{j:Nat}{v:α}(h:xs[j]?=some v):atI xs (j:Int)=some v:=by
 have hj:j<xs.length:=(pF.mp h).1;have e:ixN xs.length (j:Int)=some j:=by
  unfold ixN;rw[if_pos (by lia),if_pos (by lia)];simp
 unfold atI;rw[e];exact h
def zc7(b:Expr):Prop:=∀o i,subscripted b false o i=operate [o,i] (Ff o i)
def IxR(X:Cx)(r:R2):Prop:=
 ∀(value slice:Expr)(pins:List (Addr×Obj))(s:pH)(σ:St)(H:Hp)(x y:V)(v u:pB)(Q:VK),Inv X pins σ H s->zm x v->zm y u->r x y H Q->
  subscripted slice false v u=operate [v,u] (Ff v u)->wpAny (model X.prog X.w) X.A (DZ value slice v u) (EP X pins σ Q) X.xe s
def MtR(X:Cx)(id:String)(r:V->List V->Hp->VK->Prop):Prop:=
 ∀(pins:List (Addr×Obj))(s:pH)(σ:St)(H:Hp)(x:V)(xs:List V)(v:pB)(us:List pB)(Q:VK),Inv X pins σ H s->zm x v->zn xs us->r x xs H Q->
  wpAny (model X.prog X.w) X.A (call (.builtin id) (v::us)) (EP X pins σ Q) X.xe s
section
variable{X:Cx}{a b:Expr}{ta tb:TE}{pos:Pos}
def pe_ix{r:R2}(hr:IxR X r)(ha:PE X a ta)(hb:PE X b tb)(hs:zc7 b):PE X (.Subscript a b pos) (tOp r ta tb):=by
 intro pins s σ H Q I h;exact FI (binT ha hb I h λv u s2 x y H2 I2 rx ry q=>hr a b pins s2 σ H2 x y v u Q I2 rx ry q (hs _ _))
def rIxL(K:pI):R2:=λx y H Q=>∃p xs i v,x=.ref p/\y=.int i/\SqL K H p xs/\atI xs i=some v/\Q v H
def rIxT(K:pI):R2:=λx y H Q=>∃p xs i v,x=.ref p/\y=.int i/\SqT K H p xs/\atI xs i=some v/\Q v H
theorem VS:IxR X (rIxL X.K):=by
 intro value slice pins s σ H x y v u Q I rx ry h hs;obtain⟨p,xs,i,z,rfl,rfl,hq,he,q⟩:=h
 cases rx;obtain⟨t,rfl⟩:=ry;obtain⟨its,r,pl,hz⟩:=I.list hq;obtain⟨j,h1,h2,h3,h4,h5⟩:=zap he;obtain⟨w,ew,rw'⟩:=r.get h2;have hl:=r.length;have hn:=line63;have fin:EP X pins σ Q w s:=⟨z,H,I,rw',q⟩
 by_cases h0:0<=i
 ·have hj:i.toNat=j:=by
   rw[seqIndex_of h0 h5] at h1;exact ux h1
  exact item_listR pl.isList h0 (by lia) (by rw[hj];simpa using ew) fin hs
 ·have hj:(i+(its.toArray.size:Int)).toNat=j:=by
   rw[seqIndex_neg (by lia) h4] at h1
   rw[uG,←hl];exact ux h1
  exact EE (x:=w) pl.isList.typeIs DS.lookup
   (wpAny_getItem_list_neg (Q:=λr s'=>r=w/\EP X pins σ Q r s') pl.isList (by lia) (by rw[uG]<;>lia) (by lia) (by rw[hj];simpa using ew) ⟨rfl,fin⟩) hs
theorem ix_tup:IxR X (rIxT X.K):=by
 intro value slice pins s σ H x y v u Q I rx ry h hs;obtain⟨p,xs,i,z,rfl,rfl,hq,he,q⟩:=h
 cases rx;obtain⟨t,rfl⟩:=ry;obtain⟨its,r,pl,hz⟩:=I.tuple hq;obtain⟨j,h1,h2,h3,h4,h5⟩:=zap he;obtain⟨w,ew,rw'⟩:=r.get h2;have hl:=r.length;have hn:=line63;have fin:EP X pins σ Q w s:=⟨z,H,I,rw',q⟩;exact EE (x:=w) pl.typeIs slot_tuple_getitem.lookup
  (getItem_tuple (j:=j) (Q:=λr s'=>r=w/\EP X pins σ Q r s') pl (by lia) (by lia) (by rw[uG,←hl];exact h1) (by simpa using ew) ⟨rfl,fin⟩) hs
theorem zeu(lo hi:Option Int)(n:Nat):(Az lo hi none n).1=((HT.sIx n 0 lo:Nat):Int)/\(Az lo hi none n).2.1=((HT.sIx n n hi:Nat):Int)/\(Az lo hi none n).2.2=1:=by
 refine⟨?_,?_,rfl⟩
 ·cases lo with
  |none=>simp[Az,HT.sIx]
  |some i=>
   simp only[Az,HT.sIx,GB,show(1:Int)>0 by decide,if_true]
   by_cases h:i<0
   ·simp only[h,if_true]<;>lia
   ·simp only[h,if_false]<;>lia
 ·cases hi with
  |none=>simp[Az,HT.sIx]
  |some i=>
   simp only[Az,HT.sIx,GB,show(1:Int)>0 by decide,if_true]
   by_cases h:i<0
   ·simp only[h,if_true]<;>lia
   ·simp only[h,if_false]<;>lia
def ziy(its:List pB)(lo hi:Option Int):GC its.toArray lo hi none=((its.drop (HT.sIx its.length 0 lo)).take (HT.sIx its.length its.length hi-HT.sIx its.length 0 lo)).toArray:=by
 obtain⟨h1,h2,h3⟩:=zeu lo hi its.toArray.size;unfold GC;rw[h1,h2,h3];simp only[sliceRange_one,pick_run,uG]<;>rfl
def rSlL(K:pI):V->Option Int->Option Int->Hp->VK->Prop:=λx lo hi H Q=>∃a xs,x=.ref a/\SqL K H a xs/\∀p,H p=none->Q (.ref p) (upd H p (.lst (xH xs lo hi)))
theorem sl_list:SlR X (rSlL X.K):=by
 intro pins s σ H x v vl vu lo hi sl Q I rx hs pl pu h;obtain⟨a,xs,rfl,hx,q⟩:=h
 cases rx;obtain⟨its,r,ht,hz⟩:=I.list hx;have hlen:=r.length;refine⟨"list",_,DS.lookup,ht.isList.typeIs,?_⟩;refine Da ht.isList hs pl pu .none (by simp) ?_ (by rw[uG]<;>lia)
 rw[ziy,←hlen];refine⟨.ref s.heap.objs.size,_,I.laid (t':=s.toks) (o:=.lst (xH xs lo hi)) (λb ob q=>pU _ q) (pG _) ?_,rfl,q _ (I.hok.fresh (pG _))⟩;exact⟨pz (zi2 xs lo hi) hz,_,0,(r.drop (HT.sIx xs.length 0 lo)).take (HT.sIx xs.length xs.length hi-HT.sIx xs.length 0 lo),uM _ rfl⟩
theorem YO:yF X (.builtin "len") (λxs H Q=>∃p ys,xs=[.ref p]/\(SqL X.K H p ys∨SqT X.K H p ys)/\Q (.int ys.length) H):=by
 intro pins s σ H xs us Q I r h;obtain⟨p,ys,rfl,hq,q⟩:=h;obtain⟨u,rfl,rx⟩:=vals1 r
 cases rx;have hn:=line63;rcases hq with hq|hq
 ·obtain⟨its,r',pl,hz⟩:=I.list hq;have hlen:=r'.length;exact Calls.call_len_list pl.isList (by simp only[uG]<;>lia) ⟨.int ys.length,H,I.tok _,⟨s.toks+1,by rw[uG,hlen]⟩,q⟩
 ·obtain⟨its,r',pl,hz⟩:=I.tuple hq;have hlen:=r'.length;exact len_tuple pl (by simp only[uG]<;>lia) ⟨.int ys.length,H,I.tok _,⟨s.toks+1,by rw[uG,hlen]⟩,q⟩
theorem zhs:yF X (.type "list") (λxs H Q=>∃p ys,xs=[.ref p]/\(SqL X.K H p ys∨SqT X.K H p ys)/\∀l,H l=none->Q (.ref l) (upd H l (.lst ys))):=by
 intro pins s σ H xs us Q I r h;obtain⟨p,ys,rfl,hq,q⟩:=h;obtain⟨u,rfl,rx⟩:=vals1 r
 cases rx;have fin:∀(its:List pB),zn ys its->ys.length<=sizeLine->∀(h':Heap)(c':Nat),(∀b o',s.heap.get? b=some o'->h'.get? b=some o')->
   h'.get? s.heap.objs.size=some {cls:=.type "list",dict:=none,data:=.seq its.toArray c',slots:=#[]}->EP X pins σ Q (.ref s.heap.objs.size) {s with heap:=h'}:=λits r' hz h' c' kp e=>
  ⟨.ref s.heap.objs.size,_,I.laid (t':=s.toks) kp (pG _) (show yj X.prog X.w _ h' _ (.lst ys) from⟨hz,its,c',r',e⟩),rfl,q _ (I.hok.fresh (pG _))⟩
 rcases hq with hq|hq
 ·obtain⟨its,r',pl,hz⟩:=I.list hq;have hlen:=r'.length;obtain⟨o,ho,hc,n,hd⟩:=pl.isList;exact call_list_seq p (.inl rfl) ho hc hd (λh' c' kp e=>fin its r' hz h' c' kp e) (by simp only[uG]<;>lia)
 ·obtain⟨its,r',pl,hz⟩:=I.tuple hq;have hlen:=r'.length;obtain⟨o,ho,hc,n,hd⟩:=pl;exact call_list_seq p (.inr rfl) ho hc hd (λh' c' kp e=>fin its r' hz h' c' kp e) (by simp only[uG]<;>lia)
def tyV(K:pI)(T:String)(x:V)(H:Hp):Prop:=match x with
 |.str _=>T="str"
 |.int _=>T="int"
 |.ref p=>(T="list"/\∃xs,SqL K H p xs)∨(T="tuple"/\∃o,K.lookup p=some o/\o.cls=.type "tuple"/\o.dict=none)∨
   (T="dict"/\((∃kvs,H p=some (.dK kvs))∨∃kvs,H p=some (.dT kvs)))∨(T="set"/\∃S n,H p=some (.set S n))
 |_=>False
theorem Z6{pins:List (Addr×Obj)}{σ:St}{H:Hp}{s:pH}{T:String}{x:V}{v:pB}(I:Inv X pins σ H s)(r:zm x v)(ty:tyV X.K T x H):
  s.TypeIs v T/\∀a,v=.ref a->∃ob,s.heap.get? a=some ob/\ob.dict=none:=by
 cases x with
 |str z=>
  obtain⟨t,rfl⟩:=r
  cases(show T="str" from ty);exact⟨typeIs_str s z t,λ_ e=>nomatch e⟩
 |int i=>
  obtain⟨t,rfl⟩:=r
  cases(show T="int" from ty);exact⟨typeIs_int s i t,λ_ e=>nomatch e⟩
 |ref p=>
  cases r;rcases ty with⟨rfl,xs,hq⟩|⟨rfl,o,hk,hc,hd⟩|⟨rfl,hk⟩|⟨rfl,S,n,hk⟩
  ·obtain⟨its,_,pl,_⟩:=I.list hq;refine⟨pl.isList.typeIs,λa e=>?_⟩
   cases e;obtain⟨o,n,e,c,hd,_⟩:=pl;exact⟨o,e,hd⟩
  ·refine⟨⟨o,I.kIn p o hk,hc⟩,λa e=>?_⟩
   cases e;exact⟨o,I.kIn _ o hk,hd⟩
  ·have z:∃o,s.heap.get? p=some o/\o.ExactDict:=by
    rcases hk with⟨kvs,hk⟩|⟨kvs,hk⟩
    ·obtain⟨_,_,_,_,o,_,_,e,ex,_⟩:=I.hok p _ hk;exact⟨o,e,ex⟩
    ·obtain⟨_,_,_,_,o,_,_,e,ex,_⟩:=I.hok p _ hk;exact⟨o,e,ex⟩
   obtain⟨o,e,ex⟩:=z;refine⟨⟨o,e,ex.1⟩,λa e2=>?_⟩
   cases e2;exact⟨o,e,ex.2.1⟩
  ·obtain⟨o,_,_,_,e,ex,_⟩:=I.hok p _ hk;refine⟨⟨o,e,ex.1⟩,λa e2=>?_⟩
   cases e2;exact⟨o,e,ex.2.1⟩
 |_=>exact Um ty
def tBM0(K:pI)(T:String)(r:V->List V->Hp->VK->Prop)(to:TE):TE:=λσ H Q=>to σ H λx H1=>tyV K T x H1/\r x [] H1 Q
def tBM(K:pI)(T:String)(r:V->List V->Hp->VK->Prop)(to:TE)(t:TA):TE:=λσ H Q=>to σ H λx H1=>tyV K T x H1/\t σ H1 λxs H2=>r x xs H2 Q
variable{o e:Expr}{es:List Expr}{to:TE}{t:TA}{name:Str}{apos cpos:Pos}{T id:String}{r:V->List V->Hp->VK->Prop}
def pe_bm0(pa:PlainAttrs T)(slot:Slot T name id)(hty:GD (.builtin id)=pure (.type "method_descriptor"))(hm:MtR X id r)(ho:PE X o to)
  (hbase:Db o name X.env (eval o X.env)=eval o X.env:=by rfl)(hline:(apos.endLine==cpos.line)=true:=by rfl):PE X (.Call (.Attribute o name apos) [] [] cpos) (tBM0 X.K T r to):=by
 intro pins s σ H Q I h;refine wpAny_Call_method0_late hbase hline (thn (ho pins s σ H _ I h) λv s1⟨x,H1,I1,r1,ty,q1⟩=>?_);obtain⟨h1,h2⟩:=Z6 I1 r1 ty;exact⟨T,id,pa,slot,hty,h1,h2,gY rfl (PySem.evalArgs_none (hm pins s1 σ H1 x [] v [] Q I1 r1 .nil q1))⟩
def xM(pa:PlainAttrs T)(slot:Slot T name id)(hty:GD (.builtin id)=pure (.type "method_descriptor"))(hm:MtR X id r)(ho:PE X o to)(ha:PA X (e::es) t)
  (hbase:Db o name X.env (eval o X.env)=eval o X.env:=by rfl)
  (hfew:((Ao cpos (QP (e::es) X.env)).all (λx=> !x.1)&&(Cu cpos (Ax [] X.env)).all (λx=>x.1.isSome)
   &&decide ((e::es).length+([]:List DR).length+(if([]:List DR).isEmpty then 0 else 1)<30))=true:=by rfl)
  (hline:(apos.endLine==cpos.line)=true:=by rfl) (hs:QP (e::es) X.env=(false,eval e X.env)::QP es X.env:=by rfl) (hplain:(Ao cpos (QP es X.env)).any (·.1)=false:=by rfl):
  PE X (.Call (.Attribute o name apos) (e::es) [] cpos) (tBM X.K T r to t):=by
 intro pins s σ H Q I h;refine wpAny_Call_method_late hbase hfew hline rfl (thn (ho pins s σ H _ I h) λv s1⟨x,H1,I1,r1,ty,q1⟩=>?_);obtain⟨h1,h2⟩:=Z6 I1 r1 ty;refine⟨T,id,pa,slot,hty,h1,h2,?_⟩;have hA:=ha cpos pins s1 σ H1 _ I1 q1;rw[hs] at hA⊢;refine gY (by show(false||(Ao cpos (QP es X.env)).any (·.1))=false;rw[hplain]<;>rfl) (BA ?_)
 exact thn hA λus s2⟨vs,H2,I2,r2,q2⟩=>hm pins s2 σ H2 x vs v us Q I2 r1 r2 q2
end
def MtM(X:Cx)(id:String)(r:V->List V->Hp->VK->Prop):Prop:=
 ∀(pins:List (Addr×Obj))(s:pH)(σ:St)(H:Hp)(x:V)(xs:List V)(v:pB)(us:List pB)(Q:VK),Inv X pins σ H s->zm x v->zn xs us->r x xs H Q->
  wpAny (model X.prog X.w) X.A (call (.builtin id) (v::us)) (EP X pins σ Q) X.xe s
theorem zn.one:∀{x:V}{us:List pB},zn [x] us->∃u,us=[u]/\zm x u
 |_,_,.cons r .nil=>⟨_,rfl,r⟩
theorem zn.zero:∀{us:List pB},zn [] us->us=[]
 |_,.nil=>rfl
theorem zn.reverse{xs:List V}{us:List pB}(h:zn xs us):zn xs.reverse us.reverse:=by
 induction h with
 |nil=>exact .nil
 |cons r t ih=>rw[Fg,Fg];exact zn.append ih (.cons r .nil)
variable{its:List pB}
section
variable{X:Cx}{pins:List (Addr×Obj)}{σ:St}{H:Hp}{s:pH}{l b:Addr}{xs ys zs:List V}
def Inv.lset{its':List pB}{n:Nat}{f:Array pB->Array pB}{t':Nat}(I:Inv X pins σ H s)(hH:H l=some (.lst xs))
  (e:s.heap.get? l=some {cls:=.type "list",data:=.seq its.toArray n})(hf:f its.toArray=its'.toArray)(hv:zn ys its')(hz:ys.length<=sizeLine):
  Inv X pins σ (upd H l (.lst ys)) {s with heap:=s.heap.update l (uY f),toks:=t'}:=by
 have q:=PySem.IsL.update e f;rw[hf] at q;refine I.write (x:=l) (e:=l) (by rw[hH];exact trivial) (.inl rfl) (λb' u hb hu=>(Uu s.heap (uY f) (BI hb)).trans hu) ⟨_,q⟩ ?_
 exact⟨hz,its',_,hv,q⟩
def Inv.lnew{t':Nat}(I:Inv X pins σ H s)(hv:zn ys its)(hz:ys.length<=sizeLine):
  Inv X pins σ (upd H s.heap.objs.size (.lst ys)) {s with heap:=s.heap.push {cls:=.type "list",data:=.seq its.toArray},toks:=t'}:=
 I.laid (λ_ _ q=>pU _ q) (pG _) ⟨hz,its,0,hv,uM _ rfl⟩
def Inv.fresh(I:Inv X pins σ H s):H s.heap.objs.size=none:=I.hok.fresh (pG _)
def Inv.lstM(I:Inv X pins σ H s)(hH:H l=some (.lst xs)):xs.length<=sizeLine/\∃(its:List pB)(n:Nat),zn xs its/\xs.length=its.length/\s.heap.get? l=some {cls:=.type "list",data:=.seq its.toArray n}:=by
 obtain⟨z,its,n,r,e⟩:=I.hok l _ hH;exact⟨z,its,n,r,r.length,e⟩
theorem zh0{n:Nat}(h:n<=sizeLine):BR n=false:=by
 unfold BR;exact decide_eq_false (by lia)
end
section
variable{X:Cx}
def rAppend:V->List V->Hp->VK->Prop:=λx vs H Q=>∃l xs y,x=.ref l/\vs=[y]/\H l=some (.lst xs)/\xs.length<sizeLine/\Q .non (upd H l (.lst (xs++[y])))
theorem xU:MtM X "list.append" rAppend:=by
 intro pins s σ H x vs v us Q I rx rv h;obtain⟨l,xs,y,rfl,rfl,hH,hz,q⟩:=h
 cases rx;obtain⟨u,rfl,ru⟩:=rv.one;obtain⟨z,its,n,r,hl,e⟩:=I.lstM hH;refine FK F.slot_list_append ⟨_,e,rfl⟩ F.entry_list_append (F.args_list_append_2 _ _) (PySem.list_append l its.toArray n u (by rw[uG];omega)) ⟨e,?_⟩
 refine⟨.non,_,I.lset (its':=its++[u]) hH e (by simp) (r.append (.cons ru .nil)) ?_,rfl,q⟩
 rw[pK,uz];lia
def Wn:V->List V->Hp->VK->Prop:=λx vs H Q=>∃l b xs zs,x=.ref l/\vs=[.ref b]/\H l=some (.lst xs)/\H b=some (.lst zs)/\xs.length+zs.length<=sizeLine/\Q .non (upd H l (.lst (xs++zs)))
theorem ZM:MtM X "list.extend" Wn:=by
 intro pins s σ H x vs v us Q I rx rv h;obtain⟨l,b,xs,zs,rfl,rfl,hH,hB,hz,q⟩:=h
 cases rx;obtain⟨u,rfl,ru⟩:=rv.one
 cases ru;obtain⟨z,its,n,r,hl,e⟩:=I.lstM hH;obtain⟨z2,its2,n2,r2,hl2,e2⟩:=I.lstM hB;have hsz:its.toArray.size+its2.toArray.size<=sizeLine:=by rw[uG,uG];lia
 have hlong:¬(!its.toArray.isEmpty&&BR (its.toArray.size+its2.toArray.size))=true:=by
  rw[zh0 hsz,Gj];exact uO
 refine FK F.slot_list_extend ⟨_,e,rfl⟩ F.entry_list_extend (F.args_list_extend_2 _ _)
  (AutoSeq1.list_extend_list_list_0 l its.toArray n b its2.toArray n2 hlong (by rw[uG];lia) (by lia)) ⟨e,e2,?_⟩
 refine⟨.non,_,I.lset (its':=its++its2) hH e (by simp) (r.append r2) ?_,rfl,q⟩
 rw[pK];lia
def rClear:V->List V->Hp->VK->Prop:=λx vs H Q=>∃l xs,x=.ref l/\vs=[]/\H l=some (.lst xs)/\Q .non (upd H l (.lst []))
theorem zh5:MtM X "list.clear" rClear:=by
 intro pins s σ H x vs v us Q I rx rv h;obtain⟨l,xs,rfl,rfl,hH,q⟩:=h
 cases rx;have hus:=rv.zero;subst hus;obtain⟨z,its,n,r,hl,e⟩:=I.lstM hH;refine FK F.slot_list_clear ⟨_,e,rfl⟩ F.entry_list_clear (F.args_list_clear_1 _) (AutoSeq1.list_clear_list_0 l its.toArray n (by rw[uG];lia)) ⟨e,?_⟩
 exact⟨.non,_,I.lset (its':=[]) (ys:=[]) hH e rfl .nil (uL _),rfl,q⟩
def rCat:R2:=λx y H Q=>∃l b xs zs,x=.ref l/\y=.ref b/\H l=some (.lst xs)/\H b=some (.lst zs)/\xs.length+zs.length<=sizeLine/\∀p,H p=none->Q (.ref p) (upd H p (.lst (xs++zs)))
theorem J9:OpR X (Bk .Add) rCat:=by
 intro pins s σ H x y v u Q I rx ry h;obtain⟨l,b,xs,zs,rfl,rfl,hH,hB,hz,q⟩:=h
 cases rx
 cases ry;obtain⟨z,its,n,r,hl,e⟩:=I.lstM hH;obtain⟨z2,its2,n2,r2,hl2,e2⟩:=I.lstM hB;refine PySem.P.add_list e e2 ?_ (by rw[uG,uG];lia)
 have ea:its.toArray++its2.toArray=(its++its2).toArray:=by simp
 rw[ea];exact⟨.ref _,_,I.lnew (t':=s.toks) (r.append r2) (by rw[pK];lia),rfl,q _ I.fresh⟩
end
end L2
namespace Att
open PySem PySem.W PySem.Calls PyProof.Rows
theorem zir{P:Params}{h:Heap}:∀(ns:List Int)(vs:List pB),WellAll P h vs (ns.map WData.int)->gq vs ns:=by
 intro ns
 induction ns with
 |nil=>
  intro vs w;rw[QF] at w
  cases w;exact .nil
 |cons n ns ih=>
  intro vs w;rw[pR] at w
  cases w with
  |cons a b=>
   cases a;exact .cons _ _ (ih _ b)
theorem zj7{l:OpenLaw}{n:Nat}(hn:l.most=some n){P:Params}{h:Heap}{args:List WData}{vals:List pB}
  (hpre:l.row.toRowW.claim.pre args=true)(hwl:WellAll P h vals args):
  ∃a vs ns,vals=[um a]/\args=[WData.list (ns.map WData.int)]/\h.get? a=some {cls:=.type "list",data:=.seq vs.toArray}/\gq vs ns/\ns.length<=n:=by
 have hsh:WShape.hasAll [] args [.list .int]=true:=(pre_splitW hpre).1;have hc:l.pre.holds [] {args:=args}=true:=(pre_splitW hpre).2;obtain⟨d,r,rfl,h1,h2⟩:=hasAllW_cons hsh;obtain rfl:=hasAllW_nil h2;obtain⟨xs,rfl,h3⟩:=hasW_list h1;obtain⟨ns,rfl⟩:=items_int h3;have hlen:ns.length<=n:=by
  unfold OpenLaw.pre at hc;have h4:(WTm.not (.lt (.lit (.int (n:Int))) (.len (.arg 0)))).holds [] {args:=[.list (ns.map .int)]}=true:=by
   have h4:=(holds_andW hc).1;rw[hn] at h4;exact h4
  have h5:=condW_of h4 (w_not (w_lt w_lit (w_len_list (w_arg rfl))));rw[pC] at h5;refine Nat.le_of_not_lt λq=>?_;have q':(n:Int)<((ns.length:Nat):Int):=by omega
  first
   |(rw[decide_eq_true q'] at h5;exact absurd h5 (by decide))
   |(simp at h5;omega)
 cases hwl with
 |cons w1 w2=>
  cases w2
  cases w1 with
  |list ho hall=>exact⟨_,_,ns,rfl,rfl,ho,zir ns _ hall,hlen⟩
def ziq(l:OpenLaw)(args:List WData):l.row.toRowW.claim.post args (.bool true) args=true:=
 postW_of (r:=l.row.toRowW) (X:=(true==true))
  (show WShape.has [] (.bool true) .bool=true by first|rfl|decide|simp[WShape.has,WShape.arms,WShape.armsAll])
  (show(WTm.eq .res (.lit (.bool true))).value [] {args:=args,res:=some (.bool true),after:=args}=some (.bool (true==true)) from w_eq_bool (w_res rfl) w_lit) rfl
def attach_call{l:OpenLaw}{n:Nat}{q:uB}{loose:List Str}{XP:(Str->Option pB)->Heap->Prop}{YP:uW->Heap->Prop}{d:DefRec}
  (hn:l.most=some n)(hdf:d.params.defaults=[])
  (call:∀(w:uW)(s₀ s₁:pH)(mg mb:Str->Option pB)(fa:Addr)(o:Obj)(pm cd doc:pB)(a:Addr)(vs:List pB)(ns:List Int),
   Ground q loose [] XP w s₀ mg mb s₁.heap->YP w s₁.heap->
   s₁.heap.get? fa=some o->o.data=.func (docDef d.name d.params d.body d.scope pm cd doc)->s₁.heap.CodeRec cd d.name->mg d.name=some (.ref fa)->
   s₁.heap.get? a=some {cls:=.type "list",data:=.seq vs.toArray}->gq vs ns->ns.length<=n->s₁.gens=#[]->
   Ci (model l.prog w) FA (.call (.ref fa) ⟨[.ref a],[]⟩) (λr s'=>r=.ok (.ret (.bool true))/\OldK s₁.heap s'.heap/\s'.os=s₁.os/\DO s'.gens) s₁):
  WalkO q loose XP YP l.row.toRowW d [] (λf vs=>Gk f vs):=by
 intro w s₀ s₁ mg mb G Y fa o pm cd doc dV kV ho hd hcd hD hmg hg args vals as hpre hlay hrd hwl hlo;obtain rfl:dV=.none:=Dflts.none hD hdf;obtain rfl:kV=.none:=Dflts.noKw hD;obtain⟨a,vs,ns,rfl,rfl,hobj,hints,hlen⟩:=zj7 hn hpre hwl;refine enter_call (EB (call w s₀ s₁ mg mb fa o pm cd doc a vs ns G Y ho (fd_plain hd) hcd hmg hobj hints hlen hg) λr s' hq=>?_);obtain⟨rfl,h2,h3,h4⟩:=hq;exact⟨.inl ⟨.bool true,.bool true,[],rfl,λ_=>rfl,.bool true,ziq l _,λ_=>⟨List.Pairwise.nil,λ_ hm=>(nomatch hm)⟩⟩,h2,h3,h4⟩
end Att
namespace L2
open PySem PySem.Spec PyProof.Rows
theorem Zv:∀{vs:List pB}{ns:List Int},gq vs ns->zn (ns.map V.int) vs
 |_,_,.nil=>.nil
 |_,_,.cons n t h=>.cons ⟨t,rfl⟩ (Zv h)
noncomputable def wV(s:Stmt):Dn:=match s with
 |.FunctionDef _ a _ _ _ _ _ _ _ _=>a
 |_=>{posonlyargs:=[],args:=[],vararg:=none,kwonlyargs:=[],kw_defaults:=[],kwarg:=none,defaults:=[]}
noncomputable def xw(s:Stmt):List Stmt:=match s with
 |.FunctionDef _ _ b _ _ _ _ _ _ _=>b
 |_=>[]
noncomputable def zo(s:Stmt):Scope:=match s with
 |.FunctionDef _ _ _ _ _ _ sc _ _ _=>sc
 |_=>{kind:=.function,names:=[],isGenerator:=false,isCoroutine:=false}
abbrev CX0:CXT:=λ_ _ _ _ _ _=>False
abbrev E0:XK:=λ_ _ _=>False
def pass0{X:Cx}:Passes CX0 X E0:=λ_ _ _ _ _ _ _ h=>h.elim
structure Fun(K:pI)(x qual:Str)(st:Stmt)(f:Addr)(fd:UM):Prop where
 ex:∃(oc:pB)(od:Option Addr)(kV doc pm:pB)(an:Option Addr)(cdv ct:pB)(osl:Array (Option pB)),
  fd=Ut x qual (wV st) (xw st) (zo st) .none kV doc pm an cdv ct/\K.lookup f=some ⟨oc,od,.func fd,osl⟩/\Ay K cdv qual=true
 kp:Bm K (.ref f)=true
variable{ps:List Str}{sp:Sp}
section
variable{P:uB}{w:uW}{K:pI}{mg:Str->Option pB}{base:Heap}
variable{x qual:Str}{st:Stmt}{f:Addr}
def Fun.ok{fd:UM}{N:List Str}{k:Nat}(F:Fun K x qual st f fd)(S:zw N ps (zo st))(len:∀vs H Q E,sp vs H Q E->vs.length=ps.length)
  (hbody:∀(cdv:pB)(A:uv)(outer:List Env)(s:pH)(H:Hp)(vs:List V)(Q:VK)(E:XK),yb k (A.deeper (EC qual (zo st) s.heap.objs.size f cdv))->sp vs H Q E->
   ∃t,PSs (wc CX0 P w K mg base N qual (zo st) f cdv A outer s H E).nox (xw st) t/\t {nx:=λ_ H'=>Q .non H',rt:=Q} (start N vs) H):zv P w K mg base CX0 (k+1) f fd ps sp:=by
 obtain⟨oc,od,kV,doc,pm,an,cdv,ct,osl,rfl,lk,hcd⟩:=F.ex;refine fn_of lk hcd S len λA outer s H vs Q E hr hsp=>?_;obtain⟨t,h,q⟩:=hbody cdv A outer s H vs Q E hr hsp;exact⟨t,h.nox,q⟩
def Fun.binds{fd:UM}(F:Fun K x qual st f fd)
  (h:∀(kV doc pm:pB)(an:Option Addr)(cdv ct:pB)(us:List pB),us.length=ps.length->AS (Ut x qual (wV st) (xw st) (zo st) .none kV doc pm an cdv ct) ⟨us,[]⟩=pure (ps.zip us)):Binds K fd ps []:=by
 obtain⟨oc,od,kV,doc,pm,an,cdv,ct,osl,rfl,lk,hcd⟩:=F.ex;exact .all (h kV doc pm an cdv ct)
def zb8{oc:pB}{od an:Option Addr}{osl:Array (Option pB)}{kV doc pm cdv ct:pB}(l:K.lookup f=some ⟨oc,od,.func (Ut x qual (wV st) (xw st) (zo st) .none kV doc pm an cdv ct),osl⟩)
  (c:Ay K cdv qual=true)(k:Bm K (.ref f)=true):Fun K x qual st f (Ut x qual (wV st) (xw st) (zo st) .none kV doc pm an cdv ct):=⟨⟨oc,od,kV,doc,pm,an,cdv,ct,osl,rfl,l,c⟩,k⟩
end
def xj{A:uv}{k:Nat}(hr:yb k A):A.units+1<cLine:=QN (FC (by decide:1<=64) _) hr.units
def small1000{n:Nat}(h:n<=1000):n<sizeLine:=QN h (by decide)
section
variable{X:Cx}
def pv(i:Nat){x:Str}{pos:Pos}(hN:X.N[i]?=some x:=by rfl)(hv:Vis X.env.scope x:=by first|exact Ef rfl|exact Dc (Ef rfl)|exact Dc (Dc rfl))(hd:(x==("__debug__":Str))=false:=by decide)
  (hcd:(x==("__classdict__":Str))=false:=by decide):PE X (.Name x pos) (tVar i):=Z9 hN hv hd hcd
end
variable{B:Prop}
def yE{A:Prop}(h:B):if false=true then A else B:=by
 rw[if_neg uO];exact h
def vx{A:Prop}(h:A):if true=true then A else B:=by
 rw[if_pos rfl];exact h
def ite2{c A:Prop}[Decidable c](h1:c->A)(h2:¬c->B):if c then A else B:=by
 by_cases h:c
 ·rw[if_pos h];exact h1 h
 ·rw[if_neg h];exact h2 h
def ze(H H':Hp):Prop:=∀b o,H b=some o->H' b=some o
def ze.refl(H:Hp):ze H H:=λ_ _ h=>h
def ze.trans{H H1 H2:Hp}(a:ze H H1)(b:ze H1 H2):ze H H2:=λc o h=>b c o (a c o h)
variable{l:Addr}
theorem ze.free{H H':Hp}(e:ze H H')(h:H' l=HX):H l=HX:=by
 cases q:H l with
 |none=>rfl
 |some o=>
  rw[e l o q] at h
  cases h
def ze.seq{K:pI}{H H':Hp}{a:Addr}{xs:List V}(e:ze H H')(h:SqL K H a xs):SqL K H' a xs:=by
 rcases h with(h|⟨o,h⟩)|h
 ·exact .inl (.inl (e _ _ h))
 ·exact .inl (.inr ⟨o,e _ _ h⟩)
 ·exact .inr h
variable{T:String}
section
variable{X:Cx}
def Yv(i j:Int):Prop:=i.natAbs<2^1000000/\j.natAbs<2^1000000
def Yv.ok{i j:Int}(h:Yv i j):IntMulOk i j:=
 PySem.IntMulOk.of_le (Eh.mpr h.1) (Eh.mpr h.2) (by decide)
def zN:OpR X (Bk .Mult) (rI Yv λi j=>.int (i*j)):=opI λ_ _ _ _ _ _ _ hc q=>mul_int q hc.ok
def Vk(_i j:Int):Prop:=j≠0/\j.natAbs<2^8999
theorem wW:OpR X (Bk .FloorDiv) (rI Vk λi j=>.int (i.fdiv j)):=opI λ_ j _ _ _ _ _ hc q=>by
 refine floordiv_int hc.1 q (.inl (PyProof.noPylong_of_log2 ?_));have h0:j.natAbs≠0:=by have:=hc.1;omega
 have:=(Nat.log2_lt h0).mpr hc.2;lia
def Vv:Qh "abs"=some (.builtin "abs"):=by decide+kernel
def yG:Qh "len"=some (.builtin "len"):=by decide+kernel
def jn:Qh "isinstance"=some (.builtin "isinstance"):=by decide+kernel
def V1:Qh "int"=some (.type "int"):=by decide+kernel
def zbr:Qh "bool"=some (.type "bool"):=by decide+kernel
def jH:Qh "list"=some (.type "list"):=by decide+kernel
noncomputable def dictO(a:Addr):HO:=.ext λh=>∃o,h.get? a=some o/\o.cls=.type "dict"
def tyN(K:pI)(H:Hp)(x:V)(T:String):Prop:=match x with
 |.non=>T="NoneType"
 |.bl _=>T="bool"
 |.int _=>T="int"
 |.str _=>T="str"
 |.ref p=>(T="list"/\∃xs,SqL K H p xs)∨(T="tuple"/\∃xs,SqT K H p xs)∨(T="dict"/\H p=some (dictO p))
 |_=>False
variable{pins:List (Addr×Obj)}{H:Hp}{x:V}
theorem zcb{σ:St}{s:pH}{v:pB}(I:Inv X pins σ H s)(r:zm x v)(ty:tyN X.K H x T):s.TypeIs v T:=by
 cases x with
 |non=>cases r;cases(show T="NoneType" from ty);rfl
 |bl b=>cases r;cases(show T="bool" from ty);rfl
 |int i=>obtain⟨t,rfl⟩:=r;cases(show T="int" from ty);exact typeIs_int s i t
 |str z=>obtain⟨t,rfl⟩:=r;cases(show T="str" from ty);exact typeIs_str s z t
 |ref p=>
  cases r;rcases ty with⟨rfl,xs,hq⟩|⟨rfl,xs,hq⟩|⟨rfl,hq⟩
  ·obtain⟨its,_,pl,_⟩:=I.list hq;exact pl.isList.typeIs
  ·obtain⟨its,_,⟨o,e,c,_⟩,_⟩:=I.tuple hq;exact⟨o,e,c⟩
  ·obtain⟨⟨o,e,c⟩,_⟩:=I.hok p _ hq;exact⟨o,e,c⟩
 |_=>exact Um ty
theorem jk{σ:St}{s:pH}{Tx:String}{b:Bool}{v:pB}{Q:VK}(hne:b=false->(CK Tx==CK T)=false)
  (hty:GD (.type T)=pure (.type "type"))(hsub:CM (.type Tx) (.type T)=pure b)(I:Inv X pins σ H s)(r:zm x v)(ht:tyN X.K H x Tx)(q:Q (.bl b) H):
  wpAny (model X.prog X.w) X.A (call (.builtin "isinstance") [v,.type T]) (EP X pins σ Q) X.xe s:=by
 cases b with
 |true=>exact call_isinstance_yes (zcb I r ht) hty hsub ⟨.bl true,H,I,rfl,q⟩
 |false=>
  have hq:EP X pins σ Q (.bool false) {s with toks:=s.toks+1}:=⟨.bl false,H,I.tok _,rfl,q⟩
  cases x with
  |non=>cases r;cases(show Tx="NoneType" from ht);exact gv (isinstance_false_none (hne rfl) hty hsub) hq
  |bl b=>cases r;cases(show Tx="bool" from ht);exact gv (isinstance_false_bool (hne rfl) hty hsub) hq
  |int i=>obtain⟨t,rfl⟩:=r;cases(show Tx="int" from ht);exact gv (isinstance_false_int (hne rfl) hty hsub) hq
  |str z=>obtain⟨t,rfl⟩:=r;cases(show Tx="str" from ht);exact gv (isinstance_false_str (hne rfl) hty hsub) hq
  |ref p=>
   have ty:=zcb I r ht
   cases r;rcases ht with⟨rfl,xs,hs⟩|⟨rfl,xs,hs⟩|⟨rfl,hs⟩
   ·exact gv (isinstance_false_list (hne rfl) hty hsub) ⟨ty,hq⟩
   ·exact gv (isinstance_false_tuple (hne rfl) hty hsub) ⟨ty,hq⟩
   ·exact gv (isinstance_false_dict (hne rfl) hty hsub) ⟨ty,hq⟩
  |_=>exact Um ht
noncomputable def yq(Tx T:String):Bool:=(Tx==T)||(Tx=="bool"&&T=="int")
def zix:GD (.type "int")=pure (.type "type"):=by kernel_rfl
def zic:GD (.type "bool")=pure (.type "type"):=by kernel_rfl
def zhx:GD (.type "list")=pure (.type "type"):=by kernel_rfl
theorem tyN_in{K:pI}(h:tyN K H x T):T="NoneType"∨T="bool"∨T="int"∨T="str"∨T="list"∨T="tuple"∨T="dict":=by
 cases x with
 |non=>exact .inl h
 |bl b=>exact .inr (.inl h)
 |int i=>exact .inr (.inr (.inl h))
 |str z=>exact .inr (.inr (.inr (.inl h)))
 |ref p=>
  rcases h with⟨h,_⟩|⟨h,_⟩|⟨h,_⟩
  ·exact .inr (.inr (.inr (.inr (.inl h))))
  ·exact .inr (.inr (.inr (.inr (.inr (.inl h)))))
  ·exact .inr (.inr (.inr (.inr (.inr (.inr h)))))
 |_=>exact Um h
def rIsi(K:pI)(T:String):List V->Hp->VK->Prop:=λxs H Q=>∃x Tx,xs=[x,.ty T]/\tyN K H x Tx/\Q (.bl (yq Tx T)) H
def Vw(hty:GD (.type T)=pure (.type "type"))(h1:CM (.type "NoneType") (.type T)=pure (yq "NoneType" T))(h2:CM (.type "bool") (.type T)=pure (yq "bool" T))(h3:CM (.type "int") (.type T)=pure (yq "int" T))
  (h4:CM (.type "str") (.type T)=pure (yq "str" T))(h5:CM (.type "list") (.type T)=pure (yq "list" T))(h6:CM (.type "tuple") (.type T)=pure (yq "tuple" T))(h7:CM (.type "dict") (.type T)=pure (yq "dict" T))
  (hn:∀Tx∈["NoneType","bool","int","str","list","tuple","dict"],yq Tx T=false->(CK Tx==CK T)=false):yF X (.builtin "isinstance") (rIsi X.K T):=by
 intro pins s σ H xs us Q I r h;obtain⟨x,Tx,rfl,ht,q⟩:=h;obtain⟨u,w',rfl,ru,rw'⟩:=vals2 r
 cases rw';rcases tyN_in ht with rfl|rfl|rfl|rfl|rfl|rfl|rfl
 ·exact jk (hn _ (by simp)) hty h1 I ru ht q
 ·exact jk (hn _ (by simp)) hty h2 I ru ht q
 ·exact jk (hn _ (by simp)) hty h3 I ru ht q
 ·exact jk (hn _ (by simp)) hty h4 I ru ht q
 ·exact jk (hn _ (by simp)) hty h5 I ru ht q
 ·exact jk (hn _ (by simp)) hty h6 I ru ht q
 ·exact jk (hn _ (by simp)) hty h7 I ru ht q
def zcz:yF X (.builtin "isinstance") (rIsi X.K "int"):=Vw zix (by rw[uw];kernel_rfl) (by rw[uw];kernel_rfl) (by rw[uw];kernel_rfl) (by rw[uw];kernel_rfl) (by rw[uw];kernel_rfl) (by rw[uw];kernel_rfl) (by rw[uw];kernel_rfl) (by decide+kernel)
def zc8:yF X (.builtin "isinstance") (rIsi X.K "bool"):=Vw zic (by rw[uw];kernel_rfl) (by rw[uw];kernel_rfl) (by rw[uw];kernel_rfl) (by rw[uw];kernel_rfl) (by rw[uw];kernel_rfl) (by rw[uw];kernel_rfl) (by rw[uw];kernel_rfl) (by decide+kernel)
def VN:yF X (.builtin "isinstance") (rIsi X.K "list"):=Vw zhx (by rw[uw];kernel_rfl) (by rw[uw];kernel_rfl) (by rw[uw];kernel_rfl) (by rw[uw];kernel_rfl) (by rw[uw];kernel_rfl) (by rw[uw];kernel_rfl) (by rw[uw];kernel_rfl) (by decide+kernel)
end
variable{outer:List Env}
def cx_K{CX:CXT}{P:uB}{w:uW}{K:pI}{mg:Str->Option pB}{base:Heap}{N:List Str}{qual:Str}{scope:Scope}{f:Addr}{cd:pB}{A:uv}{s:pH}{H:Hp}{E:XK}:
  (wc CX P w K mg base N qual scope f cd A outer s H E).K=K:=rfl
def tyN_non{K:pI}{H:Hp}:tyN K H .non T=(T="NoneType"):=rfl
def tyN_bl{K:pI}{H:Hp}{b:Bool}:tyN K H (.bl b) T=(T="bool"):=rfl
def tyN_int{K:pI}{H:Hp}{i:Int}:tyN K H (.int i) T=(T="int"):=rfl
def tyN_str{K:pI}{H:Hp}{x:Str}:tyN K H (.str x) T=(T="str"):=rfl
def isi_ii:yq "int" "int"=true:=by decide+kernel
def isi_ib:yq "int" "bool"=false:=by decide+kernel
def VD:yq "int" "tuple"=false:=by decide+kernel
def VQ:yq "int" "list"=false:=by decide+kernel
def Js:yq "bool" "int"=true:=by decide+kernel
def WO:yq "bool" "bool"=true:=by decide+kernel
def V6:yq "NoneType" "int"=false:=by decide+kernel
def Vp:yq "str" "int"=false:=by decide+kernel
def Vn:yq "tuple" "int"=false:=by decide+kernel
def XR:yq "list" "int"=false:=by decide+kernel
def Jw:yq "dict" "int"=false:=by decide+kernel
def VV:yq "tuple" "tuple"=true:=by decide+kernel
def isi_ll:yq "list" "list"=true:=by decide+kernel
def scal_ii{i j:Int}:scal (.int i) (.int j)=true:=rfl
def scal_bb{i j:Bool}:scal (.bl i) (.bl j)=true:=rfl
def zg{H:Hp}{p:Addr}(h:H p=none)(o:HO):ze H (upd H p o):=λb u q=>by rw[zh (xu q h)];exact q
def cbig{i j:Int}{m n:Nat}(h1:i.natAbs<2^m)(h2:j.natAbs<2^n)(hm:m<=1000000:=by decide)(hn:n<=1000000:=by decide):Yv i j:=
 ⟨pf h1 (AC (by decide) hm),pf h2 (AC (by decide) hn)⟩
def cdivb{i j:Int}{n:Nat}(h0:j≠0)(h:j.natAbs<2^n)(hn:n<=8999:=by decide):Vk i j:=⟨h0,pf h (AC (by decide) hn)⟩
noncomputable def getI(σ:St)(i:Nat):Int:=match σ[i]? with
 |some (some (.int x))=>x
 |_=>0
def sz0:(0<=sizeLine)=True:=eq_true (by decide)
def sz1:(1<=sizeLine)=True:=eq_true (by decide)
def sz2:(2<=sizeLine)=True:=eq_true (by decide)
def sz3:(3<=sizeLine)=True:=eq_true (by decide)
def sz4:(4<=sizeLine)=True:=eq_true (by decide)
def NS(e:Expr):Prop:=∀es env,QP (e::es) env=(false,eval e env)::QP es env
def yy{a b c}:NS (Expr.Constant a b c):=λ_ _=>rfl
def zb{a b}:NS (Expr.Name a b):=λ_ _=>rfl
def yw{a b c d}:NS (Expr.Call a b c d):=λ_ _=>rfl
def zx{a b c d}:NS (Expr.BinOp a b c d):=λ_ _=>rfl
def xI{a b c}:NS (Expr.Tuple a b c):=λ_ _=>rfl
def VP{a b}:NS (Expr.List a b):=λ_ _=>rfl
def zY{a b c}:NS (Expr.Subscript a b c):=λ_ _=>rfl
def zf8{a b c d}:NS (Expr.Compare a b c d):=λ_ _=>rfl
def v7{a b c d}:NS (Expr.ListComp a b c d):=λ_ _=>rfl
variable{t1 t2 t3 t4 t5:TS}{e2 e3 e4 e5:Stmt}
section
variable{X:Cx}
variable{e1:Expr}
def pa1{t1:TE}(h1:PE X e1 t1)(n1:NS e1):PA X [e1] (zU t1 xy):=(yD h1 yM (n1 _ _))
def pa2{e2:Expr}{t1 t2:TE}(h1:PE X e1 t1)(n1:NS e1)(h2:PE X e2 t2)(n2:NS e2):PA X [e1,e2] (zU t1 (zU t2 xy)):=(yD h1 (yD h2 yM (n2 _ _)) (n1 _ _))
def pa3{e2 e3:Expr}{t1 t2 t3:TE}(h1:PE X e1 t1)(n1:NS e1)(h2:PE X e2 t2)(n2:NS e2)(h3:PE X e3 t3)(n3:NS e3):PA X [e1,e2,e3] (zU t1 (zU t2 (zU t3 xy))):=(yD h1 (yD h2 (yD h3 yM (n3 _ _)) (n2 _ _)) (n1 _ _))
def pa4{e2 e3 e4:Expr}{t1 t2 t3 t4:TE}(h1:PE X e1 t1)(n1:NS e1)(h2:PE X e2 t2)(n2:NS e2)(h3:PE X e3 t3)(n3:NS e3)(h4:PE X e4 t4)(n4:NS e4):PA X [e1,e2,e3,e4] (zU t1 (zU t2 (zU t3 (zU t4 xy)))):=(yD h1 (yD h2 (yD h3 (yD h4 yM (n4 _ _)) (n3 _ _)) (n2 _ _)) (n1 _ _))
def pa5{e2 e3 e4 e5:Expr}{t1 t2 t3 t4 t5:TE}(h1:PE X e1 t1)(n1:NS e1)(h2:PE X e2 t2)(n2:NS e2)(h3:PE X e3 t3)(n3:NS e3)(h4:PE X e4 t4)(n4:NS e4)(h5:PE X e5 t5)(n5:NS e5):PA X [e1,e2,e3,e4,e5] (zU t1 (zU t2 (zU t3 (zU t4 (zU t5 xy))))):=(yD h1 (yD h2 (yD h3 (yD h4 (yD h5 yM (n5 _ _)) (n4 _ _)) (n3 _ _)) (n2 _ _)) (n1 _ _))
def pa7{e2 e3 e4 e5 e6 e7:Expr}{t1 t2 t3 t4 t5 t6 t7:TE}(h1:PE X e1 t1)(n1:NS e1)(h2:PE X e2 t2)(n2:NS e2)(h3:PE X e3 t3)(n3:NS e3)(h4:PE X e4 t4)(n4:NS e4)(h5:PE X e5 t5)(n5:NS e5)(h6:PE X e6 t6)(n6:NS e6)(h7:PE X e7 t7)(n7:NS e7):PA X [e1,e2,e3,e4,e5,e6,e7] (zU t1 (zU t2 (zU t3 (zU t4 (zU t5 (zU t6 (zU t7 xy))))))):=(yD h1 (yD h2 (yD h3 (yD h4 (yD h5 (yD h6 (yD h7 yM (n7 _ _)) (n6 _ _)) (n5 _ _)) (n4 _ _)) (n3 _ _)) (n2 _ _)) (n1 _ _))
variable{e1:Stmt}
def pss2(h1:PS X e1 t1)(h2:PS X e2 t2):PSs X [e1,e2] (zG t1 t2):=(zK h1 (zp h2))
def pss3(h1:PS X e1 t1)(h2:PS X e2 t2)(h3:PS X e3 t3):PSs X [e1,e2,e3] (zG t1 (zG t2 t3)):=(zK h1 (zK h2 (zp h3)))
def pss4(h1:PS X e1 t1)(h2:PS X e2 t2)(h3:PS X e3 t3)(h4:PS X e4 t4):PSs X [e1,e2,e3,e4] (zG t1 (zG t2 (zG t3 t4))):=(zK h1 (zK h2 (zK h3 (zp h4))))
def pss5(h1:PS X e1 t1)(h2:PS X e2 t2)(h3:PS X e3 t3)(h4:PS X e4 t4)(h5:PS X e5 t5):PSs X [e1,e2,e3,e4,e5] (zG t1 (zG t2 (zG t3 (zG t4 t5)))):=(zK h1 (zK h2 (zK h3 (zK h4 (zp h5)))))
def pss8{e6 e7 e8:Stmt}{t6 t7 t8:TS}(h1:PS X e1 t1)(h2:PS X e2 t2)(h3:PS X e3 t3)(h4:PS X e4 t4)(h5:PS X e5 t5)(h6:PS X e6 t6)(h7:PS X e7 t7)(h8:PS X e8 t8):PSs X [e1,e2,e3,e4,e5,e6,e7,e8] (zG t1 (zG t2 (zG t3 (zG t4 (zG t5 (zG t6 (zG t7 t8))))))):=(zK h1 (zK h2 (zK h3 (zK h4 (zK h5 (zK h6 (zK h7 (zp h8))))))))
def pss17{e6 e7 e8 e9 e10 e11 e12 e13 e14 e15 e16 e17:Stmt}{t6 t7 t8 t9 t10 t11 t12 t13 t14 t15 t16 t17:TS}(h1:PS X e1 t1)(h2:PS X e2 t2)(h3:PS X e3 t3)(h4:PS X e4 t4)(h5:PS X e5 t5)(h6:PS X e6 t6)(h7:PS X e7 t7)(h8:PS X e8 t8)(h9:PS X e9 t9)(h10:PS X e10 t10)(h11:PS X e11 t11)(h12:PS X e12 t12)(h13:PS X e13 t13)(h14:PS X e14 t14)(h15:PS X e15 t15)(h16:PS X e16 t16)(h17:PS X e17 t17):PSs X [e1,e2,e3,e4,e5,e6,e7,e8,e9,e10,e11,e12,e13,e14,e15,e16,e17] (zG t1 (zG t2 (zG t3 (zG t4 (zG t5 (zG t6 (zG t7 (zG t8 (zG t9 (zG t10 (zG t11 (zG t12 (zG t13 (zG t14 (zG t15 (zG t16 t17)))))))))))))))):=(zK h1 (zK h2 (zK h3 (zK h4 (zK h5 (zK h6 (zK h7 (zK h8 (zK h9 (zK h10 (zK h11 (zK h12 (zK h13 (zK h14 (zK h15 (zK h16 (zp h17)))))))))))))))))
end
variable{t':Nat}{ch:List Addr}
section
variable{X:Cx}{pins:List (Addr×Obj)}{σ:St}{H:Hp}{s:pH}{h':Heap}
def Inv.turnedNew{T:Addr}{xs:List V}(I:Inv X pins σ H s)(hf:∀b∈ch,xo X pins H b)(k:∀b o,b∉ch->s.heap.get? b=some o->h'.get? b=some o)
  (hT:s.heap.objs.size<=T)(new:yj X.prog X.w (upd H T (.tup xs)) h' T (.tup xs)):Inv X pins σ (upd H T (.tup xs)) {s with heap:=h',toks:=t'}:=by
 have hn:H T=none:=I.hok.fresh hT;have nit:∀b u,H b=some u->b∉ch:=λb u e z=>by rw[(hf b z).1] at e;cases e
 refine I.step (g':=s.gens) (d':=s.drawn) (ch:=ch) (λb hb=>?_) (λb o _ _ hc e _=>k b o hc e) (λb o _ _ hc e _=>⟨o.slots,k b o hc e⟩) (λb o _ e n=>?_)
  (λb o hc e=>⟨o,k b o hc e⟩) (λb ys e=>?_) (λb o u e=>?_) (λb ps e=>⟨#[],?_⟩) (λm hm=>?_) (λb u e=>?_) I.bare
 ·obtain⟨_,f1,_,f3,f4,f5⟩:=hf b hb;exact⟨f3,f1,f4,f5⟩
 ·rw[zh (ur (pf (uC e) hT))];exact n
 ·rw[zh (xu e hn)];exact e
 ·rw[zh (xu e hn)];exact e
 ·rw[zh (xu e hn),e];simp
 ·obtain⟨o,es,ep,ho,r⟩:=hm;exact⟨o,es,ep,k _ o (λz=>(hf _ z).2.1 rfl) ho,r⟩
 ·by_cases hb:b=T
  ·subst hb;rw[upd_same] at e;cases e;exact new
  ·rw[zh hb] at e;refine(I.hok b u e).stay (λc v hc q=>k c v ?_ q) (λc q=>by rw[zh (xu q hn)];exact q) λc ys q=>by rw[zh (xu q hn)];exact q
   rcases hc with z|z
   ·rw[z];exact nit b u e
   ·exact nit c _ z
def Inv.turnedL(I:Inv X pins σ H s)(hf:∀b∈ch,xo X pins H b)(k:∀b o,b∉ch->s.heap.get? b=some o->h'.get? b=some o):Inv X pins σ H {s with heap:=h',toks:=t'}:=by
 have nit:∀b u,H b=some u->b∉ch:=λb u e z=>by rw[(hf b z).1] at e;cases e
 refine I.step (g':=s.gens) (d':=s.drawn) (ch:=ch) (λb hb=>?_) (λb o _ _ hc e _=>k b o hc e) (λb o _ _ hc e _=>⟨o.slots,k b o hc e⟩) (λ_ _ _ _ n=>n)
  (λb o hc e=>⟨o,k b o hc e⟩) (λ_ _ e=>e) (λ_ _ _ e=>e) (λb ps e=>⟨#[],by rw[e];simp⟩) (λm hm=>?_) (λb u e=>?_) I.bare
 ·obtain⟨_,f1,_,f3,f4,f5⟩:=hf b hb;exact⟨f3,f1,f4,f5⟩
 ·obtain⟨o,es,ep,ho,r⟩:=hm;exact⟨o,es,ep,k _ o (λz=>(hf _ z).2.1 rfl) ho,r⟩
 ·refine(I.hok b u e).stay (λc v hc q=>k c v ?_ q) (λ_ q=>q) λ_ _ q=>q;rcases hc with z|z
  ·rw[z];exact nit b u e
  ·exact nit c _ z
end
noncomputable def Itz(K:pI)(l1 l2:Addr):It:=
 ⟨λi H=>∃xs ys x y,SqL K H l1 xs/\SqL K H l2 ys/\xs[i]?=some x/\ys[i]?=some y,
  λi H v H'=>∃T x y,H T=none/\v=.ref T/\H'=upd H T (.tup [x,y])/\(∀xs,SqL K H l1 xs->xs[i]?=some x)/\(∀ys,SqL K H l2 ys->ys[i]?=some y),
  λi H=>∃xs ys,SqL K H l1 xs/\SqL K H l2 ys/\(xs.length<=i∨ys.length<=i)⟩
def ZipSt(z TI TO i1 i2 l1 l2:Addr)(i:Nat)(h:Heap):Prop:=∃a b,IsZip h z TI TO .none/\IsPair h TI (.ref i1) (.ref i2)/\IsPair h TO a b/\h.IsListIter i1 l1 i/\h.IsListIter i2 l2 i
variable{elts:List Expr}
theorem zij{P:uB}{w:uW}{K:pI}{x1:Nat}{pos:Pos}{z TI TO i1 i2 l1 l2:Addr}(D:ZipApart z TI TO i1 i2 l1 l2):
  Turn P w K (.Tuple elts x1 pos) (Itz K l1 l2) [z,TI,TO,i1,i2] z (ZipSt z TI TO i1 i2 l1 l2) where
 mem:=by simp
 obj:=λi h st b hb=>by
  obtain⟨a,b',hz,hTI,hTO,h1,h2⟩:=st;simp only[pS,Qe,or_false] at hb;rcases hb with rfl|rfl|rfl|rfl|rfl
  ·exact⟨_,hz,λv q=>by cases q⟩
  ·exact⟨_,hTI,λv q=>by cases q⟩
  ·exact⟨_,hTO,λv q=>by cases q⟩
  ·obtain⟨o,e,c,d⟩:=h1;exact⟨o,e,λv q=>by rw[d] at q;cases q⟩
  ·obtain⟨o,e,c,d⟩:=h2;exact⟨o,e,λv q=>by rw[d] at q;cases q⟩
 keep:=λi h h' st k=>by
  obtain⟨a,b',hz,hTI,hTO,h1,h2⟩:=st;exact⟨a,b',k z (by simp) _ hz,k TI (by simp) _ hTI,k TO (by simp) _ hTO,h1.at λo e=>k i1 (by simp) o e,h2.at λo e=>k i2 (by simp) o e⟩
 item:=by
  intro X hP hw hK hc i pins s σ H E I hf st hg;subst hP hw hK;obtain⟨xs,ys,x,y,hq1,hq2,hx,hy⟩:=hg;obtain⟨a,b',hz,hTI,hTO,h1,h2⟩:=st;obtain⟨its1,rv1,p1,_⟩:=I.list hq1;obtain⟨its2,rv2,p2,_⟩:=I.list hq2;obtain⟨u1,hu1,ru1⟩:=rv1.get hx;obtain⟨u2,hu2,ru2⟩:=rv2.get hy;refine wpAny_pyNext_zip_item D hz hTI hTO h1 h2 p1.isList p2.isList (x:=u1) (y:=u2) (by simpa using hu1) (by simpa using hu2) λh₁ z1 t1 j1 j2 pr sz kk=>⟨_,rfl,?_⟩
  refine wpAny_letOwnedTupleGo_zip z1 λh₂ z2 sb=>?_;have lt:∀b∈[z,TI,TO,i1,i2],b≠s.heap.objs.size:=λb hb e=>by
   have:∃o,s.heap.get? b=some o:=by
    simp only[pS,Qe,or_false] at hb;rcases hb with rfl|rfl|rfl|rfl|rfl
    ·exact⟨_,hz⟩
    ·exact⟨_,hTI⟩
    ·exact⟨_,hTO⟩
    ·obtain⟨o,e,_⟩:=h1;exact⟨o,e⟩
    ·obtain⟨o,e,_⟩:=h2;exact⟨o,e⟩
   obtain⟨o,q⟩:=this;exact absurd (uC q) (by rw[e];exact Ur _)
  have nz:∀{b:Addr},b≠z->∀{o},h₁.get? b=some o->h₂.get? b=some o:=λ{b} hb{o} e=>(sb.2 b hb).trans e;have zT:s.heap.objs.size≠z:=(lt z (by simp)).symm
  have hnT:H s.heap.objs.size=none:=I.hok.fresh (pG _);have new:yj X.prog X.w (upd H s.heap.objs.size (.tup [x,y])) h₂ s.heap.objs.size (.tup [x,y]):=
   ⟨by show 2<=sizeLine;decide,[u1,u2],.cons ru1 (.cons ru2 .nil),⟨_,nz zT pr,rfl,_,rfl⟩⟩
  have I1:=Inv.turnedNew (h':=h₂) (t':=s.toks) (ch:=[z,TI,TO,i1,i2]) I hf (λb o hb e=>nz (by simp at hb;exact hb.1) (kk b o (by simp at hb;exact hb.1) (by simp at hb;exact hb.2.2.1) (by simp at hb;exact hb.2.2.2.1) (by simp at hb;exact hb.2.2.2.2) e)) (pG _) new
  refine⟨.ref s.heap.objs.size,_,I1,rfl,⟨_,x,y,hnT,rfl,rfl,λys' hy'=>by rw[I.list_inj hy' hq1];exact hx,λys' hy'=>by rw[I.list_inj hy' hq2];exact hy⟩,⟨u1,u2,z2,?_,?_,?_,?_⟩,λb hb=>by rw[zh (lt b hb)];exact(hf b hb).1⟩
  ·exact nz D.TIz (kk TI _ D.TIz D.TITO D.TIi1 D.TIi2 hTI)
  ·exact nz D.TOz t1
  ·exact j1.at λo e=>nz D.i1z e
  ·exact j2.at λo e=>nz D.i2z e
 done:=by
  intro X hP hw hK hc i pins s σ H E I hf st hg;subst hP hw hK;obtain⟨xs,ys,hq1,hq2,hl⟩:=hg;obtain⟨a,b',hz,hTI,hTO,h1,h2⟩:=st;obtain⟨its1,rv1,p1,_⟩:=I.list hq1;obtain⟨its2,rv2,p2,_⟩:=I.list hq2;have e1:=rv1.length;have e2:=rv2.length;refine wpAny_pyNext_zip_end (I.ok.hd hc) D hz hTI hTO h1 h2 p1.isList p2.isList ?_ λh₁ kk=>⟨rfl,?_⟩
  ·rcases hl with hl|hl
   ·exact .inl (by simp;lia)
   ·exact .inr (by simp;lia)
  ·exact I.turnedL (t':=s.toks) (ch:=[z,TI,TO,i1,i2]) hf (λb o hb e=>kk b o (by simp at hb;exact hb.1) (by simp at hb;exact hb.2.2.1) (by simp at hb;exact hb.2.2.2.1) (by simp at hb;exact hb.2.2.2.2) e)
 self:=λ_ _ _ _ _ st h=>by
  obtain⟨a,b',hz,_⟩:=st;exact GE hz h
section
variable{X:Cx}
def iZip(K:pI)(ta:TA):TI:=λσ H R=>ta σ H λvs H1=>∃l1 l2 xs ys,vs=[.ref l1,.ref l2]/\SqL K H1 l1 xs/\SqL K H1 l2 ys/\R (Itz K l1 l2) H1
def bt_zip:Qh "zip"=some (.type "zip"):=by decide+kernel
def pi_zip{a b:Expr}{ta:TA}{p pos tpos:Pos}{x1:Nat}(hg:Gl X "zip")(hm:X.mg "zip"=none)(ha:PA X [a,b] ta)(hs:QP [a,b] X.env=[(false,eval a X.env),(false,eval b X.env)]:=by rfl)
  (hs2:QP [b] X.env=[(false,eval b X.env)]:=by rfl):PI X (.Tuple elts x1 tpos) (.Call (.Name "zip" p) [a,b] [] pos) (iZip X.K ta):=by
 intro pins s σ H R I h;refine Call_ (vR I hg hm bt_zip (gX (thn (ha pos pins s σ H _ I h) λus s1⟨vs,H1,I1,r1,q1⟩=>?_) (by rw[hs,hs2]) (by rw[hs2];rfl)))
 obtain⟨l1,l2,xs,ys,e,hq1,hq2,q⟩:=q1;subst e;obtain⟨u,w',rfl,ru,rw'⟩:=vals2 r1
 cases ru
 cases rw';obtain⟨its1,rv1,p1,_⟩:=I1.list hq1;obtain⟨its2,rv2,p2,_⟩:=I1.list hq2;refine call_zip_2 p1.isList p2.isList λh' hz hTI hTO hi1 hi2 sz kk=>?_;refine GE hz ?_;have D:=zipApart_new (n:=s1.heap.objs.size) p1.lt p2.lt;have I2:Inv X pins σ H1 {s1 with heap:=h'}:=I1.kept (t':=s1.toks) kk;refine⟨_,_,_,_,H1,rfl,I2,zij D,⟨_,_,hz,hTI,hTO,hi1,hi2⟩,λb hb=>?_,q⟩;have hb':s1.heap.objs.size<=b:=by
  simp only[pS,Qe,or_false] at hb;rcases hb with rfl|rfl|rfl|rfl|rfl
  ·exact gE _ _
  ·exact gE _ _
  ·exact gE _ _
  ·exact pG _
  ·exact gE _ _
 exact I1.fpOk hb' (I1.hok.fresh hb')
end
variable{ys:List V}
theorem for_zip{K:pI}{l1 l2:Addr}{xs:List V}{g:TG}{tb:TS}{D:Ends}{σ:St}{H:Hp}(Pv:Nat->St->Hp->Prop)(h0:Pv 0 σ H)(hl:∀i σ H,Pv i σ H->SqL K H l1 xs/\SqL K H l2 ys)(he:xs.length=ys.length)
  (hs:∀i x y T σ H,xs[i]?=some x->ys[i]?=some y->Pv i σ H->H T=none->g (.ref T) σ (upd H T (.tup [x,y])) λσ2 H2=>tb {D with nx:=Pv (i+1),ct:=Pv (i+1),bk:=D.nx} σ2 H2)(hd:∀σ H,Pv xs.length σ H->D.nx σ H):
  ∃W:Nat->Nat->St->Hp->Prop,(∃m,W 0 m σ H)/\∀i m σ H,W i m σ H->
   ((Itz K l1 l2).stop i H/\D.nx σ H)∨((Itz K l1 l2).go i H/\∃N:St->Hp->Prop,(∀σ' H',N σ' H'->∃m',m'<m/\W (i+1) m' σ' H')/\∀x H',(Itz K l1 l2).yld i H x H'->g x σ H' λσ2 H2=>tb {D with nx:=N,ct:=N,bk:=D.nx} σ2 H2):=by
 refine⟨λi m σ H=>m=xs.length-i/\i<=xs.length/\Pv i σ H,⟨xs.length,by simp,uL _,h0⟩,?_⟩
 rintro i m σ H ⟨rfl,hi,p⟩;obtain⟨q1,q2⟩:=hl i σ H p
 by_cases hlt:i<xs.length
 ·have hlt2:i<ys.length:=by lia
  refine .inr ⟨⟨xs,ys,xs[i],ys[i],q1,q2,by simp[hlt],by simp[hlt2]⟩,Pv (i+1),λσ' H' p'=>⟨xs.length-(i+1),by lia,rfl,hlt,p'⟩,λv H' y=>?_⟩
  obtain⟨T,x,y,hT,rfl,rfl,y1,y2⟩:=y;exact hs i x y T σ H (y1 xs q1) (y2 ys q2) p hT
 ·have e:i=xs.length:=by lia
  subst e;exact .inl ⟨⟨xs,ys,q1,q2,.inl (pG _)⟩,hd σ H p⟩
def tRaise(C:Addr)(E:XK)(ta:TA):TS:=λ_ σ H=>ta σ H λvs H1=>vs.length<=sizeLine/\E (.ref C) none H1
theorem JO{α β:Type}(g:α->β->β){f:α->β->Sem (ForInStep β)}:∀{l:List α}(c:β),(∀x∈l,∀c,f x c=pure (.yield (g x c)))->forIn l c f=pure (l.foldl (λc x=>g x c) c)
 |[],c,_=>rfl
 |x::l,c,h=>by
  have hx:=h x pj c;rw[EM,hx,HH];exact JO g (g x c) λy hy=>h y (pE _ hy)
noncomputable def wm(env:Env)(x:Str×Cv)(c:List (Str×Addr)):List (Str×Addr):=
 if x.2==Qu then(match env.cells.lookup x.1 with|some a=>(x.1,a)::c|none=>c) else c
theorem zdu{env:Env}:∀(l:List (Str×Cv))(acc:List (Str×Addr)),(∀n c,acc.lookup n=some c->env.cells.lookup n=some c)->
  ∀n c,(l.foldl (λc x=>wm env x c) acc).lookup n=some c->env.cells.lookup n=some c
 |[],acc,h,n,c,e=>h n c e
 |x::l,acc,h,n,c,e=>by
  refine zdu l (wm env x acc) (λn c e=>?_) n c e;unfold wm at e
  split at e
  ·split at e
   ·rename_i a ha
    rw[Qo] at e
    split at e
    ·rename_i hb
     have hn:n=x.1:=by simpa using hb
     cases e;rw[hn];exact ha
    ·exact h n c e
   ·exact h n c e
  ·exact h n c e
theorem zd8{env:Env}:∀(l:List (Str×Cv))(acc:List (Str×Addr))(n:Str),((∃c,acc.lookup n=some c)∨((n,Qu)∈l/\∃c,env.cells.lookup n=some c))->
  ∃c,(l.foldl (λc x=>wm env x c) acc).lookup n=some c
 |[],acc,n,h=>by
  rcases h with h|⟨h,_⟩
  ·exact h
  ·cases h
 |x::l,acc,n,h=>by
  refine zd8 l (wm env x acc) n ?_;rcases h with⟨c,h⟩|⟨h,c,hc⟩
  ·left;unfold wm
   split
   ·split
    ·rw[Qo]
     split
     ·exact⟨_,rfl⟩
     ·exact⟨c,h⟩
    ·exact⟨c,h⟩
   ·exact⟨c,h⟩
  ·rcases pS.mp h with e|h
   ·left;subst e;unfold wm;have ef:(Qu==Qu)=true:=rfl;have en:(n==n)=true:=by simp
    simp only[ef,if_true,hc,Qo,en];exact⟨c,rfl⟩
   ·exact .inr ⟨h,c,hc⟩
variable{env:Env}
def zgw{scope:Scope}(hf:∀n,(n,Qu)∈scope.names->∃c,env.cells.lookup n=some c):
  ∃cl,FL scope env=pure cl/\(∀n c,cl.lookup n=some c->env.cells.lookup n=some c)/\∀n,(n,Qu)∈scope.names->∃c,cl.lookup n=some c:=by
 refine⟨scope.names.foldl (λc x=>wm env x c) [],?_,zdu _ _ (λn c e=>by simp at e),λn h=>zd8 _ _ n (.inr ⟨h,hf n h⟩)⟩
 simp only[FL];rw[JO (wm env) [] (λx hx c=>?_)]
 ·rfl
 ·obtain⟨n,kind⟩:=x
  by_cases hk:kind=.free
  ·subst hk;obtain⟨a,ha⟩:=hf n hx;have ef:(Qu==Qu)=true:=rfl
   simp[cellOf,ha,wm,ef]
  ·have e:(kind==Qu)=false:=by simpa using hk
   simp[e,wm]
theorem WH(env:Env)(x:Str):∀names:List (Str×Cv),
  (names.map λ(n,k)=>if(k==Qu&&env.scope.kind==.function&&env.kindOf n==some .cell) then(n,Dd) else(n,k)).lookup x=
  (names.lookup x).map λk=>if(k==Qu&&env.scope.kind==.function&&env.kindOf x==some .cell) then Dd else k
 |[]=>rfl
 |(n,k)::r=>by
  have ih:=WH env x r;rw[pR]
  by_cases e:x=n
  ·subst e;have ex:(x==x)=true:=by simp
   by_cases c:(k==Qu&&env.scope.kind==.function&&env.kindOf x==some .cell)=true
   ·dsimp only;rw[if_pos c,Qo,ex,Qo,ex];exact congrArg some (if_pos c).symm
   ·dsimp only;rw[if_neg c,Qo,ex,Qo,ex];exact congrArg some (if_neg c).symm
  ·have e':(x==n)=false:=by simpa using e
   by_cases c:(k==Qu&&env.scope.kind==.function&&env.kindOf n==some .cell)=true
   ·dsimp only;rw[if_pos c,Qo,e',Qo,e'];exact ih
   ·dsimp only;rw[if_neg c,Qo,e',Qo,e'];exact ih
structure vj(dsc:Scope)(N:List Str)(scope:Scope)(own:List Str)(ix:List Nat):Prop where
 kind:scope.kind=.function
 nocell:∀y∈scope.names,y.2≠Dd
 names:∀y∈scope.names,y.2=NameKind.local->scope.names.lookup y.1=some .local
 free:∀y∈scope.names,y.2=Qu->dsc.names.lookup y.1=some .cell∨dsc.names.lookup y.1=some .free
 ix:∀i∈ix,i<N.length/\scope.names.lookup (N.getD i "")=some .free
noncomputable def Cx.comp(X:Cx)(scope:Scope)(own:List Str)(ix:List Nat)(cl:List (Str×Addr))(C:Addr)(fp:List Addr)(s:pH)(H:Hp)(xe:pB->pH->Prop):Cx:=
 {X with N:=own++ix.map (λi=>X.N.getD i ""),s₀:=s,H₀:=H,env:=CT scope cl C X.env,outer:=X.stack,ex:=fp,fn:=λ_=>false,pn:=[],xe:=xe}
def comp_K{X:Cx}{scope:Scope}{own:List Str}{ix:List Nat}{cl:List (Str×Addr)}{C:Addr}{fp:List Addr}{s:pH}{H:Hp}{xe:pB->pH->Prop}:(X.comp scope own ix cl C fp s H xe).K=X.K:=rfl
noncomputable def selC(k:Nat)(ix:List Nat)(σ:St):St:=AT k none++ix.map (λi=>(σ[i]?).join)
variable{σ':St}
section
variable{X:Cx}{pins:List (Addr×Obj)}{σ:St}{H H4:Hp}{s s4:pH}{dsc scope:Scope}{own:List Str}{ix:List Nat}{cl:List (Str×Addr)}{C:Addr}{fp:List Addr}{xe:pB->pH->Prop}
def comp_fp(I:Inv X pins σ H s)(hf:∀b∈fp,xo X pins H b){b:Addr}(hb:b∈fp):b∉frs X.stack:=λhs=>by
 obtain⟨_,f1,f2,_⟩:=hf b hb;rcases pS.mp (I.stkSub b hs) with e|e
 ·exact f1 e
 ·exact f2 e
theorem Inv.comp(I:Inv X pins σ H s)(hd:X.env.scope=dsc)(S:vj dsc X.N scope own ix)(cs:∀n c,cl.lookup n=some c->X.env.cells.lookup n=some c)(ch:∀n,(n,Qu)∈scope.names->∃c,cl.lookup n=some c)
  (hf:∀b∈fp,xo X pins H b)(ho:∀b∈fp,∃o,s.heap.get? b=some o)(I4:Inv X pins σ H4 s4)(un:Un (frs X.stack) fp H H4 s.heap s4.heap)(hC:s.heap.objs.size<=C)(hn:∃m,s4.heap.Ns C m)(hC0:H4 C=none):
  Inv (X.comp scope own ix cl C fp s H xe) [] (selC own.length ix σ) H4 s4:=by
 have kfree:∀x,scope.names.lookup x=some .free->(CT scope cl C X.env).kindOf x=some .cell∨(CT scope cl C X.env).kindOf x=some .free:=λx h=>by
  have e:(CT scope cl C X.env).kindOf x=_:=WH X.env x scope.names;rw[e,h,Ug]
  split
  ·exact .inl rfl
  ·exact .inr rfl
 have kback:∀x,((CT scope cl C X.env).kindOf x=some .cell∨(CT scope cl C X.env).kindOf x=some .free)->scope.names.lookup x=some .free:=λx h=>by
  have e:(CT scope cl C X.env).kindOf x=_:=WH X.env x scope.names;rw[e] at h
  cases q:scope.names.lookup x with
  |none=>rw[q] at h;rcases h with h|h<;>cases h
  |some k=>
   have nc:=S.nocell _ (Qn q);rw[q,Ug] at h
   cases k<;>first|rfl|exact absurd rfl nc|(rcases h with h|h<;>cases h)
 refine⟨⟨I.ok.mod,S.kind,I.ok.glob,I.ok.blt,hC,λx y c h1 h2=>I.ok.inj x y c (cs x c h1) (cs y c h2),λx hx=>ch x (Qn (kback x hx)),λx c h=>(nomatch h),I.ok.hd,I.ok.frames,.inl rfl,λb hb=>⟨λz=>?_,λx c e=>(hf b hb).2.2.2.2.1 x c (cs x c e)⟩,
  I.bs,pz I.ok.bsz I.sz,λb o e hb=>?_,λb hb=>comp_fp I hf hb,I.stack,I.stkFree⟩,I4.os.trans I.os.symm,I4.bare,un,?_,λx c e=>I4.cell x c (cs x c e),hC0,λx c e=>I4.freeC x c (cs x c e),λp hp=>(nomatch hp),I4.hok,?_⟩
 ·obtain⟨o,e⟩:=ho b hb;have z':b=C:=z;exact absurd (pf (uC e) (by rw[z'];exact hC)) (Ur _)
 ·rcases(hf b hb).2.2.2.1 with z|z
  ·exact I.ok.noex b o e z
  ·exact absurd (pf (uC e) (pz I.ok.bsz z)) (Ur _)
 ·obtain⟨m,hm⟩:=hn;refine⟨m,hm,λi x v e1 e2 _=>?_⟩;have e1':(own++ix.map (λi=>X.N.getD i ""))[i]?=some x:=e1;unfold selC at e2
  by_cases hi:i<own.length
  ·rw[uX (by rw[gj];exact hi),Dm,if_pos hi] at e2
   cases e2
  ·rw[uJ (by rw[gj];lia),gj,pT] at e2
   rw[uJ (by lia),pT] at e1'
   cases q:ix[i-own.length]? with
   |none=>rw[q] at e2;cases e2
   |some j=>
    rw[q] at e1' e2;rw[Ug,At] at e1' e2;obtain⟨hj,hfr⟩:=S.ix j (pX q);rw[e1'] at hfr;have eN:X.N[j]?=some x:=by
     rw[pJ hj,←e1',pD,pJ hj];rfl
    have es:σ[j]?=some (some v):=by
     cases w:σ[j]? with
     |none=>rw[w] at e2;cases e2
     |some o=>rw[w] at e2;exact congrArg some e2
    have kd:=S.free _ (Qn hfr) rfl;rw[←hd] at kd;obtain⟨m4,hm4,hl⟩:=I4.loc;obtain⟨u,r,l⟩:=hl j x v eN es (.inr kd);refine⟨u,r,.inr ⟨kfree x hfr,?_⟩⟩;rcases l with⟨k,_⟩|⟨_,c,ec,cell⟩
    ·have k':X.env.scope.names.lookup x=some .local:=k;rcases kd with z|z<;>(rw[k'] at z;cases z)
    ·obtain⟨c',ec'⟩:=ch x (Qn hfr);have z:=cs x c' ec';rw[ec] at z
     cases z;exact⟨c,ec',cell⟩
 ·show(selC own.length ix σ).length=(own++ix.map (λi=>X.N.getD i "")).length
  unfold selC;rw[pK,pK,gj,pC,pC]
def Inv.outOf{pins':List (Addr×Obj)}{H':Hp}{s':pH}(I:Inv X pins σ H s)(hf:∀b∈fp,xo X pins H b)(J:Inv (X.comp scope own ix cl C fp s H xe) pins' σ' H' s'):Inv X pins σ H' s':=
 I.call' J.os J.base J.hok J.bare λb hb=>by
  obtain⟨_,f1,_,f3,f4,f5⟩:=hf b hb;exact⟨f3,f1,f4,f5⟩
end
abbrev ZY(ifs:List Expr)(env:Env):Sem Bool:=forIn ifs true λc r=>if r=true then do let ok ←isTrue c env (eval c env);pure (GZ ok) else pure (GZ r)
def PIf(X:Cx)(ifs:List Expr)(t:TT):Prop:=
 ∀(pins:List (Addr×Obj))(s:pH)(σ:St)(H:Hp)(Q:Bool->Hp->Prop),Inv X pins σ H s->t σ H Q->wpAny (model X.prog X.w) X.A (ZY ifs X.env) (TP X pins σ Q) X.xe s
def tYes:TT:=λ_ H Q=>Q true H
def wI{X:Cx}:PIf X [] tYes:=λ_ _ _ H _ I h=>wpAny_tests_nil ⟨H,I,h⟩
def js{X:Cx}{c:Expr}{t:TT}(h:PT X c t):PIf X [c] t:=λpins s σ H Q I q=>wpAny_tests_one (h pins s σ H Q I q)
section
variable{prog:uB}{w:uW}{A:uv}{R:HI->pH->Prop}{s:pH}
abbrev nb(prog:uB)(w:uW)(A:uv)(env:Env)(R:HI->pH->Prop):pB->pH->Prop:=notedBy (model prog w) A env λe s'=>R (.error e) s'
theorem zfb{elt target iter:Expr}{ifs:List Expr}{scope:Scope}{pos:Pos}{it acc:pB}(I:Nat->pH->Prop)
  (turn:∀n s,I n s->wpAny (model prog w) A (GA it) (λr s₁=>(r=none/\R (.ok .next) s₁)∨∃v,r=some v/\
   wpAny (model prog w) A (Cb target it v) (λ_ s₂=>wpAny (model prog w) A (assign target env v) (λ_ s₃=>wpAny (model prog w) A (ZY ifs env) (λok s₄=>
    if ok=true then wpAny (model prog w) A (eval elt env) (λx s₅=>wpAny (model prog w) A (call (.builtin "list.append") [acc,x]) (λ_ s₆=>∃m,m<n/\I m s₆) (nb prog w A env R) s₅) (nb prog w A env R) s₄
    else ∃m,m<n/\I m s₄) (nb prog w A env R) s₃) (nb prog w A env R) s₂) (nb prog w A env R) s₁) (nb prog w A env R) s)
  (n:Nat) (h:I n s):Ci (model prog w) A (.compLoop (.ListComp elt [⟨target,iter,ifs,0⟩] scope pos) 0 it acc env) R s:=by
 refine codeAny_loop rfl I (λn s hI=>?_) n h;refine wpAny_noted ?_;have e:=compTurn_list elt target iter ifs scope pos it acc env;show wpAny (model prog w) A (compTurn (.ListComp elt [⟨target,iter,ifs,0⟩] scope pos) 0 it acc env) _ _ s;rw[e];refine pA (CO (pA (thn (turn n s hI) λr s₁ h₁=>?_)));rcases h₁ with⟨rfl,h₁⟩|⟨v,rfl,h₁⟩
 ·exact pM h₁
 ·refine pA (thn h₁ λ_ s₂ h₂=>pA (thn h₂ λ_ s₃ h₃=>pA (thn h₃ λok s₄ h₄=>?_)))
  cases ok with
  |false=>exact pM ⟨rfl,h₄⟩
  |true=>
   refine pA (pA (thn h₄ λx s₅ h₅=>pA (thn h₅ λ_ s₆ h₆=>?_)));exact pM (pM ⟨rfl,h₆⟩)
end
def j9(k:Nat)(ix:List Nat)(wi:TI)(g:TG)(ti:TT)(te:TE):TE:=λσ H Q=>wi σ H λJ H1=>∀D,H1 D=none->∃W:Nat->Nat->Hp->Prop,(∃m,W 0 m (upd H1 D (.lst [])))/\∀i m H2,W i m H2->
 (J.stop i H2/\Q (.ref D) H2)∨(J.go i H2/\∀x H3,J.yld i H2 x H3->g x (selC k ix σ) H3 λσ4 H4=>ti σ4 H4 λb H5=>if b=true then te σ4 H5 λy H6=>∃ys,H6 D=some (.lst ys)/\ys.length<sizeLine/\∃m',m'<m/\W (i+1) m' (upd H6 D (.lst (ys++[y])))
  else ∃m',m'<m/\W (i+1) m' H5)
variable{N:List Str}
section
variable{X:Cx}{pins:List (Addr×Obj)}{σ:St}{H:Hp}{s:pH}{dsc scope:Scope}{own:List Str}{ix:List Nat}{elt tg iter:Expr}{ifs:List Expr}{pos:Pos}{wi:TI}{g:TG}{ti:TT}{te:TE}
def CompBody(X:Cx)(scope:Scope)(own:List Str)(ix:List Nat)(tg:Expr)(ifs:List Expr)(elt:Expr)(g:TG)(ti:TT)(te:TE):Prop:=
 ∀cl C fp s H xe,PG (X.comp scope own ix cl C fp s H xe) tg g/\PIf (X.comp scope own ix cl C fp s H xe) ifs ti/\PE (X.comp scope own ix cl C fp s H xe) elt te
theorem zds{use:Option (pB->Sem Unit)}{RQ:pB->pH->Prop}{Q:VK}{p0:Pos}(hc:X.calm=true)(hd:X.env.scope=dsc)(S:vj dsc X.N scope own ix)(hi:PI X tg iter wi)(hb:CompBody X scope own ix tg ifs elt g ti te)
  (hs:∀x,AB iter X.env x=pure x)(I:Inv X pins σ H s)(h:j9 own.length ix wi g ti te σ H Q)
  (fin:∀D C H' s',Inv X pins σ H' s'->xo X pins H' C->(∃m,s'.heap.Ns C m)->Q (.ref D) H'->compPost (model X.prog X.w) X.A X.xe use RQ (.ref D) C (.ok .next) s'):
  wpAny (model X.prog X.w) X.A (comprehension (.ListComp elt [⟨tg,iter,ifs,0⟩] scope pos) scope X.env p0 (newList []) false (eval iter X.env) use) RQ X.xe s:=by
 obtain⟨cl,hcl,cs,ch⟩:=zgw (scope:=scope) (env:=X.env) λn hn=>I.ok.has n (by
  have z:=S.free _ hn rfl;rw[←hd] at z;exact z)
 refine wpAny_comprehension_free rfl hs hcl S.kind S.names (thn (hi pins s σ H _ I h) λv s1 h1=>thn h1 λitv s2 h2=>?_);obtain⟨it,fp,tn,J,H2,e,I2,T,st2,f2,W⟩:=h2;subst e;have hD0:H2 s2.heap.objs.size=none:=I2.fresh;obtain⟨W,⟨m0,w0⟩,turn⟩:=W _ hD0;have I3:=I2.lnew (ys:=[]) (its:=[]) (t':=s2.toks) .nil (uL _);refine As (Ei S.nocell (by intro y hy;cases hy) (λh₁ hns₁ hsb₁=>?_) S.kind)
 dsimp only at hns₁ hsb₁⊢;generalize hH3:s2.heap.push {cls:=.type "list",dict:=none,data:=.seq ([]:List pB).toArray}=g3 at hns₁ hsb₁⊢;have hC:g3.objs.size=s2.heap.objs.size+1:=by rw[←hH3,Gm]
 have old3:∀b o,g3.get? b=some o->h₁.get? b=some o:=λb o e=>hsb₁.extBut b o (ur (uC e)) (pU _ e);have old:∀b o,s2.heap.get? b=some o->h₁.get? b=some o:=λb o e=>old3 b o (by rw[←hH3];exact pU _ e)
 have I4:Inv X pins σ (upd H2 s2.heap.objs.size (.lst [])) {s2 with heap:=h₁,toks:=s2.toks+0}:=I3.kept (t':=s2.toks+0) λb o e=>old3 b o (by rw[←hH3];exact e)
 have fpo:∀b∈fp,∃o,s2.heap.get? b=some o:=λb hb=>let⟨o,e,_⟩:=T.obj _ _ st2 b hb;⟨o,e⟩;have hC0:upd H2 s2.heap.objs.size (.lst []) g3.objs.size=none:=by
  rw[zh (by rw[hC];exact Nat.succ_ne_self _)]
  exact I2.hok.fresh (by rw[hC];exact CU _)
 have hCs:s2.heap.objs.size<=g3.objs.size:=by rw[hC];exact CU _
 have into:∀{H':Hp}{s':pH}{xe:pB->pH->Prop},Inv X pins σ H' s'->Un (frs X.stack) fp H2 H' s2.heap s'.heap->(∃m,s'.heap.Ns g3.objs.size m)->H' g3.objs.size=none->Inv (X.comp scope own ix cl g3.objs.size fp s2 H2 xe) [] (selC own.length ix σ) H' s':=
  λI' un hn h0=>I2.comp hd S cs ch f2 fpo I' un hCs hn h0
 have stat:∀{H':Hp}{xe:pB->pH->Prop}{σ':St}{s':pH},Inv (X.comp scope own ix cl g3.objs.size fp s2 H2 xe) [] σ' H' s'->(∀b∈fp,H' b=none)->∀b∈fp,xo (X.comp scope own ix cl g3.objs.size fp s2 H2 xe) [] H' b:=λ{H' xe σ' s'} K hn b hb=>
  ⟨hn b hb,(K.ok.exf b hb).1,K.ok.exfs b hb,.inl hb,(K.ok.exf b hb).2,λp hp=>nomatch hp⟩
 have loop:∀s₃:pH,s₃={s2 with heap:=h₁,toks:=s2.toks+0}->
   Ci (model X.prog X.w) X.A (.compLoop (.ListComp elt [⟨tg,iter,ifs,0⟩] scope pos) 0 (.ref it) (.ref s2.heap.objs.size) (CT scope cl g3.objs.size X.env)) (compPost (model X.prog X.w) X.A X.xe use RQ (.ref s2.heap.objs.size) g3.objs.size) s₃:=by
  rintro s₃ rfl;generalize hxe:nb X.prog X.w X.A (CT scope cl g3.objs.size X.env) (compPost (model X.prog X.w) X.A X.xe use RQ (.ref s2.heap.objs.size) g3.objs.size)=xe;obtain⟨hg,hif,hel⟩:=hb cl g3.objs.size fp s2 H2 xe;refine zfb (λn s'=>∃i H',Inv (X.comp scope own ix cl g3.objs.size fp s2 H2 xe) [] (selC own.length ix σ) H' s'/\tn i s'.heap/\(∀b∈fp,H' b=none)/\W i n H') ?_ m0
   ⟨0,_,into I4 (Un.laid old (pG _) hD0) ⟨_,hns₁⟩ hC0,T.keep _ _ _ st2 λb hb o e=>old b o e,λb hb=>?_,w0⟩
  ·rintro n s3 ⟨i,H3,K3,st3,fr3,w3⟩;rw[hxe];rcases turn i n H3 w3 with⟨stop,qn⟩|⟨go,step⟩
   ·refine thn (T.done (X.comp scope own ix cl g3.objs.size fp s2 H2 xe) rfl rfl rfl hc i [] s3 _ H3 xe K3 (stat K3 fr3) st3 stop) λr s4⟨hr,K4⟩=>.inl ⟨hr,?_⟩;obtain⟨m,hm,_⟩:=K4.loc;exact fin _ _ H3 s4 (I2.outOf f2 K4) (I2.fpOk hCs K4.free) ⟨m,hm⟩ qn
   ·refine thn (T.item (X.comp scope own ix cl g3.objs.size fp s2 H2 xe) rfl rfl rfl hc i [] s3 _ H3 xe K3 (stat K3 fr3) st3 go) λr s4⟨u,hr,h4⟩=>.inr ⟨u,hr,?_⟩;refine thn h4 λ_ s5⟨x,H5,K5,r5,y5,st5,fr5⟩=>?_;have K5':=K5.pinned (stat K5 fr5) (T.obj _ _ st5);refine thn (hg _ s5 _ H5 x u _ K5' r5 (step x H5 y5)) λ_ s6⟨σ6,H6,K6,q6⟩=>?_;refine thn (hif _ s6 σ6 H6 _ K6 q6) λb s7⟨H7,K7,q7⟩=>?_;have again:∀{σ8:St}{H8:Hp}{s8:pH},Inv (X.comp scope own ix cl g3.objs.size fp s2 H2 xe) ([]++Yb fp s5.heap) σ8 H8 s8->(∃m',m'<n/\W (i+1) m' H8)->∃m,m<n/\∃i H',Inv (X.comp scope own ix cl g3.objs.size fp s2 H2 xe) [] (selC own.length ix σ) H' s8/\tn i s8.heap/\(∀b∈fp,H' b=none)/\W i m H':=λ{σ8 H8 s8} K8⟨m',hm,w8⟩=>by
     obtain⟨m,hm8,_⟩:=K8.loc;refine⟨m',hm,i+1,H8,into (I2.outOf f2 K8) K8.base ⟨m,hm8⟩ K8.free,T.keep _ _ _ st5 λb hb o e=>(K8.pin (b,o) (pY _ (pY _ (XA hb e)))).1,λb hb=>?_,w8⟩;obtain⟨o,e,d⟩:=T.obj _ _ st5 b hb;exact(K8.pin (b,o) (pY _ (pY _ (XA hb e)))).2.1
    cases b with
    |false=>exact again K7 q7
    |true=>
     refine thn (hel _ s7 σ6 H7 _ K7 q7) λv s8⟨y,H8,K8,r8,ys,e8,z8,q8⟩=>?_;refine thn (xU (X:=X.comp scope own ix cl g3.objs.size fp s2 H2 xe) _ s8 σ6 H8 (.ref s2.heap.objs.size) [y] (.ref s2.heap.objs.size) [v] (λ_ H'=>∃m',m'<n/\W (i+1) m' H') K8 rfl (.cons r8 .nil) ⟨_,ys,y,rfl,rfl,e8,z8,q8⟩) ?_;rintro u9 s9 ⟨v9,H9,K9,r9,q9⟩;exact again K9 q9
  ·have z:=(f2 b hb).1;obtain⟨o,e⟩:=fpo b hb;rw[zh (ur (uC e))];exact z
 exact codeAny_compStart_list (loop _ rfl) (T.self _ 0 _ _ _ (T.keep _ _ _ st2 λb hb o e=>old b o e) (loop _ rfl))
def ZU(hc:X.calm=true)(hd:X.env.scope=dsc)(hN:X.N=N)(S':vj dsc N scope own ix)(hi:PI X tg iter wi)(hb:CompBody X scope own ix tg ifs elt g ti te)
  (hs:∀x,AB iter X.env x=pure x:=by intro _;rfl):PE X (.ListComp elt [⟨tg,iter,ifs,0⟩] scope pos) (j9 own.length ix wi g ti te):=by
 have S:vj dsc X.N scope own ix:=by rw[hN];exact S'
 intro pins s σ H Q I h;rw[eval_ListComp];refine zds (use:=none) hc hd S hi hb hs I h λD C H' s' I' f' hn q=>?_;obtain⟨m,hm⟩:=hn;obtain⟨f0,f1,f2,f3,f4,f5⟩:=f';exact⟨m,hm,λh' sb=>⟨.ref D,H',I'.turned (t':=s'.toks) (λb o hb e=>(sb.2 b hb).trans e) f0 f1 f3 f4 f5,rfl,q⟩⟩
theorem ps_setC{i:Nat}{x:Str}{pos' pos1:Pos}(hN:X.N.Nodup)(hx0:X.N[i]?=some x)(hx:Loc X.env.scope x)(hc:X.calm=true)(hd:X.env.scope=dsc)(hN':X.N=N)(S':vj dsc N scope own ix)(hi:PI X tg iter wi)(hb:CompBody X scope own ix tg ifs elt g ti te)
  (hsw:Cp (.ListComp elt [⟨tg,iter,ifs,0⟩] scope pos) (some (.Name x pos')) pos1.line X.env=pure true:=by rfl)(hf:X.fn x=true∨X.env.scope.names.lookup x=some .local:=by first|exact .inl rfl|exact .inr rfl|assumption)
  (hs:∀x,AB iter X.env x=pure x:=by intro _;rfl):PS X (.Assign [.Name x pos'] (.ListComp elt [⟨tg,iter,ifs,0⟩] scope pos) pos1) (w6 (j9 own.length ix wi g ti te) (gName i)):=by
 have S:vj dsc X.N scope own ix:=by rw[hN'];exact S'
 intro pins s σ H D I h;rw[exec_Assign_Name_used _ _ _ _ hsw]
 have main:=zds (p0:=iter.pos) (pos:=pos) (use:=some (assign (.Name x pos') X.env)) (RQ:=λ_ s'=>SP X pins D .next s') hc hd S hi hb hs I h λl C H' s' I' f' hn q=>by
  obtain⟨m,o,es,ep,ho,hdt,hr⟩:=hn;obtain⟨f0,f1,f2,f3,f4,f5⟩:=f';have Ip:Inv X (pins++[(C,o)]) σ H' s':=I'.pins_of λp hp=>(pd.mp hp).elim (λz=>I'.pin p (pY _ z)) λz=>by
   have e:p=(C,o):=by simpa using z
   subst e;exact⟨ho,f0,f1,f2,λv z=>by rw[hdt] at z;cases z⟩
  refine FZ (Ym (v:=.ref l) Ip hN hx0 hx rfl (λs2 I2=>?_) hf);have pc:=I2.pin (C,o) (pY _ (pY _ (by simp)))
  refine⟨m,⟨o,es,ep,pc.1,hdt,hr⟩,λh' sb=>⟨_,H',I2.unpinned.turned (t':=s2.toks) (λb o hb e=>(sb.2 b hb).trans e) pc.2.1 f1 f3 f4 f5,q⟩⟩
 refine pA (CO (pA ?_));exact pA (thn main λ_ s' hq=>pM (pM hq))
end
def CW(n:Nat)(Pv:Nat->List V->Hp->Prop):Nat->Nat->Hp->Prop:=λi m H=>m=n-i/\i<=n/\∃ys,Pv i ys H
abbrev jl(n:Nat)(Pv:Nat->List V->Hp->Prop)(D:Addr)(i:Nat)(y:V)(H:Hp):Prop:=∃ys,H D=some (.lst ys)/\ys.length<sizeLine/\∃m',m'<n-i/\CW n Pv (i+1) m' (upd H D (.lst (ys++[y])))
abbrev jv(n:Nat)(Pv:Nat->List V->Hp->Prop)(i:Nat)(H:Hp):Prop:=∃m',m'<n-i/\CW n Pv (i+1) m' H
theorem cw_put{n i:Nat}{Pv:Nat->List V->Hp->Prop}{D:Addr}{y:V}{H:Hp}(hi:i<n)(hD:H D=some (.lst ys))(hz:ys.length<sizeLine)(p:Pv (i+1) (ys++[y]) (upd H D (.lst (ys++[y])))):jl n Pv D i y H:=
 ⟨ys,hD,hz,n-(i+1),by omega,rfl,hi,_,p⟩
theorem cw_skip{n i:Nat}{Pv:Nat->List V->Hp->Prop}{H:Hp}(hi:i<n)(p:Pv (i+1) ys H):jv n Pv i H:=⟨n-(i+1),by lia,rfl,hi,_,p⟩
def qo(J:It)(D:Addr)(g:TG)(ti:TT)(te:TE)(σ':St)(H:Hp)(Q:VK):Prop:=
 ∃W:Nat->Nat->Hp->Prop,(∃m,W 0 m (upd H D (.lst [])))/\∀i m H2,W i m H2->
  (J.stop i H2/\Q (.ref D) H2)∨(J.go i H2/\∀x H3,J.yld i H2 x H3->g x σ' H3 λσ4 H4=>ti σ4 H4 λb H5=>if b=true then te σ4 H5 λy H6=>∃ys,H6 D=some (.lst ys)/\ys.length<sizeLine/\∃m',m'<m/\W (i+1) m' (upd H6 D (.lst (ys++[y])))
   else ∃m',m'<m/\W (i+1) m' H5)
variable{ti:TT}
def y9{k:Nat}{ix:List Nat}{wi:TI}{g:TG}{te:TE}{σ:St}{H:Hp}{Q:VK}(h:wi σ H λJ H1=>∀D,H1 D=none->qo J D g ti te (selC k ix σ) H1 Q):j9 k ix wi g ti te σ H Q:=h
theorem WL{J:It}{D:Addr}{g:TG}{te:TE}{H:Hp}{Q:VK}(n:Nat)(Pv:Nat->List V->Hp->Prop)(h0:Pv 0 [] (upd H D (.lst [])))(hgo:∀i ys H,i<n->Pv i ys H->J.go i H)(hst:∀ys H,Pv n ys H->J.stop n H)
  (hs:∀i ys H x H3,i<n->Pv i ys H->J.yld i H x H3->g x σ' H3 λσ4 H4=>ti σ4 H4 λb H5=>if b=true then te σ4 H5 λy H6=>jl n Pv D i y H6 else jv n Pv i H5)
  (hd:∀ys H,Pv n ys H->Q (.ref D) H):qo J D g ti te σ' H Q:=by
 refine⟨CW n Pv,⟨n,rfl,uL _,[],h0⟩,?_⟩;rintro i m H2 ⟨rfl,hi,ys,p⟩
 by_cases hlt:i<n
 ·exact .inr ⟨hgo i ys H2 hlt p,λx H3 y=>hs i ys H2 x H3 hlt p y⟩
 ·have e:i=n:=by lia
  subst e;exact .inl ⟨hst ys H2 p,hd ys H2 p⟩
def xG{K:pI}{a D:Addr}{xs:List V}{g:TG}{te:TE}{H:Hp}{Q:VK}(Pv:Nat->List V->Hp->Prop)(h0:Pv 0 [] (upd H D (.lst [])))(hl:∀i ys H,Pv i ys H->SqL K H a xs)
  (hs:∀i ys H x,i<xs.length->xs[i]?=some x->Pv i ys H->g x σ' H λσ4 H4=>ti σ4 H4 λb H5=>if b=true then te σ4 H5 λy H6=>jl xs.length Pv D i y H6 else jv xs.length Pv i H5)
  (hd:∀ys H,Pv xs.length ys H->Q (.ref D) H):qo (Itl K a) D g ti te σ' H Q:=by
 refine WL xs.length Pv h0 (λi ys H hi p=>⟨xs,xs[i],hl i ys H p,by simp[hi]⟩) (λys H p=>⟨xs,hl _ ys H p,pG _⟩) (λi ys H x H3 hi p y=>?_) hd
 obtain⟨e,y⟩:=y;subst e;exact hs i ys _ x hi (y xs (hl i ys _ p)) p
def za8{D:Addr}{lo:Int}{n:Nat}{g:TG}{te:TE}{H:Hp}{Q:VK}(Pv:Nat->List V->Hp->Prop)(h0:Pv 0 [] (upd H D (.lst [])))
  (hs:∀i ys H,i<n->Pv i ys H->g (.int (lo+i)) σ' H λσ4 H4=>ti σ4 H4 λb H5=>if b=true then te σ4 H5 λy H6=>jl n Pv D i y H6 else jv n Pv i H5)
  (hd:∀ys H,Pv n ys H->Q (.ref D) H):qo (Itr lo n) D g ti te σ' H Q:=by
 refine WL n Pv h0 (λi ys H hi p=>hi) (λys H p=>pG _) (λi ys H x H3 hi p y=>?_) hd;obtain⟨e,y⟩:=y;subst e y;exact hs i ys _ hi p
mutual
def RdD(K:pI)(H:Hp):De->V->Prop
 |.none,v=>v=.non
 |.bool b,v=>v=.bl b
 |.int i,v=>v=.int i
 |.str x,v=>v=.str x
 |.list ds,v=>∃p xs,v=.ref p/\SqL K H p xs/\zO K H ds xs
 |.tuple ds,v=>∃p xs,v=.ref p/\SqT K H p xs/\zO K H ds xs
 |.dict _,_=>False
def zO(K:pI)(H:Hp):List De->List V->Prop
 |[],xs=>xs=[]
 |d::ds,xs=>∃x r,xs=x::r/\RdD K H d x/\zO K H ds r
end
section
variable{X:Cx}{pins:List (Addr×Obj)}{σ:St}{H:Hp}{s:pH}
mutual
theorem wZ(I:Inv X pins σ H s):∀(d:De)(v:V)(u:pB),RdD X.K H d v->zm v u->∃as,Reads s.heap u d as
 |.none,v,u,h,r=>by
  rw[RdD] at h;subst h;cases r;exact⟨_,.none⟩
 |.bool b,v,u,h,r=>by
  rw[RdD] at h;subst h;cases r;exact⟨_,.bool b⟩
 |.int i,v,u,h,r=>by
  rw[RdD] at h;subst h;obtain⟨t,rfl⟩:=r;exact⟨_,.int i t⟩
 |.str x,v,u,h,r=>by
  rw[RdD] at h;subst h;obtain⟨t,rfl⟩:=r;exact⟨_,.str x t⟩
 |.list ds,v,u,h,r=>by
  rw[RdD] at h;obtain⟨p,xs,rfl,hq,hs⟩:=h
  cases r;obtain⟨its,rv,pl,hz⟩:=I.list hq;obtain⟨o,ho,hc,n,hd⟩:=pl.isList;obtain⟨as,ra⟩:=VJ I ds xs its hs rv;exact⟨_,reads_list_at ho hc hd (by simpa using ra)⟩
 |.tuple ds,v,u,h,r=>by
  rw[RdD] at h;obtain⟨p,xs,rfl,hq,hs⟩:=h
  cases r;obtain⟨its,rv,pl,hz⟩:=I.tuple hq;obtain⟨o,ho,hc,n,hd⟩:=pl;obtain⟨as,ra⟩:=VJ I ds xs its hs rv;exact⟨_,reads_tuple_at ho hc hd (by simpa using ra)⟩
 |.dict kvs,v,u,h,r=>by
  rw[RdD] at h;exact h.elim
theorem VJ(I:Inv X pins σ H s):∀(ds:List De)(xs:List V)(us:List pB),zO X.K H ds xs->zn xs us->∃as,ReadsAll s.heap us ds as
 |[],xs,us,h,r=>by
  rw[zO] at h;subst h;cases r;exact⟨_,.nil⟩
 |d::ds,xs,us,h,r=>by
  rw[zO] at h;obtain⟨x,xr,rfl,hx,hr⟩:=h
  cases r with
  |cons r1 r2=>
   obtain⟨as,ra⟩:=wZ I d _ _ hx r1;obtain⟨bs,rb⟩:=VJ I ds _ _ hr r2;exact⟨_,.cons ra rb⟩
end
end
def rEqD(K:pI):R2:=λx y H Q=>∃d e,RdD K H d x/\RdD K H e y/\Qq d=true/\Qq e=true/\Q (.bl (ut d e)) H
def rNeD(K:pI):R2:=λx y H Q=>∃d e,RdD K H d x/\RdD K H e y/\Qq d=true/\Qq e=true/\Q (.bl (!PyData.eqv d e)) H
theorem hu64{A:uv}{k:Nat}(hr:yb k A):A.units+64<cLine:=by have:=hr.un;lia
section
variable{X:Cx}
def Y4(hu:X.A.units+64<cLine):OpR X (Qy .Eq) (rEqD X.K):=by
 intro pins s σ H x y v u Q I rx ry h;obtain⟨d,e,hd,he,sd,se,q⟩:=h;obtain⟨as,ra⟩:=wZ I d x v hd rx;obtain⟨bs,rb⟩:=wZ I e y u he ry;exact eq_dataH ra rb sd se hu ⟨.bl (ut d e),H,I,rfl,q⟩
def vS(hu:X.A.units+64<cLine):OpR X (Qy .NotEq) (rNeD X.K):=by
 intro pins s σ H x y v u Q I rx ry h;obtain⟨d,e,hd,he,sd,se,q⟩:=h;obtain⟨as,ra⟩:=wZ I d x v hd rx;obtain⟨bs,rb⟩:=wZ I e y u he ry;exact ne_dataH ra rb sd se hu ⟨.bl (!PyData.eqv d e),H,I,rfl,q⟩
end
noncomputable def dPt(x y w:Int):De:=.tuple [.int x,.int y,.int w]
def YQ{K:pI}{H:Hp}{p:Addr}{x y w:Int}(h:SqT K H p [.int x,.int y,.int w]):RdD K H (dPt x y w) (.ref p):=by
 unfold dPt;rw[RdD];exact⟨p,_,rfl,h,by simp[zO,RdD]⟩
def Xp(x y w:Int):Qq (dPt x y w)=true:=by
 simp[dPt,Qq,UI,uU,Qw,uT]
def zdl(x y w x' y' w':Int):ut (dPt x y w) (dPt x' y' w')=decide (x=x'/\y=y'/\w=w'):=by
 simp only[dPt,ut,uP,Gu]
 by_cases h1:x=x'<;>by_cases h2:y=y'<;>by_cases h3:w=w'<;>simp[h1,h2,h3]
section
variable{X:Cx}
def IxR.imp{r r':R2}(h:IxR X r)(i:∀x y H Q,r' x y H Q->r x y H Q):IxR X r':=λvalue slice pins s σ H x y v u Q I rx ry q hs=>h value slice pins s σ H x y v u Q I rx ry (i x y H Q q) hs
def yF.imp{f:pB}{r r':List V->Hp->VK->Prop}(h:yF X f r)(i:∀xs H Q,r' xs H Q->r xs H Q):yF X f r':=λpins s σ H xs us Q I rv q=>h pins s σ H xs us Q I rv (i xs H Q q)
def rIxTH:R2:=λx y H Q=>∃p xs i v,x=.ref p/\y=.int i/\H p=some (.tup xs)/\atI xs i=some v/\Q v H
def rIxLH:R2:=λx y H Q=>∃p xs i v,x=.ref p/\y=.int i/\H p=some (.lst xs)/\atI xs i=some v/\Q v H
def yP:IxR X rIxTH:=ix_tup.imp λx y H Q⟨p,xs,i,v,e1,e2,h,e3,q⟩=>⟨p,xs,i,v,e1,e2,.of h,e3,q⟩
def y6:IxR X rIxLH:=VS.imp λx y H Q⟨p,xs,i,v,e1,e2,h,e3,q⟩=>⟨p,xs,i,v,e1,e2,.of h,e3,q⟩
def rLenH:List V->Hp->VK->Prop:=λxs H Q=>∃p ys,xs=[.ref p]/\(H p=some (.lst ys)∨H p=some (.tup ys))/\Q (.int ys.length) H
def y7:yF X (.builtin "len") rLenH:=YO.imp λxs H Q⟨p,ys,e,h,q⟩=>⟨p,ys,e,h.imp .of .of,q⟩
noncomputable def tyF(H:Hp)(x:V):Option String:=match x with
 |.non=>some "NoneType"
 |.bl _=>some "bool"
 |.int _=>some "int"
 |.str _=>some "str"
 |.ref p=>match H p with
  |some (.lst _)=>some "list"
  |some (.tup _)=>some "tuple"
  |_=>none
 |_=>none
theorem tyF_tyN{K:pI}{H:Hp}{x:V}(h:tyF H x=some T):tyN K H x T:=by
 cases x with
 |non=>exact(ux h).symm
 |bl b=>exact(ux h).symm
 |int i=>exact(ux h).symm
 |str z=>exact(ux h).symm
 |ref p=>
  unfold tyF at h;dsimp only at h
  cases q:H p with
  |none=>rw[q] at h;cases h
  |some o=>
   rw[q] at h
   cases o with
   |lst xs=>exact .inl ⟨(ux h).symm,xs,.of q⟩
   |tup xs=>exact .inr (.inl ⟨(ux h).symm,xs,.of q⟩)
   |_=>cases h
 |_=>cases h
def rIsiF(T:String):List V->Hp->VK->Prop:=λxs H Q=>∃x Tx,xs=[x,.ty T]/\tyF H x=some Tx/\Q (.bl (yq Tx T)) H
def jt(h:yF X (.builtin "isinstance") (rIsi X.K T)):yF X (.builtin "isinstance") (rIsiF T):=h.imp λxs H Q⟨x,Tx,e,t,q⟩=>⟨x,Tx,e,tyF_tyN t,q⟩
end
def JC{H:Hp}{p:Addr}{xs:List V}(h:H p=some (.lst xs)):tyF H (.ref p)=some "list":=by unfold tyF;dsimp only;rw[h]
def tyF_non{H:Hp}:tyF H .non=some "NoneType":=rfl
def tyF_bl{H:Hp}{b:Bool}:tyF H (.bl b)=some "bool":=rfl
def tyF_int{H:Hp}{i:Int}:tyF H (.int i)=some "int":=rfl
def tyF_str{H:Hp}{z:Str}:tyF H (.str z)=some "str":=rfl
def at0{α:Type}{x:α}{r:List α}:atI (x::r) 0=some x:=yl (j:=0) rfl
def at1{α:Type}{x y:α}{r:List α}:atI (x::y::r) 1=some y:=yl (j:=1) rfl
def at2{α:Type}{x y z:α}{r:List α}:atI (x::y::z::r) 2=some z:=yl (j:=2) rfl
def at3{α:Type}{x y z t:α}{r:List α}:atI (x::y::z::t::r) 3=some t:=yl (j:=3) rfl
def at4{α:Type}{x y z t u:α}{r:List α}:atI (x::y::z::t::u::r) 4=some u:=yl (j:=4) rfl
def zW{H H':Hp}{D:Addr}{o:HO}(g:ze H H')(h:H D=none):ze H (upd H' D o):=λb u q=>by
 rw[zh (xu q h)];exact g b u q
section
variable{X:Cx}
def SlR.imp{r r':V->Option Int->Option Int->Hp->VK->Prop}(h:SlR X r)(i:∀x lo hi H Q,r' x lo hi H Q->r x lo hi H Q):SlR X r':=λpins s σ H x v vl vu lo hi sl Q I rx hs pl pu q=>h pins s σ H x v vl vu lo hi sl Q I rx hs pl pu (i x lo hi H Q q)
def rSlH:V->Option Int->Option Int->Hp->VK->Prop:=λx lo hi H Q=>∃a xs,x=.ref a/\H a=some (.lst xs)/\∀p,H p=none->Q (.ref p) (upd H p (.lst (xH xs lo hi)))
def vG:SlR X rSlH:=sl_list.imp λx lo hi H Q⟨a,xs,e,h,q⟩=>⟨a,xs,e,.of h,q⟩
def rListH:List V->Hp->VK->Prop:=λxs H Q=>∃p ys,xs=[.ref p]/\(H p=some (.lst ys)∨H p=some (.tup ys))/\∀l,H l=none->Q (.ref l) (upd H l (.lst ys))
def VU:yF X (.type "list") rListH:=zhs.imp λxs H Q⟨p,ys,e,h,q⟩=>⟨p,ys,e,h.imp .of .of,q⟩
def rIntB:List V->Hp->VK->Prop:=λxs H Q=>∃k,xs=[.bl k]/\Q (.int (if k=true then 1 else 0)) H
def zft:yF X (.type "int") rIntB:=zho.imp λxs H Q h=>.inr h
def xB{K:pI}{H:Hp}{p:Addr}{xs:List V}(h:H p=some (.lst xs)):tyV K "list" (.ref p) H:=.inl ⟨rfl,xs,.of h⟩
def Jp:Qh "min"=some (.builtin "min"):=by decide+kernel
def bt_max:Qh "max"=some (.builtin "max"):=by decide+kernel
end
def ForW(J:It)(g:TG)(tb:TS)(D:Ends)(σ:St)(H:Hp):Prop:=∃W:Nat->Nat->St->Hp->Prop,(∃m,W 0 m σ H)/\∀i m σ H,W i m σ H->
 (J.stop i H/\D.nx σ H)∨(J.go i H/\∃N:St->Hp->Prop,(∀σ' H',N σ' H'->∃m',m'<m/\W (i+1) m' σ' H')/\∀x H',J.yld i H x H'->g x σ H' λσ2 H2=>tb {D with nx:=N,ct:=N,bk:=D.nx} σ2 H2)
def yo{wi:TI}{g:TG}{tb:TS}{D:Ends}{σ:St}{H:Hp}(h:wi σ H λJ H1=>ForW J g tb D σ H1):tFor wi g tb D σ H:=h
section
open PySem.SeqAt
open PySem.AutoSeq1 (wpAny_loadPart')
open PySem.MeetsSeq PySem.MeetsSeq2 PySem.MeetsSeq3
def gtRc{A:uv}{s:pH}{a c:Int}{t u:Tok}(prog:uB)(w:uW)(E:pB->pH->Prop)(Q:pB->pH->Prop)(h:Q (.bool (decide (c<a))) s):wpAny (model prog w) A (Ej .Gt (.int a t) (.int c u)) Q E s:=
 (PyProof.Rows.gt_int h:wpAny (model prog w) A (Qy .Gt (.int a t) (.int c u)) Q E s)
theorem tupleGt(l b:Addr)(items items2:Array pB)(n n2:Nat)(dd dd2:Option Addr)(sl sl2:Array (Option pB))(ns ms:List Int)(hlen:ns.length=ms.length)(hi:gq items.toList ns)(hj:gq items2.toList ms):
  Meets (BW.«tuple.__gt__» ⟨[.ref l,.ref b],[]⟩)
   (λ_ R s=>s.heap.get? l=some {cls:=.type "tuple",dict:=dd,data:=.seq items n,slots:=sl}/\s.heap.get? b=some {cls:=.type "tuple",dict:=dd2,data:=.seq items2 n2,slots:=sl2}/\R (.ok (.ret (.bool (HT.lexLt ms ns)))) s):=
 .of_wp λprog w A R s h=>by
  obtain⟨hp,g,d,tk,os⟩:=s;obtain⟨hl,hb,h⟩:=h;have f2:=Df;have z1:items.size=ns.length:=by rw[←hi.length];simp
  have z2:items2.size=ms.length:=by rw[←hj.length];simp
  wp_walk using Ak hl,Ak hb,AU _ (λrest b s'=>b.1=none/\s'=⟨hp,g,d,tk,os⟩/\∃(vs ws:List pB)(ns' ms':List Int),rest=vs.zip ws/\gq vs ns'/\gq ws ms'/\ns'.length=ms'.length/\R (.ok (.ret (.bool (HT.lexLt ms' ns')))) ⟨hp,g,d,tk,os⟩) _
  case turn=>
   rintro⟨y,x⟩ rest b s' ⟨hb',rfl,vs,ws,ns',ms',hz,hvi,hwi,hln,hR⟩
   cases hvi with
   |nil=>rw[Fh] at hz;cases hz
   |cons a t hv=>
    cases hwi with
    |nil=>rw[FM] at hz;cases hz
    |cons c u hw=>
     rw[Ag] at hz
     injection hz with q1 q2
     injection q1 with q3 q4
     subst q3 q4;rw[HT.lexLt_cons] at hR;simp only[uN] at hln;obtain⟨e,he,hiff⟩:=HT.eqAt_int A.in1 ⟨hp,g,d,tk,os⟩ a t c u;refine pA (he prog w _ _ ?_)
     cases e with
     |true=>
      rw[if_pos (hiff.mp rfl).symm] at hR
      wp_walk
      exact⟨rfl,rfl,_,_,_,_,q2,hv,hw,by lia,hR⟩
     |false=>
      rw[if_neg (λq=>absurd (hiff.mpr q.symm) uO)] at hR;have hri:=gtRc (A:=A.in1) (s:=⟨hp,g,d,tk,os⟩) (a:=a) (c:=c) (t:=t) (u:=u) prog w
      wp_walk using hri
      exact⟨_,rfl,by simpa using hR⟩
  case fin=>
   rintro⟨b1,b2⟩ s' ⟨hb',rfl,vs,ws,ns',ms',hz,hvi,hwi,hln,hR⟩
   simp only at hb'
   subst hb';have hv:HT.lexLt ms' ns'=decide (items2.size<items.size):=by
    rw[decide_eq_false (by lia)]
    cases hvi with
    |nil=>
     cases hwi with
     |nil=>rfl
     |cons c u hw=>cases hln
    |cons a t hv=>
     cases hwi with
     |nil=>cases hln
     |cons c u hw=>rw[Ag] at hz;cases hz
   rw[hv] at hR
   wp_walk
   exact⟨_,rfl,by simpa[CF] using hR⟩
  case h=>
   exact⟨rfl,rfl,items.toList,items2.toList,ns,ms,rfl,hi,hj,hlen,h⟩
end
section
variable{X:Cx}
def rGt2:R2:=λx y H Q=>∃a b i1 i2 j1 j2,x=.ref a/\y=.ref b/\H a=some (.tup [.int i1,.int i2])/\H b=some (.tup [.int j1,.int j2])/\Q (.bl (if i1=j1 then decide (j2<i2) else decide (j1<i1))) H
theorem op_gt2(hu:X.A.units+64<cLine):OpR X (Qy .Gt) rGt2:=by
 intro pins s σ H x y v u Q I rx ry h;obtain⟨a,b,i1,i2,j1,j2,rfl,rfl,ha,hb,q⟩:=h
 cases rx
 cases ry;have sa:SqT X.K H a ([i1,i2].map V.int):=.of ha;have sb:SqT X.K H b ([j1,j2].map V.int):=.of hb;obtain⟨its,r1,p1,_⟩:=I.tuple sa;obtain⟨its2,r2,p2,_⟩:=I.tuple sb;have e1:gq its.toArray.toList [i1,i2]:=Y0 r1;have e2:gq its2.toArray.toList [j1,j2]:=Y0 r2;obtain⟨⟨cls,dd,data,sl⟩,ho,hc,n,hd⟩:=id p1;obtain⟨⟨cls2,dd2,data2,sl2⟩,ho2,hc2,n2,hd2⟩:=id p2
 simp only at hc hd hc2 hd2
 subst hc hd hc2 hd2;have ev:HT.lexLt [j1,j2] [i1,i2]=(if i1=j1 then decide (j2<i2) else decide (j1<i1)):=by
  rw[HT.lexLt_cons,HT.lexLt_cons,HT.lexLt_nil_nil]
  by_cases c:i1=j1
  ·subst c;rw[if_pos rfl,if_pos rfl]
   by_cases c2:j2=i2
   ·subst c2;rw[if_pos rfl,decide_eq_false (by lia)]
   ·rw[if_neg c2]
  ·rw[if_neg c,if_neg (λz=>c z.symm)]
 refine Bn (op:=.Gt) ⟨_,ho,rfl⟩ ⟨_,ho2,rfl⟩ PySem.F.slot_tuple_gt PySem.F.entry_tuple_gt (PySem.F.args_tuple_gt_2 _ _) (tupleGt a b its.toArray its2.toArray n n2 dd dd2 sl sl2 [i1,i2] [j1,j2] rfl e1 e2) ⟨ho,ho2,(λz=>nomatch z),?_⟩ (by lia)
 rw[ev];exact⟨.bl _,H,I,rfl,q⟩
end
section
variable{X:Cx}{pos:Pos}
def gTupH(n:Nat)(t:TGs):TG:=λv σ H Q=>∃a xs,v=.ref a/\H a=some (.tup xs)/\xs.length=n/\t xs σ H Q
def vU{es:List Expr}{k:Nat}{t:TGs}{n:Nat}(hc:X.calm=true)(h:PGs X es t)(hn:(CL es X.env).length=n:=by rfl)(hst:(CL es X.env).findIdx? (·.1)=none:=by rfl):PG X (.Tuple es k pos) (gTupH n t):=
 λpins s σ H v u Q I r hw=>zde hc h hn hst pins s σ H v u Q I r (by
  obtain⟨a,xs,e,q,l,z⟩:=hw;exact⟨a,xs,e,.of q,l,z⟩)
end
open PySem.Builtin PySem.Builtin.Str
section
variable{X:Cx}
theorem JV:∀(bs:List Bool)(its:List pB),zn (bs.map V.bl) its->its=bs.map Cq
 |[],its,h=>by cases h;rfl
 |b::bs,its,h=>by
  cases h with
  |cons r t=>
   cases r;rw[JV bs _ t];rfl
def rAll:List V->Hp->VK->Prop:=λxs H Q=>∃(p:Addr)(bs:List Bool),xs=[.ref p]/\H p=some (.lst (bs.map V.bl))/\Q (.bl (bs.all id)) H
def zgy(bs:List Bool):((pP bs.length).all λi=>bs.getD i false)=bs.all id:=by
 rw[Qa,Do,Do]
 constructor
 ·intro h b hb;obtain⟨i,hi,e⟩:=UC.mp hb;have:=h i (pQ.mpr hi);rw[pD,pJ hi,e] at this;exact this
 ·intro h i hi;have hi:=pQ.mp hi;rw[pD,pJ hi];exact h _ (UJ _)
theorem zhq(hc:X.calm=true):yF X (.builtin "all") rAll:=by
 intro pins s σ H xs us Q I r h;obtain⟨p,bs,rfl,hp,q⟩:=h;obtain⟨u,rfl,ru⟩:=vals1 r
 cases ru;obtain⟨its,rv,pl,hz⟩:=I.list (.of hp);have e:=JV bs its rv;subst e;have ne:p≠s.heap.objs.size:=ur pl.lt;refine call_all_walk (DP pl.isList ⟨s.heap.objs.size,_,_,_,_,_,λi=>bs.getD i false,rfl,Hd (show X.A.in1.handled=none from I.ok.hd hc) _ p ne (bs.map Cq).toArray,⟨⟨_,uM _ rfl,rfl,rfl⟩,pl.isList.push _⟩,?_,λg tk kk=>?_⟩)
 ·intro i v s' Q' E' hv hq;have hv:(bs.map Cq)[i]?=some v:=by simpa using hv
  rw[pT] at hv
  cases e:bs[i]? with
  |none=>rw[e] at hv;cases hv
  |some b=>
   rw[e] at hv
   cases hv;have hq:Q' (bs.getD i false) s':=hq;rw[pD,e] at hq;exact UA hq
 ·have en:(bs.map Cq).toArray.size=bs.length:=by simp
  rw[en,zgy];refine⟨.bl _,H,I.kept (t':=tk) λb o e=>kk b o ?_ (pU _ e),rfl,q⟩;intro z;have z:b=s.heap.objs.size:=by simpa using z
  exact absurd (uC e) (by rw[z];exact Ur _)
def bt_all:Qh "all"=some (.builtin "all"):=by decide+kernel
end
open PySem.W (KasT kas_asc kas_desc kas_rev kas_tail3 kas_descPart kas_count kas_place kas_bin kas_sort kas_ask kas_item)
noncomputable def ansT{α:Type}(ans:Nat->Nat->Bool):KasT α->α
 |.ret a=>a
 |.ask i j k=>ansT ans (k (ans i j))
def yf{α:Type}(n:Nat)(R:α->Prop):KasT α->Prop
 |.ret a=>R a
 |.ask i j k=>i<n/\j<n/\∀b,yf n R (k b)
theorem yf.bind{α β:Type}{n:Nat}{R:α->Prop}{S:β->Prop}{f:α->KasT β}:∀{t:KasT α},yf n R t->(∀a,R a->yf n S (f a))->yf n S (t.bind f)
 |.ret a,h,k=>k a h
 |.ask i j g,h,k=>⟨h.1,h.2.1,λb=>yf.bind (h.2.2 b) k⟩
theorem yf.ends{α:Type}{n:Nat}{R:α->Prop}{ans:Nat->Nat->Bool}:∀{t:KasT α},yf n R t->R (ansT ans t)
 |.ret _,h=>h
 |.ask i j g,h=>yf.ends (n:=n) (t:=g (ans i j)) (h.2.2 (ans i j))
theorem yf.wp{α:Type}{n:Nat}{R:α->Prop}{ans:Nat->Nat->Bool}{cmp:Nat->Nat->(Bool->pH->Prop)->pH->Prop}{s:pH}{Q:α->pH->Prop}(hc:∀i j C,i<n->j<n->C (ans i j) s->cmp i j C s):
  ∀{t:KasT α},yf n R t->Q (ansT ans t) s->t.kasWp cmp Q s
 |.ret _,_,q=>q
 |.ask i j g,h,q=>hc i j _ h.1 h.2.1 (yf.wp (n:=n) (t:=g (ans i j)) hc (h.2.2 (ans i j)) q)
def Ord(n:Nat)(p:Array Nat):Prop:=p.toList.Perm (pP n)
def Ord.get{n:Nat}{p:Array Nat}(h:Ord n p)(hn:0<n)(i:Nat):p.getD i 0<n:=by
 by_cases hi:i<p.size
 ·have e:p.getD i 0=p[i]:=by simp[Cw,hi]
  rw[e];exact pQ.mp (h.mem_iff.mp (by simp))
 ·have e:p.getD i 0=0:=by simp[Cw,hi]
  rw[e];exact hn
def Ord.of{n:Nat}{p q:Array Nat}(h:Ord n p)(e:q.Perm p):Ord n q:=(Cy.mp e).trans h
def Ord.rev{n:Nat}{p:Array Nat}(h:Ord n p)(i j:Nat):Ord n (kas_rev p i j):=h.of (AD _ _ _ _)
theorem VW{n:Nat}{p:Array Nat}(h:Ord n p)(hn:0<n):∀(f m:Nat),yf n (λ_=>True) (kas_asc p f m)
 |0,_=>trivial
 |f+1,m=>⟨h.get hn _,h.get hn _,λb=>by
  cases b with
  |true=>dsimp only;rw[if_pos rfl];trivial
  |false=>dsimp only;rw[if_neg (by decide)];exact VW h hn f (m+1)⟩
theorem XE{n:Nat}(hn:0<n):∀(f:Nat){p:Array Nat}(m q:Nat),Ord n p->yf n (λr=>Ord n r.1) (kas_desc f p m q)
 |0,_,_,_,h=>h
 |f+1,p,m,q,h=>⟨h.get hn _,h.get hn _,λb=>by
  cases b with
  |true=>
   dsimp only;rw[if_pos rfl]
   by_cases z:q>0
   ·rw[if_pos z];exact XE hn f _ _ (h.rev _ _)
   ·rw[if_neg z];exact XE hn f _ _ h
  |false=>
   dsimp only;rw[if_neg (by decide)]
   refine⟨h.get hn _,h.get hn _,λd=>?_⟩
   cases d with
   |true=>dsimp only;rw[if_pos rfl];exact h
   |false=>dsimp only;rw[if_neg (by decide)];exact XE hn f _ _ h⟩
def Z7{n a b:Nat}{p:Array Nat}(hn:0<n)(h:Ord n p):yf n (λr=>Ord n r.2) (kas_tail3 a b p):=
 yf.bind (VW (h.rev _ _) hn _ _) λ_ _=>h.rev _ _
def zc2{n a b:Nat}{p:Array Nat}(hn:0<n)(h:Ord n p):yf n (λr=>Ord n r.2) (kas_descPart a b p):=
 yf.bind (XE hn _ _ _ h) λr hr=>by
  by_cases z:r.2.2>0
  ·rw[if_pos z];exact Z7 hn (hr.rev _ _)
  ·rw[if_neg z];exact Z7 hn hr
theorem Zn{n b:Nat}{p:Array Nat}(hn:0<n)(h:Ord n p):yf n (λr=>Ord n r.2) (kas_count b p):=
 yf.bind (VW h hn _ _) λm _=>by
  by_cases z:(m==b)=true
  ·rw[if_pos z];exact h
  ·rw[if_neg z]
   by_cases y:m>1
   ·rw[if_pos y];refine⟨h.get hn _,h.get hn _,λc=>?_⟩
    cases c with
    |true=>dsimp only;rw[if_pos rfl];exact h
    |false=>dsimp only;rw[if_neg (by decide)];exact zc2 hn (h.rev _ _)
   ·rw[if_neg y];exact zc2 hn h
theorem Jk{n:Nat}{p:Array Nat}(hn:0<n)(h:Ord n p)(k:Nat):∀(f l r:Nat),yf n (λ_=>True) (kas_place p k f l r)
 |0,_,_=>trivial
 |f+1,l,r=>by
  unfold kas_place
  by_cases z:l≥r
  ·rw[if_pos z];trivial
  ·rw[if_neg z];refine⟨h.get hn _,h.get hn _,λc=>?_⟩
   cases c with
   |true=>dsimp only;rw[if_pos rfl];exact Jk hn h k f _ _
   |false=>dsimp only;rw[if_neg (by decide)];exact Jk hn h k f _ _
theorem zd6{n:Nat}(hn:0<n):∀(f:Nat){p:Array Nat}(k:Nat),Ord n p->yf n (Ord n) (kas_bin f p k)
 |0,_,_,h=>h
 |f+1,p,k,h=>yf.bind (Jk hn h k _ _ _) λl _=>zd6 hn f (k+1) (h.of (GW _ _ _))
def zcg{n:Nat}(hn:0<n):yf n (Ord n) (kas_sort n):=
 yf.bind (Zn hn (by unfold Ord;simp)) λr hr=>by
  by_cases z:r.1<n
  ·rw[if_pos z];exact zd6 hn _ _ hr
  ·rw[if_neg z];exact hr
def yC(g h:Heap):Prop:=∀b o,g.get? b=some o->h.get? b=some o
def yC.push{g h:Heap}(k:yC g h)(o:Obj):yC g (h.push o):=λb x e=>pU _ (k b x e)
def yC.upd{g h:Heap}{a:Addr}{f:Obj->Obj}(k:yC g h)(ha:g.objs.size<=a):yC g (h.update a f):=λb x e=>by
 rw[UY _ _ _ _ (ur (pf (uC e) ha))];exact k b x e
def zei(vs:List pB):((pP vs.length).map λi=>vs.getD i UK)=vs:=by
 refine GF (by simp) λi h1 h2=>?_
 have hi:i<vs.length:=h2
 simp[hi]
open PySem.W (KasT kas_sort kas_ask)
section
open PySem.SeqAt
open PySem.AutoSeq1 (wpAny_loadPart')
open PySem.MeetsSeq PySem.MeetsSeq2 PySem.MeetsSeq3
def ltRc{A:uv}{s:pH}{a c:Int}{t u:Tok}(prog:uB)(w:uW)(E:pB->pH->Prop)(Q:pB->pH->Prop)(h:Q (.bool (decide (a<c))) s):wpAny (model prog w) A (Ej .Lt (.int a t) (.int c u)) Q E s:=
 (PyProof.Rows.lt_int h:wpAny (model prog w) A (Qy .Lt (.int a t) (.int c u)) Q E s)
theorem ZC(l b:Addr)(items items2:Array pB)(n n2:Nat)(dd dd2:Option Addr)(sl sl2:Array (Option pB))(ns ms:List Int)(hlen:ns.length=ms.length)(hi:gq items.toList ns)(hj:gq items2.toList ms):
  Meets (BW.«tuple.__lt__» ⟨[.ref l,.ref b],[]⟩)
   (λ_ R s=>s.heap.get? l=some {cls:=.type "tuple",dict:=dd,data:=.seq items n,slots:=sl}/\s.heap.get? b=some {cls:=.type "tuple",dict:=dd2,data:=.seq items2 n2,slots:=sl2}/\R (.ok (.ret (.bool (HT.lexLt ns ms)))) s):=
 .of_wp λprog w A R s h=>by
  obtain⟨hp,g,d,tk,os⟩:=s;obtain⟨hl,hb,h⟩:=h;have f2:=Df;have z1:items.size=ns.length:=by rw[←hi.length];simp
  have z2:items2.size=ms.length:=by rw[←hj.length];simp
  wp_walk using Ak hl,Ak hb,AU _ (λrest b s'=>b.1=none/\s'=⟨hp,g,d,tk,os⟩/\∃(vs ws:List pB)(ns' ms':List Int),rest=vs.zip ws/\gq vs ns'/\gq ws ms'/\ns'.length=ms'.length/\R (.ok (.ret (.bool (HT.lexLt ns' ms')))) ⟨hp,g,d,tk,os⟩) _
  case turn=>
   rintro⟨y,x⟩ rest b s' ⟨hb',rfl,vs,ws,ns',ms',hz,hvi,hwi,hln,hR⟩
   cases hvi with
   |nil=>rw[Fh] at hz;cases hz
   |cons a t hv=>
    cases hwi with
    |nil=>rw[FM] at hz;cases hz
    |cons c u hw=>
     rw[Ag] at hz
     injection hz with q1 q2
     injection q1 with q3 q4
     subst q3 q4;rw[HT.lexLt_cons] at hR;simp only[uN] at hln;obtain⟨e,he,hiff⟩:=HT.eqAt_int A.in1 ⟨hp,g,d,tk,os⟩ a t c u;refine pA (he prog w _ _ ?_)
     cases e with
     |true=>
      rw[if_pos (hiff.mp rfl)] at hR
      wp_walk
      exact⟨rfl,rfl,_,_,_,_,q2,hv,hw,by lia,hR⟩
     |false=>
      rw[if_neg (λq=>absurd (hiff.mpr q) uO)] at hR;have hri:=ltRc (A:=A.in1) (s:=⟨hp,g,d,tk,os⟩) (a:=a) (c:=c) (t:=t) (u:=u) prog w
      wp_walk using hri
      exact⟨_,rfl,by simpa using hR⟩
  case fin=>
   rintro⟨b1,b2⟩ s' ⟨hb',rfl,vs,ws,ns',ms',hz,hvi,hwi,hln,hR⟩
   simp only at hb'
   subst hb';have hv:HT.lexLt ns' ms'=decide (items.size<items2.size):=by
    rw[decide_eq_false (by lia)]
    cases hvi with
    |nil=>
     cases hwi with
     |nil=>rfl
     |cons c u hw=>cases hln
    |cons a t hv=>
     cases hwi with
     |nil=>cases hln
     |cons c u hw=>rw[Ag] at hz;cases hz
   rw[hv] at hR
   wp_walk
   exact⟨_,rfl,by simpa[CF] using hR⟩
  case h=>
   exact⟨rfl,rfl,items.toList,items2.toList,ns,ms,rfl,hi,hj,hlen,h⟩
end
def yc(h:Heap)(v:pB)(ns:List Int):Prop:=∃(a:Addr)(its:Array pB)(n:Nat)(dd:Option Addr)(sl:Array (Option pB)),v=.ref a/\h.get? a=some {cls:=.type "tuple",dict:=dd,data:=.seq its n,slots:=sl}/\gq its.toList ns
def vm(h:Heap)(v:pB)(ns ms:List Int):Prop:=∃(a:Addr)(x y:pB)(n:Nat)(dd:Option Addr)(sl:Array (Option pB)),v=.ref a/\h.get? a=some {cls:=.type "tuple",dict:=dd,data:=.seq #[x,y] n,slots:=sl}/\yc h x ns/\yc h y ms
variable{ns:List Int}
def yc.keeps{g h:Heap}{v:pB}(t:yc g v ns)(k:yC g h):yc h v ns:=by
 obtain⟨a,its,n,dd,sl,e,o,i⟩:=t;exact⟨a,its,n,dd,sl,e,k _ _ o,i⟩
variable{ms:List Int}
def vm.keeps{g h:Heap}{v:pB}(t:vm g v ns ms)(k:yC g h):vm h v ns ms:=by
 obtain⟨a,x,y,n,dd,sl,e,o,i,j⟩:=t;exact⟨a,x,y,n,dd,sl,e,k _ _ o,i.keeps k,j.keeps k⟩
theorem JM{h:Heap}:∀{us:List pB}{ns:List Int},gq us ns->∃as,ReadsAll h us (ns.map Ah) as
 |_,_,.nil=>⟨_,.nil⟩
 |_,_,.cons n t r=>let⟨_,q⟩:=JM r;⟨_,.cons (.int n t) q⟩
def yc.reads{h:Heap}{v:pB}(t:yc h v ns):∃as,Reads h v (.tuple (ns.map Ah)) as:=by
 obtain⟨a,its,n,dd,sl,rfl,o,i⟩:=t;obtain⟨as,r⟩:=JM (h:=h) i;exact⟨_,reads_tuple_at o rfl rfl (by simpa using r)⟩
theorem JQ:∀ns:List Int,uU (ns.map Ah)=true
 |[]=>rfl
 |n::ns=>by simp only[pR,uU,JQ ns,UI,Bool.and_self]
def zcw(ns:List Int):UI (.tuple (ns.map Ah))=true:=by
 simp only[UI,JQ ns]
theorem zd7:∀ns:List Int,uT (ns.map Ah)<=1
 |[]=>by simp[uT]
 |n::ns=>by
  have:=zd7 ns;simp only[pR,uT,Qw];lia
theorem Z1:∀{ns ms:List Int},uP (ns.map Ah) (ms.map Ah)=decide (ns=ms)
 |[],[]=>rfl
 |[],m::ms=>rfl
 |n::ns,[]=>rfl
 |n::ns,m::ms=>by
  simp only[pR,uP,ut,Z1]
  by_cases h1:n=m<;>by_cases h2:ns=ms<;>simp[h1,h2]
section
variable{prog:uB}{w:uW}{A:uv}{E:pB->pH->Prop}{s:pH}{C:Bool->pH->Prop}
variable{x y:pB}
theorem WF(hx:yc s.heap x ns)(hy:yc s.heap y ms)(hu:A.units+64<cLine)(q:C (decide (ns=ms)) s):wpAny (model prog w) A (eqBool x y) C E s:=by
 obtain⟨as,ra⟩:=hx.reads;obtain⟨bs,rb⟩:=hy.reads;refine PySem.SeqAt.eqBoolOverData prog w A E s x y _ _ as bs C ra rb (zcw ns) (zcw ms) ?_ ?_
 ·have:=zd7 ns;have:(Fi (ns.map Ah)).depth<=2:=by simp only[Qw];lia
  have:=Ga (Fi (ns.map Ah)).depth (Fi (ms.map Ah)).depth;lia
 ·simp only[ut];rw[Z1];exact q
theorem zdt(hx:yc s.heap x ns)(hy:yc s.heap y ms)(hl:ns.length=ms.length)(hu:A.units+64<cLine)(q:C (HT.lexLt ns ms) s):wpAny (model prog w) A (oneLt' false x y) C E s:=by
 obtain⟨a,its,n,dd,sl,rfl,o,i⟩:=hx;obtain⟨b,its2,n2,dd2,sl2,rfl,o2,i2⟩:=hy;refine PySem.W.kat_one _ _ ?_;exact Bn (op:=.Lt) ⟨_,o,rfl⟩ ⟨_,o2,rfl⟩ EW EF (Dp _ _) (ZC a b its its2 n n2 dd dd2 sl sl2 ns ms hl i i2) ⟨o,o2,(λz=>nomatch z),q⟩ (by lia)
noncomputable def ltP(a b:List Int×List Int):Bool:=if a.1=b.1 then(if a.2=b.2 then false else HT.lexLt a.2 b.2) else HT.lexLt a.1 b.1
def lt_tupP{a b:List Int×List Int}(hx:vm s.heap x a.1 a.2)(hy:vm s.heap y b.1 b.2)(l1:a.1.length=b.1.length)(l2:a.2.length=b.2.length)(hu:A.units+64<cLine)(q:C (ltP a b) s):wpAny (model prog w) A (HJ (tuples' false) x y) C E s:=by
 obtain⟨p,x1,x2,n,dd,sl,rfl,o,i1,i2⟩:=hx;obtain⟨p',y1,y2,n',dd',sl',rfl,o',j1,j2⟩:=hy;unfold ltP at q;refine PySem.W.kat_lt o rfl o' rfl (GG (WF i1 j1 hu ?_))
 by_cases c:a.1=b.1
 ·rw[if_pos c] at q;rw[decide_eq_true c];refine Gb (GG (WF i2 j2 hu ?_))
  by_cases c2:a.2=b.2
  ·rw[if_pos c2] at q;rw[decide_eq_true c2];exact Gb (PySem.W.kat_nil q)
  ·rw[if_neg c2] at q;rw[decide_eq_false c2];exact Gn (zdt i2 j2 l2 hu q)
 ·rw[if_neg c] at q;rw[decide_eq_false c];exact Gn (zdt i1 j1 l1 hu q)
end
open PySem.W (KatTups) in
theorem ktups{h:Heap}:∀vs:List pB,(∀v,v∈vs->∃a b,a≠[]/\vm h v a b)->∃fs,fs.length=vs.length/\KatTups h vs fs/\∀f,f∈fs->∃ns,yc h f ns
 |[],_=>⟨[],rfl,.nil,λf hf=>by cases hf⟩
 |v::vs,hv=>by
  obtain⟨fs,l,t,r⟩:=ktups vs λu hu=>hv u (pE _ hu);obtain⟨a,b,ne,p,x,y,n,dd,sl,rfl,o,i,j⟩:=hv v (pj ..);refine⟨x::fs,by simp[l],.cons o rfl rfl rfl t,λf hf=>?_⟩
  rcases pS.mp hf with rfl|hf
  ·exact⟨_,i⟩
  ·exact r f hf
theorem zez{M:Model}{A:uv}{E:pB->pH->Prop}{s:pH}{vs:List pB}{Q:AE->pH->Prop}(hn:0<vs.length)(hv:∀v,v∈vs->∃a b,a≠[]/\vm s.heap v a b)(q:Q (tuples' false) s):wpAny M A (Ek vs.toArray) Q E s:=by
 obtain⟨fs,l,t,r⟩:=ktups vs hv;refine PySem.W.kat_kind (T:=.type "tuple") t (by lia) (λf hf=>?_) (by decide) ?_
 ·obtain⟨ns,a,its,n,dd,sl,rfl,o,_⟩:=r f hf;exact(GH o).andThen .now
 ·rw[show(CK "tuple"!=CK "tuple")=false from by decide]
  exact q
theorem Xh:∀{xs:List V}{us:List pB},zn xs us->∀i,i<xs.length->zm (xs.getD i .non) (us.getD i UK)
 |_,_,.nil,i,h=>by cases h
 |_,_,.cons r t,0,_=>r
 |_,_,.cons r t,i+1,h=>Xh t i (Nat.lt_of_succ_lt_succ h)
theorem zc5{f:Nat->V}{g:Nat->pB}:∀l:List Nat,(∀i,i∈l->zm (f i) (g i))->zn (l.map f) (l.map g)
 |[],_=>.nil
 |i::l,h=>.cons (h i (pj ..)) (zc5 l λj hj=>h j (pE _ hj))
section
variable{X:Cx}{pins:List (Addr×Obj)}{σ:St}{H:Hp}{s:pH}
def WU(I:Inv X pins σ H s){a:Addr}(h:H a=some (.tup (ns.map V.int))):yc s.heap (.ref a) ns:=by
 obtain⟨its,r,⟨⟨cls,dd,data,sl⟩,ho,hc,n,hd⟩,_⟩:=I.tuple (.of h)
 simp only at hc hd
 subst hc hd;exact⟨a,_,n,dd,sl,rfl,ho,Y0 r⟩
def zak:Qh "sorted"=some (.builtin "sorted"):=by decide+kernel
theorem hu100{A:uv}{k:Nat}(hr:yb k A):A.units+100<cLine:=by have:=hr.un;omega
end
structure WM(ts:List Addr)(H:Hp):Prop where
 only:∀b,H b=none∨(∃o xs,H b=some (.frz o (.lst xs)))∨(b∈ts/\H b=some (.tbl #[]))
 tabs:∀b,b∈ts->H b=some (.tbl #[])
variable{fa:Addr}
theorem zfk{P:uB}{w:uW}{K:pI}{mg mb:Str->Option pB}{CX:CXT}{k:Nat}{a:Addr}{fd:UM}{x:Str}{s₁:pH}{vs:List pB}{ts:List Addr}
  (KX:K.In s₁.heap)(hns:s₁.heap.Ns ul mg)(hb:s₁.heap.Ns EA mb)(hbb:∀x:Str,x≠"__name__"->mb x=Qh x)(hlim:s₁.heap.NoLimit)(hg:s₁.gens=#[])
  (ha:s₁.heap.get? a=some {cls:=.type "list",data:=.seq vs.toArray})(hi:gq vs ns)(hl:ns.length<=sizeLine)(hr:yb k FA)
  (hT:∀b,b∈ts->s₁.heap.get? b=some (PySem.W.tabObj #[])/\K.lookup b=none/\isCodeTable s₁.heap b)
  (hbm:∃bm ob,mg "__builtins__"=some (.ref bm)/\bm≠EA/\s₁.heap.get? bm=some ob/\ob.cls=.type "module"/\ob.dict=some EA/\ob.data=.plain)
  (F:∀base:Heap,K.In base->base.Ns ul mg->(∀b,b∈ts->base.BuiltinsAt mg b)->zv P w K mg base CX k fa fd [x] sp) (hbind:∀(s:pH)(u:pB),Fb s fd ⟨[u],[]⟩ [(x,u)])
  (hsp:∀H:Hp,WM ts H->SqL K H a (ns.map V.int)->sp [.ref a] H (λv _=>v=.bl true) λ_ _ _=>False)
  (hCX:∀H e s',CX [] H s₁ (λ_ _ _=>False) e s'->False):
  Ci (model P w) FA (.call (.ref fa) ⟨[.ref a],[]⟩) (λr s'=>r=.ok (.ret (.bool true))/\OldK s₁.heap s'.heap/\s'.os=s₁.os/\DO s'.gens) s₁:=by
 have rv:=Zv hi;have lenV:=hi.length;have naT:a∉ts:=λz=>by
  have e:=(hT a z).1;rw[ha] at e
  cases e
 have core:∀H:Hp,WM ts H->SqL K H a (ns.map V.int)->HOk P w H s₁.heap->(∀b,H b≠none->b=a∨b∈ts)->(H a≠none->K.lookup a=none)->
   Ci (model P w) FA (.call (.ref fa) ⟨[.ref a],[]⟩) (λr s'=>r=.ok (.ret (.bool true))/\OldK s₁.heap s'.heap/\s'.os=s₁.os/\DO s'.gens) s₁:=by
  intro H hO hS hok hA hK;have base_of:∀{b:Addr}{o:Obj},s₁.heap.get? b=some o->H b=none->(wE s₁.heap H).get? b=some o:=λe n=>zi6 e n;have noD:∀{b:Addr}{o:Obj},s₁.heap.get? b=some o->o.cls≠.none->o.cls≠.type "list"->H b=none:=λ{b o} e d1 d2=>by
   cases q:H b with
   |none=>rfl
   |some u=>
    rcases hA b (by rw[q];simp) with e'|e'
    ·subst e';rw[ha] at e;cases e;exact absurd rfl d2
    ·rw[(hT b e').1] at e;cases e;exact absurd rfl d1
  have noA:∀{b:Addr}{o:Obj}{es:Array Dq}{ep:Nat},s₁.heap.get? b=some o->o.data=.dict es ep->H b=none:=λ{b o es ep} e d=>by
   cases q:H b with
   |none=>rfl
   |some u=>
    rcases hA b (by rw[q];simp) with e'|e'
    ·subst e';rw[ha] at e;cases e;have d':Data.seq vs.toArray _=Data.dict es ep:=d
     cases d'
    ·rw[(hT b e').1] at e;cases e;have d':HV #[]=Data.dict es ep:=d
     cases d'
  have nsK:∀{b:Addr}{m:Str->Option pB},s₁.heap.Ns b m->(wE s₁.heap H).Ns b m:=λ{b m}⟨o,es,ep,e,d,r⟩=>⟨o,es,ep,base_of e (noA e d),d,r⟩;have hKb:K.In (wE s₁.heap H):=λb o e=>base_of (KX b o e) (by
   cases q:H b with
   |none=>rfl
   |some u=>
    rcases hA b (by rw[q];simp) with e'|e'
    ·subst e';rw[hK (by rw[q];simp)] at e;cases e
    ·rw[(hT b e').2.1] at e;cases e)
  have hM:Mod K mg (wE s₁.heap H):=⟨hKb,nsK hns,⟨mb,nsK hb,hbb⟩,let⟨mc,h1,h2⟩:=hlim;⟨mc,nsK h1,h2⟩⟩;have hB:∀b,b∈ts->(wE s₁.heap H).BuiltinsAt mg b:=λb hb'=>by
   obtain⟨bm,ob,b1,b2,b3,b4,b5,b6⟩:=hbm;refine⟨bm,ob,b1,b2,λq=>?_,λq=>?_,base_of b3 (noD b3 (by rw[b4];simp) (by rw[b4];simp)),b4,b5,b6⟩
   ·obtain⟨o,es,ep,e,d,_⟩:=hns;rw[←q,b3] at e;cases e;rw[b6] at d;cases d
   ·rw[q,(hT b hb').1] at b3;cases b3;cases b4
  have e0:Env0 P w K mg (wE s₁.heap H) FA [] s₁ H:=⟨rfl,hM,λb o e=>of_hidT e,Qi (zfe _ _),trivial,λb hb=>absurd (show b∈([]:List Addr) from hb) (by simp),hok,.of_eq hg⟩
  refine EB ((F _ hKb (nsK hns) hB).run FA [] s₁ H ⟨[.ref a],[]⟩ [.ref a] [.ref a] _ _ hr e0 (hbind s₁ (.ref a)) (.cons rfl .nil) (hsp H hO hS)) λr s' h=>?_
  cases r with
  |error e=>exact(hCX H e s' h).elim
  |ok fl=>
   cases fl with
   |next=>exact Um h
   |brk=>exact Um h
   |cont=>exact Um h
   |ret u=>
    obtain⟨v,H',os,bare,un,hok',r',q⟩:=h;have q':v=.bl true:=q;subst q';obtain rfl:u=Cq true:=r';have at':∀b o,s₁.heap.get? b=some o->asItWas s₁.heap s'.heap b o:=λb o e=>by
     cases q:H b with
     |none=>exact .inl (un.keep b o e q (by intro z;exact absurd (show b∈([]:List Addr) from z) (by simp)) (by simp))
     |some u=>
      rcases hO.only b with z|⟨ob,xs,z⟩|⟨hbt,z⟩
      ·rw[q] at z;cases z
      ·have z2:=un.frzs b ob _ z;obtain⟨e1,_⟩:=hok b _ z;obtain⟨e2,_⟩:=hok' b _ z2;rw[e] at e1;cases e1;exact .inl e2
      ·obtain⟨more,z2⟩:=un.tbls b _ z;have e2:s'.heap.get? b=some {cls:=.none,data:=.fields (#[]++more)}:=hok' b _ z2;have e1:=(hT b hbt).1;rw[e] at e1;cases e1;exact .inr (.inl ⟨(hT b hbt).2.2,rfl,#[],more,rfl,e2⟩)
    exact⟨rfl,⟨at',λb o e=>un.there b o e (by simp)⟩,os,bare⟩
 cases hk:K.lookup a with
 |some o=>
  have e:=KX a o hk;rw[ha] at e
  cases e;refine core (λb=>if b∈ts then some (.tbl #[]) else none) ⟨λb=>?_,λb hb'=>if_pos hb'⟩ (.inr ⟨_,vs.toArray,_,hk,rfl,rfl,rfl,by rw[uG,lenV];exact hl,by simpa using rv⟩) (λb u z=>?_) (λb z=>?_) λz=>absurd (if_neg naT) z
  ·by_cases hbt:b∈ts
   ·exact .inr (.inr ⟨hbt,if_pos hbt⟩)
   ·exact .inl (if_neg hbt)
  ·by_cases hbt:b∈ts
   ·have z':=(if_pos hbt).symm.trans z
    cases z';exact(hT b hbt).1
   ·have z':=(if_neg hbt).symm.trans z
    cases z'
  ·by_cases hbt:b∈ts
   ·exact .inr hbt
   ·exact absurd (if_neg hbt) z
 |none=>
  refine core (λb=>if b=a then some (.frz {cls:=.type "list",data:=.seq vs.toArray} (.lst (ns.map V.int))) else if b∈ts then some (.tbl #[]) else none) ⟨λb=>?_,λb hb'=>?_⟩ (.inl (.inr ⟨{cls:=.type "list",data:=.seq vs.toArray},if_pos rfl⟩)) (λb u z=>?_) (λb z=>?_) λ_=>hk
  ·by_cases hb:b=a
   ·exact .inr (.inl ⟨_,_,if_pos hb⟩)
   ·by_cases hbt:b∈ts
    ·exact .inr (.inr ⟨hbt,(if_neg hb).trans (if_pos hbt)⟩)
    ·exact .inl ((if_neg hb).trans (if_neg hbt))
  ·have hb:¬b=a:=λz=>naT (z▸hb');exact(if_neg hb).trans (if_pos hb')
  ·by_cases hb:b=a
   ·have z':=(if_pos hb).symm.trans z
    cases z';subst hb;exact⟨ha,by rw[pC];exact hl,vs,_,rv,ha⟩
   ·by_cases hbt:b∈ts
    ·have z':=((if_neg hb).trans (if_pos hbt)).symm.trans z
     cases z';exact(hT b hbt).1
    ·have z':=((if_neg hb).trans (if_neg hbt)).symm.trans z
     cases z'
  ·by_cases hb:b=a
   ·exact .inl hb
   ·by_cases hbt:b∈ts
    ·exact .inr hbt
    ·exact absurd ((if_neg hb).trans (if_neg hbt)) z
def walk_ofT{l:EN}{n k:Nat}{q:uB}{loose:List Str}{XP:(Str->Option pB)->Heap->Prop}{YP:uW->Heap->Prop}{d:DefRec}{K:Params->pI}{CX:uW->CXT}{sp:uW->List Addr->Sp}{x:Str}{ds:List Str}
  (hn:l.most=some n)(hn2:n<=sizeLine)(hdf:d.params.defaults=[])(hr:yb k FA)
  (hY:∀(w:uW)(h:Heap),YP w h->(K w.params).In h)
  (hD:∀y,y∈ds->∃e,(recsOf q).find? (λe=>e.name==y)=some e)
  (F:∀(w:uW)(mg:Str->Option pB)(fa:Addr)(h:Heap),(K w.params).In h->h.Ns ul mg->mg d.name=some (.ref fa)->
   ∃(fd:UM)(ts:List Addr),(∀b,b∈ts->(K w.params).lookup b=none/\∃y c,y∈ds/\Dg (K w.params) y=some (c,b))/\(∀(s:pH)(u:pB),Fb s fd ⟨[u],[]⟩ [(x,u)])/\
    ∀base:Heap,(K w.params).In base->base.Ns ul mg->(∀b,b∈ts->base.BuiltinsAt mg b)->zv l.prog w (K w.params) mg base (CX w) k fa fd [x] (sp w ts))
  (hsp:∀(w:uW)(H:Hp)(a:Addr)(ns:List Int)(ts:List Addr),ns.length<=n->WM ts H->SqL (K w.params) H a (ns.map V.int)->sp w ts [.ref a] H (λv _=>v=.bl true) λ_ _ _=>False)
  (hCX:∀(w:uW)(H:Hp)(s:pH)(e:pB)(s':pH),CX w [] H s (λ_ _ _=>False) e s'->False):
  Gv q loose XP YP l.row.toRowW d [] (λf vs=>Gk f vs):=by
 refine Att.attach_call hn hdf λw s₀ s₁ mg mb fa o pm cd doc a vs ns G Y ho hd hcd hmg hobj hints hlen hg=>?_;have KX:=hY w _ Y;obtain⟨fd,ts,ht,hb,hF⟩:=F w mg fa _ KX G.T.g hmg;refine zfk (ts:=ts) KX G.T.g G.T.b G.T.builtins G.T.nolimit hg hobj hints (pz hlen hn2) hr (λb hb'=>?_) G.T.bmain hF hb (λH hO hS=>hsp w H a ns ts hlen hO hS) λH e s'=>hCX w H s₁ e s';obtain⟨hk,y,c,hy,e⟩:=ht b hb';obtain⟨r,hr'⟩:=hD y hy;obtain⟨C,hP⟩:=PySem.W.tab_of G.T KX hr' e;exact⟨hP,hk,(C.tab hP).isCodeTable⟩
open PySem.W (kla_fn kla_obj envX tabObj CodeHd)
structure XF(x y:Str)(sc:Scope):Prop where
 kind:sc.kind=.function
 co:sc.isCoroutine=false
 gen:sc.isGenerator=false
 par:sc.names.lookup x=some .local
 cap:sc.names.lookup y=some .free
 nocell:∀z,z∈sc.names->z.2≠.cell
 free:∀z,z∈sc.names->z.2=.free->z.1=y
noncomputable def qW(P:uB)(w:uW)(K:pI)(mg:Str->Option pB)(base:Heap)(x y:Str)(qual:Str)(sc:Scope)(f:Addr)(cd:pB)(c:Addr)(A:uv)(outer:List Env)(s:pH)(H:Hp):Cx where
 prog:=P
 w:=w
 K:=K
 mg:=mg
 base:=base
 A:=A.deeper (envX qual sc s.heap.objs.size f cd [(y,c)])
 N:=[x,y]
 s₀:=s
 H₀:=H
 env:=envX qual sc s.heap.objs.size f cd [(y,c)]
 outer:=outer
 stack:=envX qual sc s.heap.objs.size f cd [(y,c)]::outer
 ex:=[]
 calm:=true
 fn:=λ_=>false
 pn:=[]
 xe:=λ_ _=>False
def Xt{y z:Str}{c d:Addr}(h:([(y,c)]:List (Str×Addr)).lookup z=some d):z=y/\d=c:=by
 rw[Qo] at h
 by_cases e:z=y
 ·subst e;rw[beq_self_eq_true] at h
  cases h;exact⟨rfl,rfl⟩
 ·rw[beq_eq_false_iff_ne.mpr e] at h
  cases h
def zd2(y:Str)(c:Addr):([(y,c)]:List (Str×Addr)).lookup y=some c:=by rw[Qo,beq_self_eq_true]
theorem inv_lam{P:uB}{w:uW}{K:pI}{mg:Str->Option pB}{base:Heap}{x y qual:Str}{sc:Scope}{f c:Addr}{cd:pB}{A:uv}{s:pH}{H:Hp}{u uy:pB}{v vy:V}{h₁:Heap}{tk:Nat}
  (S:XF x y sc)(hd:A.handled=none)(e0:Env0 P w K mg base A outer s H)(ru:zm v u)(ry:zm vy uy)(hc:s.heap.IsCell c (some uy))(hcn:H c=none)
  (hns:h₁.Ns s.heap.objs.size (λz=>([(x,u)]:List (Str×pB)).reverse.lookup z))(hk:∀b o,s.heap.get? b=some o->h₁.get? b=some o):
  Inv (qW P w K mg base x y qual sc f cd c A outer s H) [] [some v,some vy] H {s with heap:=h₁,toks:=tk}:=by
 have noA:∀b:Addr,b∉(qW P w K mg base x y qual sc f cd c A outer s H).ex:=λb z=>absurd (show b∈([]:List Addr) from z) (by simp)
 refine⟨⟨e0.mod,S.kind,rfl,rfl,pG _,λy1 z1 d h1 h2=>?_,λz hz=>?_,λz d hf _=>?_,λ_=>hd,Ee e0.frames,.inr ⟨rfl,rfl⟩,λb z=>absurd z (noA b),e0.bs,e0.bsz,λb _ _=>noA b,λb z=>absurd z (noA b),e0.funs,e0.frf⟩,
  rfl,e0.bare,Un.kept hk,⟨_,hns,λi z v' h1 h2 h3=>?_⟩,λz d h=>?_,e0.hok.fresh (pG _),λz d h=>?_,λp hp=>absurd (show p∈([]:List (Addr×Obj)) from hp) (by simp),e0.hok.kept hk,rfl⟩
 ·exact(Xt h1).1.trans (Xt h2).1.symm
 ·have hz:sc.names.lookup z=some .cell∨sc.names.lookup z=some .free:=hz;rcases hz with hz|hz
  ·exact absurd rfl (S.nocell _ (Qn hz))
  ·have e:=S.free _ (Qn hz) rfl;have e:z=y:=e;subst e;exact⟨c,zd2 _ _⟩
 ·cases hf
 ·match i,h1,h2 with
  |0,h1,h2=>
   cases h1
   cases h2;refine⟨u,ru,.inl ⟨S.par,?_⟩⟩;show([(x,u)]:List (Str×pB)).reverse.lookup x=some u
   simp
  |1,h1,h2=>
   cases h1
   cases h2;obtain⟨o,ho,hd'⟩:=hc;exact⟨uy,ry,.inr ⟨.inr S.cap,c,zd2 _ _,o,hk _ _ ho,hd'⟩⟩
 ·obtain⟨_,rfl⟩:=Xt h;obtain⟨o,ho,hd'⟩:=hc;exact⟨_,o,hk _ _ ho,hd'⟩
 ·obtain⟨_,rfl⟩:=Xt h;exact hcn
variable{ctv:pB}
section
variable{X:Cx}{pins:List (Addr×Obj)}{σ:St}{H:Hp}{s:pH}
theorem lam_run{A:uv}{k:Nat}{x y name qual:Str}{params:Dn}{body:Expr}{sc:Scope}{c c':Addr}{pm u uy:pB}{v vy:V}{te:TE}{Q:VK}(I:Inv X pins σ H s)
  (e0:Env0 X.prog X.w X.K X.mg X.base A X.stack s H)(hr:yb k A)(S:XF x y sc)(ho:s.heap.get? fa=some (kla_obj name qual params body sc [(y,c)] pm c' ctv))(hcd:s.heap.CodeRec (.ref c') qual)
  (hb:AS (kla_fn name qual params body sc [(y,c)] pm (.ref c') ctv) ⟨[u],[]⟩=pure [(x,u)])(ru:zm v u)(ry:zm vy uy)(hc:s.heap.IsCell c (some uy))(hcn:H c=none)
  (hbody:PE (qW X.prog X.w X.K X.mg X.base x y qual sc fa (.ref c') c A X.stack s H) body te)(q:te [some v,some vy] H Q):
  wpAny (model X.prog X.w) A (call (.ref fa) [u]) (EP X pins σ Q) (λ_ _=>False) s:=by
 refine wpAny_call (EB (R:=CR CX0 X.stack X.prog X.w H s Q E0) ?_ λr s' hq=>?_)
 ·refine PySem.W.kla_callFunE hr.depth ho rfl S.co S.gen rfl hcd ?_;rw[hb];refine pM (Ei S.nocell (λz hz=>?_) (λh₁ hns hsb=>⟨I.nolimit.fresh _ hsb,?_⟩) S.kind)
  ·rw[pZ] at hz;rw[hz];exact S.par
  ·show Ci _ _ (.expr body (envX qual sc s.heap.objs.size fa (.ref c') [(y,c)])) _ _
   have kp:∀d u,s.heap.get? d=some u->h₁.get? d=some u:=λd u z=>hsb.extBut d u (ur (uC z)) (pU _ z);have J:=inv_lam (tk:=s.toks+1) (f:=fa) (qual:=qual) (cd:=.ref c') S hr.hd e0 ru ry hc hcn hns kp;refine PySem.W.kla_codeExpr (UX (hbody [] _ _ H Q J q) (λr s' hs=>?_) λe s' hs=>hs.elim);obtain⟨v',H',J',r',q'⟩:=hs;exact⟨v',H',J'.os,J'.bare,J'.base,J'.hok,r',q'⟩
 ·cases r with
  |error e=>exact hq.elim
  |ok fl=>
   cases fl with
   |ret u=>exact I.after hq
   |next=>exact Um hq
   |brk=>exact Um hq
   |cont=>exact Um hq
end
open PySem.W (kla_fn kla_obj envX tabObj CodeHd)
noncomputable def vM(c:Addr)(q:Str):HO:=.ext λh=>h.CodeRec (.ref c) q
def xh(H:Hp)(P:Addr)(pos:Pos)(q:Str):Prop:=∃ps,H P=some (.tbl ps)/\TriplesOk ps.toList/\(codeAmong pos ps.toList=none∨∃c,codeAmong pos ps.toList=some (.ref c)/\H c=some (vM c q))
def zE(P:Addr)(H H':Hp):Prop:=∀b o,b≠P->H b=some o->H' b=some o
def zE.refl(P:Addr)(H:Hp):zE P H H:=λ_ _ _ h=>h
def zE.of{P:Addr}{H H':Hp}(g:ze H H'):zE P H H':=λb o _ h=>g b o h
def zE.trans{P:Addr}{H H1 H2:Hp}(a:zE P H H1)(b:zE P H1 H2):zE P H H2:=λc o n h=>b c o n (a c o n h)
def xh.same{H H':Hp}{P:Addr}{pos:Pos}{q:Str}(h:xh H P pos q)(g:ze H H'):xh H' P pos q:=by
 obtain⟨ps,e,t,z⟩:=h;refine⟨ps,g _ _ e,t,?_⟩;rcases z with z|⟨c,z,y⟩
 ·exact .inl z
 ·exact .inr ⟨c,z,g _ _ y⟩
section
variable{X:Cx}{pins:List (Addr×Obj)}{σ:St}{H:Hp}{s:pH}
def zig{params:Dn}{body:Expr}{sc:Scope}{pos:Pos}{c0 P:Addr}{clos:List (Str×Addr)}{Q:pB->pH->Prop}(I:Inv X pins σ H s)(hcode:X.env.code=.ref c0)(C:CodeHd X.base c0 P)(hB:X.base.BuiltinsAt X.mg P)
  (hcl:FL sc X.env=pure clos)(hdef:defaultsOf params X.env=([],[]))(ht:xh H P pos (X.env.qual++"<lambda>"))
  (q:∀(fa c':Addr)(ctv:pB)(H':Hp)(s':pH),Inv X pins σ H' s'->zE P H H'->xh H' P pos (X.env.qual++"<lambda>")->s'.heap.get? fa=some (kla_obj "<lambda>" (X.env.qual++"<lambda>") params body sc clos ((X.mg "__name__").getD .none) c' ctv)->
   H' c'=some (vM c' (X.env.qual++"<lambda>"))->xo X pins H' fa->Q (.ref fa) s'):
  wpAny (model X.prog X.w) X.A (eval (.Lambda params body sc pos) X.env) Q X.xe s:=by
 obtain⟨ps,hP,tr,alt⟩:=ht;have hPh:s.heap.get? P=some (tabObj ps):=I.hok P _ hP;have kb:=I.bk;have hg:s.heap.Ns ul X.mg:=I.ok.mod.glob.keeps kb;have Cs:=C.keeps kb;have Bs:s.heap.BuiltinsAt X.mg P:=by
  obtain⟨bm,o,b1,b2,b3,b4,b5,b6⟩:=hB;exact⟨bm,o,b1,b2,b3,b4,kb _ _ b5,b6⟩
 have neG:ul≠P:=λz=>by
  obtain⟨o,es,ep,e,hd,_⟩:=hg;rw[z,hPh] at e;cases e;cases hd
 refine PySem.W.kla_eval hdef ?_;rcases alt with hn|⟨c',hf,hc'⟩
 ·refine PySem.W.kla_makeFunction hcl I.ok.glob hg hcode Cs hPh tr hn neG Bs λc' ctv h' tk hx hge hlt hrec htb=>?_;have neC:∀b u,H b=some u->b≠c':=λb u e z=>by
   rw[z,I.hok.fresh hge] at e;cases e
  have nP:∀b,H b=none->b≠P:=λb n z=>by rw[z,hP] at n;cases n
  have cP:c'≠P:=λz=>by rw[←z,I.hok.fresh hge] at hP;cases hP
  have keep:∀b o,b≠P->s.heap.get? b=some o->(h'.push (kla_obj "<lambda>" (X.env.qual++"<lambda>") params body sc clos ((X.mg "__name__").getD .none) c' ctv)).get? b=some o:=λb o n e=>pU _ (hx b o n e);have hP':=pU (kla_obj "<lambda>" (X.env.qual++"<lambda>") params body sc clos ((X.mg "__name__").getD .none) c' ctv) htb;have upP:∀b u,b≠P->H b=some u->upd (upd H P (.tbl (ps++#[AL pos.line,AL pos.col,.ref c']))) c' (vM c' (X.env.qual++"<lambda>")) b=some u:=λb u n e=>by rw[zh (neC b u e),zh n];exact e
  have up0:upd (upd H P (.tbl (ps++#[AL pos.line,AL pos.col,.ref c']))) c' (vM c' (X.env.qual++"<lambda>")) P=some (.tbl (ps++#[AL pos.line,AL pos.col,.ref c'])):=by rw[zh cP.symm,upd_same]
  have J:Inv X pins σ (upd (upd H P (.tbl (ps++#[AL pos.line,AL pos.col,.ref c']))) c' (vM c' (X.env.qual++"<lambda>"))) {s with heap:=h'.push (kla_obj "<lambda>" (X.env.qual++"<lambda>") params body sc clos ((X.mg "__name__").getD .none) c' ctv),toks:=tk}:=by
   refine I.step (g':=s.gens) (d':=s.drawn) (ch:=[]) (λ_ z=>nomatch z) (λb o _ _ _ e n=>keep b o (nP b n) e) (λb o _ _ _ e n=>⟨o.slots,keep b o (nP b n) e⟩) (λb o _ e n=>?_) (λb o _ e=>?_) (λb xs e=>?_) (λb o u e=>?_) (λb qs e=>?_) (λm hm=>?_) (λb u e=>?_) I.bare
   ·rw[zh (ur (pf (uC e) hge)),zh (nP b n)];exact n
   ·by_cases z:b=P
    ·exact⟨_,z▸hP'⟩
    ·exact⟨o,keep b o z e⟩
   ·exact upP b _ (λz=>by rw[z,hP] at e;cases e) e
   ·exact upP b _ (λz=>by rw[z,hP] at e;cases e) e
   ·by_cases z:b=P
    ·subst z;rw[hP] at e
     cases e;exact⟨_,up0⟩
    ·exact⟨#[],by rw[upP b _ z e];simp⟩
   ·obtain⟨o,es,ep,ho,r⟩:=hm;exact⟨o,es,ep,keep _ o (nP _ I.free) ho,r⟩
   ·by_cases z:b=c'
    ·subst z;rw[upd_same] at e
     cases e;have hr2:=hrec.push (kla_obj "<lambda>" (X.env.qual++"<lambda>") params body sc clos ((X.mg "__name__").getD .none) b ctv);obtain⟨c2,oc,vs,t,e2,hoc,hd,hv⟩:=id hr2
     cases e2;refine⟨hr2,⟨oc,hoc⟩,λh1 h2 ph k=>?_⟩;obtain⟨c3,oc3,vs3,t3,e3,hoc3,hd3,hv3⟩:=ph
     cases e3;exact⟨_,oc3,vs3,t3,rfl,k _ hoc3,hd3,hv3⟩
    ·rw[zh z] at e
     by_cases y:b=P
     ·subst y;rw[upd_same] at e
      cases e;exact hP'
     ·rw[zh y] at e;refine(I.hok b u e).stay (λd v hd hv=>keep d v ?_ hv) (λd hd=>?_) λd xs hd=>?_
      ·rcases hd with rfl|hd
       ·exact y
       ·intro z';rw[z',hP] at hd;cases hd
      ·exact upP d _ (λz'=>by rw[z',hP] at hd;cases hd) hd
      ·exact upP d _ (λz'=>by rw[z',hP] at hd;cases hd) hd
  refine q h'.objs.size c' ctv _ _ J (λb o n e=>upP b o n e) ⟨_,up0,?_,.inr ⟨c',?_,upd_same⟩⟩ (uM _ rfl) upd_same ?_
  ·rw[uu];exact TriplesOk_snoc _ _ _ _ tr
  ·rw[uu];exact codeAmong_snoc _ tr hn
  ·have hsz:s.heap.objs.size<=h'.objs.size:=pz hge (UE hlt);have nf:upd (upd H P (.tbl (ps++#[AL pos.line,AL pos.col,.ref c']))) c' (vM c' (X.env.qual++"<lambda>")) h'.objs.size=none:=by
    rw[zh (gU hlt),zh]
    ·exact I.hok.fresh hsz
    ·intro z;rw[←z,I.hok.fresh hsz] at hP
     cases hP
   exact I.fpOk hsz nf
 ·have hrec:s.heap.CodeRec (.ref c') (X.env.qual++"<lambda>"):=(I.hok c' _ hc').1;refine PySem.W.kla_makeFunctionHit hcl I.ok.glob hg hcode Cs hPh tr hf Bs λctv h' tk hk hsz=>?_;have J:Inv X pins σ H {s with heap:=h'.push {cls:=.type "function",data:=.func (kla_fn "<lambda>" (X.env.qual++"<lambda>") params body sc clos ((X.mg "__name__").getD .none) (.ref c') ctv)},toks:=tk}:=I.kept λb o e=>pU _ (hk b o e);exact q h'.objs.size c' ctv H _ J (.refl P H) ⟨ps,hP,tr,.inr ⟨c',hf,hc'⟩⟩ (uM _ rfl) hc' (I.fpOk hsz (I.hok.fresh hsz))
end
open PySem.W (KasT kas_sort kas_ask kas_item)
section
variable{prog:uB}{w:uW}{A:uv}{E:pB->pH->Prop}{s:pH}{vs ks:List pB}{g:Heap}{a kS:Addr}{e e1:Nat}{f:pB}
def ZH(prog:uB)(w:uW)(A:uv)(a kS:Addr)(e1:Nat)(vs ks:List pB)(P:Be->pH->Prop)(s:pH):Prop:=
 s.heap.get? a=some (uV "list" #[] e1)/\∃(κ:AE)(ans:Nat->Nat->Bool),
  (2<=vs.length->∀Q':AE->pH->Prop,Q' κ s->wpAny (model prog w) A (Ek ks.toArray) Q' (λ_ _=>False) s)/\
  (2<=vs.length->∀i j C,i<vs.length->j<vs.length->C (ans i j) s->kas_ask prog w A κ ks i j C s)/\
  ∀p:Array Nat,Ord vs.length p->(2<=vs.length->p=ansT ans (kas_sort vs.length))->P (.done (.ret .none)) {s with heap:=(s.heap.update kS (uY λ_=>(#[]:Array pB))).update a (uY λ_=>Uv (p.toList.map λi=>vs.getD i UK))}
theorem zc1{st:Qf}{p:Array Nat}{P:Be->pH->Prop}(hs:(arrOf st).map (·.2)=Uv (p.toList.map λi=>vs.getD i UK))(hf:BS st=none)(hz:p.size=vs.length)(h64:vs.length<64)(hkl:ks.length<64)(nak:a≠kS)
  (hk:s.heap.get? kS=some (uV "list" ks.toArray e))(ha:s.heap.get? a=some (uV "list" #[] e1))
  (q:P (.done (.ret .none)) {s with heap:=(s.heap.update kS (uY λ_=>(#[]:Array pB))).update a (uY λ_=>Uv (p.toList.map λi=>vs.getD i UK))}):
  wpAny (model prog w) A (ksk_tail a false e1 (.ref kS) st) P E s:=by
 have ha2:(s.heap.update kS (uY λ_=>(#[]:Array pB))).get? a=some (uV "list" #[] e1):=by rw[UY _ _ _ _ nak];exact ha
 have hsz:(Uv (p.toList.map λi=>vs.getD i UK)).size=vs.length:=by simp[hz]
 unfold ksk_tail;dsimp only;rw[hs];refine pA (An hk rfl ?_ (by rw[uG,DQ];lia) (uL _))
 refine pA (CV ?_);refine pA (DT ha2 rfl ?_);refine pA (An ha2 rfl ?_ (uL _) (by simp only[uD,if_false];rw[hsz,DQ];lia))
 rw[hf];simp only[bne_self_eq_false,uD,if_false];exact pM q
theorem zj0{P:Be->pH->Prop}(hl:ks.length=vs.length)(h64:vs.length<64)(nak:a≠kS)(hk:s.heap.get? kS=some (uV "list" ks.toArray e))(h:ZH prog w A a kS e1 vs ks P s):
  wpAny (model prog w) A (ksk_end a false vs.toArray e1 (.ref kS) ks.toArray) P E s:=by
 obtain⟨ha,κ,ans,hkind,hask,q⟩:=h;have z0:vs.toArray.size=vs.length:=rfl;unfold ksk_end;dsimp only;simp only[uD,if_false]
 by_cases h2:vs.length<2
 ·rw[z0,if_pos h2,if_pos h2,HH];rw[Gc];refine pA (pM ?_);refine zc1 (p:=Uv (pP vs.length)) ?_ rfl (by simp) h64 (by lia) nak hk ha (q _ (by unfold Ord;simp) λz=>absurd h2 (Nat.not_lt.mpr z))
  show(ks.toArray.zip vs.toArray).map (·.2)=_
  rw[show(Uv (pP vs.length)).toList=pP vs.length from rfl,zei]
  apply Dr.mp
  simp[GI,hl]
 ·have h2':2<=vs.length:=by lia
  rw[z0,if_neg h2,if_neg h2];refine pA (UX (hkind h2' (λκ' s'=>κ'=κ/\s'=s) ⟨rfl,rfl⟩) (λκ' s' hs=>?_) λ_ _ z=>z.elim);obtain⟨rfl,rfl⟩:=hs;have run:=yf.wp (R:=Ord vs.length) (Q:=λp s''=>s''=s'/\Ord vs.length p/\p=ansT ans (kas_sort vs.length)) (λi j C hi hj=>hask h2' i j C hi hj) (zcg (by lia)) ⟨rfl,yf.ends (zcg (by lia)),rfl⟩
  refine pA (UX (PySem.W.kat_run (E:=E) (ks:=ks) (vs:=vs) (Q:=λst s''=>∃p:Array Nat,p.size=vs.length/\arrOf st=p.map (kas_item (ks.toArray.zip vs.toArray))/\BS st=none/\s''=s'/\Ord vs.length p/\p=ansT ans (kas_sort vs.length)) hl h2' h64 (λp st s'' b1 b2 b3 b4=>⟨p,b1,b2,b3,b4⟩) run) ?_ λ_ _ z=>z);rintro⟨⟨⟩,st⟩ s'' ⟨p,hp,har,hf,rfl,or,ep⟩;exact zc1 (PySem.W.kat_snds hl har) hf hp h64 (by lia) nak hk ha (q p or λ_=>ep)
structure XJ(prog:uB)(w:uW)(A:uv)(a kS:Addr)(e1:Nat)(f:pB)(vs:List pB)(P:Be->pH->Prop)(J:Nat->List pB->Nat->pH->Prop):Prop where
 store:∀i ks e s,J i ks e s->s.heap.get? kS=some (uV "list" ks.toArray e)/\ks.length=i
 turn:∀i x ks e s,vs[i]?=some x->J i ks e s->wpAny (model prog w) A (call f [x]) (λk s'=>s'.heap.get? kS=some (uV "list" ks.toArray e)/\
  ∀c,(s'.heap.update kS (uY (·.push k))).get? kS=some (uV "list" (ks++[k]).toArray c)->J (i+1) (ks++[k]) c {s' with heap:=s'.heap.update kS (uY (·.push k))}) (λ_ _=>False) s
 fin:∀ks e s,J vs.length ks e s->ZH prog w A a kS e1 vs ks P s
theorem zdw{P:Be->pH->Prop}{J:Nat->List pB->Nat->pH->Prop}{body:pB->PUnit->Sem (ForInStep PUnit)}(R:XJ prog w A a kS e1 f vs P J)
  (hb:∀i x ks e(s:pH),vs[i]?=some x->J i ks e s->wpAny (model prog w) A (body x ⟨⟩) (λr s'=>r=.yield ⟨⟩/\∃k c,J (i+1) (ks++[k]) c s') E s):
  ∀(r:List pB)(i:Nat)(ks:List pB)(e:Nat)(s:pH),i<=vs.length->vs.drop i=r->J i ks e s->wpAny (model prog w) A (forIn r He body) (λ_ s'=>∃ks e,J vs.length ks e s') E s
 |[],i,ks,e,s,hi,hr,h=>by
  rw[Go];have e0:i=vs.length:=Nat.le_antisymm hi (El.mp hr);subst e0;exact pM ⟨ks,e,h⟩
 |x::r,i,ks,e,s,hi,hr,h=>by
  rw[EM];have hx:vs[i]?=some x:=by
   have z:=congrArg (λl=>l[0]?) hr
   simpa[gf] using z
  have hr2:vs.drop (i+1)=r:=by
   have z:=congrArg (List.drop 1) hr
   simpa[BB,HK] using z
  refine pA (UX (hb i x ks e s hx h) (λq s' hq=>?_) λ_ _ z=>z);obtain⟨rfl,k,c,h2⟩:=hq;exact zdw R hb r (i+1) (ks++[k]) c s' (pF.mp hx).1 hr2 h2
variable{P:Be->pH->Prop}
theorem zg4{J:Nat->List pB->Nat->pH->Prop}(R:XJ prog w A a kS e1 f vs P J)(h64:vs.length<64)(nak:a≠kS)(h0:J 0 [] 0 s):
  wpAny (model prog w) A (ksk_rest a f false vs.toArray e1 (.ref kS)) P E s:=by
 unfold ksk_rest;refine pA (gC ?_);rw[List.forIn_toArray];refine pA (UX (zdw R (λi x ks e s' hx hJ=>?_) vs 0 [] 0 s (uL _) Bo h0) (λ_ s' hd=>?_) λ_ _ z=>z)
 ·have hi:=(pF.mp hx).1;have hl:=(R.store i ks e s' hJ).2;refine pA (Dh (UX (R.turn i x ks e s' hx hJ) (λk s'' hk=>?_) λ_ _ hF=>hF.elim));obtain⟨hk1,hk2⟩:=hk;have pk:(Uv ks).push k=Uv (ks++[k]):=by rw[List.push_toArray]
  obtain⟨c2,hc2⟩:∃c2,(s''.heap.update kS (uY (·.push k))).get? kS=some (uV "list" (Uv (ks++[k])) c2):=⟨_,by rw[←pk];exact BX hk1 (·.push k)⟩
  try dsimp only
  refine pA (An hk1 rfl ?_ (by rw[uG,DQ];lia) (pz (Qi (Array.size_push ..)) (by rw[uG,DQ];lia)))
  exact pM ⟨rfl,k,c2,hk2 c2 hc2⟩
 ·obtain⟨ks,e,hJ⟩:=hd;obtain⟨hk,hl⟩:=R.store _ _ _ _ hJ
  try dsimp only
  refine pA (Uh hk rfl ?_);exact zj0 hl h64 nak hk (R.fin ks e s' hJ)
def zih{n:Nat}(hg:yC g s.heap)(ga:g.objs.size<=a)(ho:s.heap.get? a=some (uV "list" vs.toArray n))(h64:vs.length<64)
  (h:∀kS e1 h',yC g h'->a<kS->h'.get? a=some (uV "list" #[] e1)->h'.get? kS=some (uV "list" #[] 0)->∃J,XJ prog w A a kS e1 f vs P J/\J 0 [] 0 {s with heap:=h'}):
  wpAny (model prog w) A (ksk_tree a f false) P E s:=by
 have zl:vs.length<=sizeLine:=pz (UE h64) (by decide)
 have k1:yC g (s.heap.update a (uY λ_=>(#[]:Array pB))):=hg.upd ga;obtain⟨c1,o1⟩:∃c1,(s.heap.update a (uY λ_=>(#[]:Array pB))).get? a=some (uV "list" #[] c1):=⟨_,BX ho _⟩;have k3:=(k1.push (uV "tuple" vs.toArray 0)).push (uV "list" #[] 0);have o3:=pU (uV "list" #[] 0) (pU (uV "tuple" vs.toArray 0) o1);have lt:a<((s.heap.update a (uY λ_=>(#[]:Array pB))).push (uV "tuple" vs.toArray 0)).objs.size:=uC (pU _ o1);obtain⟨J,R,h0⟩:=h _ c1 _ k3 lt o3 (uM _ rfl);unfold ksk_tree;refine pA (Uh ho rfl (pA (An ho rfl (pA (DT o1 rfl (pA (wpAny_newTuple (pA (CP (Ue ?_) (uL _))) zl)))) zl (uL _))));exact zg4 (s:={s with heap:=((s.heap.update a (uY λ_=>(#[]:Array pB))).push (uV "tuple" vs.toArray 0)).push (uV "list" #[] 0)}) R h64 (ur lt) h0
def zhw{Q:pB->pH->Prop}(hl:s.heap.IsList l vs.toArray)(h64:vs.length<64)
  (h:∀D kS e1 h',D=s.heap.objs.size+1->yC s.heap h'->D<kS->h'.get? D=some (uV "list" #[] e1)->h'.get? kS=some (uV "list" #[] 0)->∃J,XJ prog w A.in1.in1 D kS e1 (.ref fa) vs (λr s'=>r=.done (.ret .none)->Q (.ref D) s') J/\J 0 [] 0 {s with heap:=h'}):
  wpAny (model prog w) A (call (.builtin "sorted") [.ref l] [(Ui "key",.ref fa)]) Q E s:=by
 have zl:vs.length<=sizeLine:=pz (UE h64) (by decide)
 have k0:yC s.heap s.heap:=λ_ _ e=>e;have k2:=((k0.push (uV "list" #[] 0)).upd (a:=s.heap.objs.size) (f:=uY (·++vs.toArray)) (pG _)).push (uV "list" vs.toArray 0);have z2:((s.heap.push (uV "list" #[] 0)).update s.heap.objs.size (uY (·++vs.toArray))).objs.size=s.heap.objs.size+1:=by
  rw[GJ,size_push']
 have o2:(((s.heap.push (uV "list" #[] 0)).update s.heap.objs.size (uY (·++vs.toArray))).push (uV "list" vs.toArray 0)).get? (s.heap.objs.size+1)=some (uV "list" vs.toArray 0):=
  z2▸uM _ rfl
 refine call_function_entry_kw kind_sorted plain_sorted entry_sorted (ksk_s1 _ _) ?_;unfold BW.«sorted»;refine pA (m:=checkCount _ _ _ _) (pM (pA (collect_list hl (pA (CP ?_ zl)) zl)));rw[show(({s with heap:=(s.heap.push (uV "list" #[] 0)).update s.heap.objs.size (uY (·++vs.toArray))}:pH).heap.objs.size)=s.heap.objs.size+1 from z2];refine pA (Ue (wpAny_call_entry_kw slot_list_sort ⟨_,o2,rfl⟩ Gd ?body (ksk_l1 _ _)))
 case body=>
  show wpAny (model prog w) A.in1.in1 (BW.«list.sort» ⟨[.ref (s.heap.objs.size+1)],[(Ui "key",.ref fa)]⟩) _ _ _
  rw[ksk_t1];refine UX (zih (s:={s with heap:=((s.heap.push (uV "list" #[] 0)).update s.heap.objs.size (uY (·++vs.toArray))).push (uV "list" vs.toArray 0)}) (P:=λr s'=>r=.done (.ret .none)/\(r=.done (.ret .none)->Q (.ref (s.heap.objs.size+1)) s')) k2 (CU _) o2 h64 λkS e1 h' kk lt ha hk=>?_) (λr s' hq=>?_) λ_ _ z=>z
  ·obtain⟨J,R,h0⟩:=h _ kS e1 h' rfl kk lt ha hk;refine⟨J,⟨R.store,R.turn,λks e s' hJ=>?_⟩,h0⟩;obtain⟨f1,κ,ans,f2,f3,f4⟩:=R.fin ks e s' hJ;exact⟨f1,κ,ans,f2,f3,λp or ep=>⟨rfl,f4 p or ep⟩⟩
  ·obtain⟨rfl,hq⟩:=hq;exact⟨_,rfl,pM ⟨_,rfl,hq rfl⟩⟩
end
open PySem.W (kla_fn kla_obj envX tabObj CodeHd KasT kas_sort kas_ask)
open PySem.W (KatTups) in
theorem ktupsI{h:Heap}:∀vs:List pB,(∀v,v∈vs->∃a:Int×Int,yc h v [a.1,a.2])->∃fs,fs.length=vs.length/\KatTups h vs fs/\∀f,f∈fs->∃n t,f=.int n t
 |[],_=>⟨[],rfl,.nil,λf hf=>by cases hf⟩
 |v::vs,hv=>by
  obtain⟨fs,l,t,r⟩:=ktupsI vs λu hu=>hv u (pE _ hu);obtain⟨a,p,its,n,dd,sl,rfl,o,i⟩:=hv v (pj ..);obtain⟨u1,t1,e⟩:∃u1 t,its[0]?=some u1/\u1=.int a.1 t:=by
   rw[←Ap]
   revert i
   generalize its.toList=l;intro i
   cases i with
   |cons k t r=>exact⟨_,t,rfl,rfl⟩
  refine⟨u1::fs,by simp[l],.cons o rfl rfl e.1 t,λf hf=>?_⟩
  rcases pS.mp hf with rfl|hf
  ·exact⟨_,t1,e.2⟩
  ·exact r f hf
variable{xs:List V}{h':Heap}
section
variable{X:Cx}{pins:List (Addr×Obj)}{σ:St}{H:Hp}{s:pH}
def Inv.track{D:Addr}{its:List pB}{n:Nat}(I:Inv X pins σ H s)(hf:xo X pins H D)(k:∀b o,b≠D->s.heap.get? b=some o->h'.get? b=some o)
  (hz:xs.length<=sizeLine)(r:zn xs its)(ho:h'.get? D=some {cls:=.type "list",data:=.seq its.toArray n}):Inv X pins σ (upd H D (.lst xs)) {s with heap:=h',toks:=t'}:=by
 obtain⟨f0,f1,f2,f3,f4,f5⟩:=hf;have nD:∀b u,H b=some u->b≠D:=λb u e z=>by rw[z,f0] at e;cases e
 refine I.step (g':=s.gens) (d':=s.drawn) (ch:=[D]) (λb hb=>?_) (λb o _ _ hc e _=>k b o (λz=>hc (by simp[z])) e) (λb o _ _ hc e _=>⟨o.slots,k b o (λz=>hc (by simp[z])) e⟩) (λb o hc _ n=>by rw[zh λz=>hc (by simp[z])];exact n)
  (λb o hc e=>⟨o,k b o (λz=>hc (by simp[z])) e⟩) (λb xs e=>by rw[zh (nD b _ e)];exact e) (λb o u e=>by rw[zh (nD b _ e)];exact e) (λb ps e=>⟨#[],by rw[zh (nD b _ e),e];simp⟩) (λm hm=>?_) (λb u e=>?_) I.bare
 ·have e:b=D:=by simpa using hb
  subst e;exact⟨f3,f1,f4,f5⟩
 ·obtain⟨o,es,ep,ho,r⟩:=hm;exact⟨o,es,ep,k _ o f1.symm ho,r⟩
 ·by_cases z:b=D
  ·subst z;rw[upd_same] at e
   cases e;exact⟨hz,its,n,r,ho⟩
  ·rw[zh z] at e;refine(I.hok b u e).stay (λc v hc q=>k c v ?_ q) (λc q=>by rw[zh (nD c _ q)];exact q) λc xs q=>by rw[zh (nD c _ q)];exact q
   rcases hc with rfl|hc
   ·exact z
   ·exact nD c _ hc
def cell_of{y:Str}{c:Addr}{i:Nat}{vy:V}(I:Inv X pins σ H s)(hN:X.N[i]?=some y)(hσ:σ[i]?=some (some vy))(hk:X.env.scope.names.lookup y=some .cell)(hc:X.env.cells.lookup y=some c):∃u,zm vy u/\s.heap.IsCell c (some u):=by
 obtain⟨m,hn,hl⟩:=I.loc;obtain⟨u,r,l⟩:=hl i y vy hN hσ (.inr (.inl hk));refine⟨u,r,?_⟩;rcases l with⟨l,_⟩|⟨_,c',e,z⟩
 ·have l:X.env.scope.names.lookup y=some .local:=l;rw[hk] at l
  cases l
 ·rw[hc] at e
  cases e;exact z
end
open PySem.W (kla_fn kla_obj envX tabObj CodeHd KasT kas_sort kas_ask)
abbrev KPT:=Hp->List V->(Nat->Nat->Bool)->Prop
def V9(X:Cx)(KP:KPT):Prop:=∀(pins:List (Addr×Obj))(σ:St)(H:Hp)(s:pH)(zs:List V)(ks:List pB)(ans:Nat->Nat->Bool),Inv X pins σ H s->zn zs ks->KP H zs ans->∃κ:AE,
 (2<=ks.length->∀Q':AE->pH->Prop,Q' κ s->wpAny (model X.prog X.w) X.A.in1.in1 (Ek ks.toArray) Q' (λ_ _=>False) s)/\(2<=ks.length->∀i j C,i<ks.length->j<ks.length->C (ans i j) s->kas_ask X.prog X.w X.A.in1.in1 κ ks i j C s)
structure KeyR(KP:KPT)(te:TE)(vy:V)(c':Addr)(q:Str)(vs:List V)(H:Hp)(Q:VK)(Pv:Nat->List V->Hp->Prop):Prop where
 start:Pv 0 [] H
 code:∀i zs H',Pv i zs H'->H' c'=some (vM c' q)
 len:∀i zs H',Pv i zs H'->zs.length=i
 turn:∀i zs H' v,vs[i]?=some v->Pv i zs H'->te [some v,some vy] H' λk H''=>Pv (i+1) (zs++[k]) H''
 fin:∀zs H',Pv vs.length zs H'->∃ans,KP H' zs ans/\∀D p,H' D=none->Ord vs.length p->(2<=vs.length->p=ansT ans (kas_sort vs.length))->Q (.ref D) (upd H' D (.lst (p.toList.map λi=>vs.getD i .non)))
section
variable{X:Cx}{pins:List (Addr×Obj)}{σ:St}{H:Hp}{s:pH}
def vals_get?{us:List pB}(r:zn xs us){i:Nat}{u:pB}(h:us[i]?=some u):∃v,xs[i]?=some v/\zm v u:=by
 have hi:i<us.length:=(pF.mp h).1;have hx:i<xs.length:=by rw[r.length];exact hi
 refine⟨xs[i],pJ hx,?_⟩;have z:=Xh r i hx;have e1:xs.getD i .non=xs[i]:=by simp[hx]
 have e2:us.getD i UK=u:=by rw[pD,h];rfl
 rw[e1,e2] at z;exact z
theorem zcv:∀{xs:List V}{us:List pB}{v:V}{u:pB},zn xs us->zm v u->zn (xs++[v]) (us++[u])
 |_,_,_,_,.nil,r=>.cons r .nil
 |_,_,_,_,.cons a t,r=>.cons a (zcv t r)
theorem zgz{KP:KPT}{k i0:Nat}{x y ql:Str}{params:Dn}{body:Expr}{sc:Scope}{c c':Addr}{pm:pB}{vy:V}{vs:List V}{te:TE}{Q:VK}{Pv:Nat->List V->Hp->Prop}(I:Inv X pins σ H s)(hKP:V9 X KP)(hr:yb (k+2) X.A)(S:XF x y sc)
  (hN:X.N[i0]?=some y)(hσ:σ[i0]?=some (some vy))(hk:X.env.scope.names.lookup y=some .cell)(hcl:X.env.cells.lookup y=some c)(hfa:xo X pins H fa)(hfo:s.heap.get? fa=some (kla_obj "<lambda>" ql params body sc [(y,c)] pm c' ctv))
  (hbind:∀u,AS (kla_fn "<lambda>" ql params body sc [(y,c)] pm (.ref c') ctv) ⟨[u],[]⟩=pure [(x,u)])(hbody:∀(A:uv)(s:pH)(H:Hp),A.units+64<cLine->PE (qW X.prog X.w X.K X.mg X.base x y ql sc fa (.ref c') c A X.stack s H) body te)
  (hl:H l=some (.lst vs))(h64:vs.length<64)(R:KeyR KP te vy c' ql vs H Q Pv):wpAny (model X.prog X.w) X.A (call (.builtin "sorted") [.ref l] [(Ui "key",.ref fa)]) (EP X pins σ Q) X.xe s:=by
 obtain⟨its,rv,pl,hz⟩:=I.list (.of hl);have len:vs.length=its.length:=rv.length;have un:=hr.un;refine zhw (vs:=its) pl.isList (by lia) λD kS e1 h' eD kk lt hD hkS=>?_
 have sD:s.heap.objs.size<=D:=by lia
 have sK:s.heap.objs.size<=kS:=by lia
 have fD:=I.fpOk sD (I.hok.fresh sD);have fK:=I.fpOk sK (I.hok.fresh sK);have faD:fa≠D:=ur (pf (uC hfo) sD);have faK:fa≠kS:=ur (pf (uC hfo) sK);have DK:D≠kS:=ur lt;have nseq:∀(b:Array pB)(m:Nat)(v:Option pB),(uV "list" b m).data≠.cell v:=λb m v z=>nomatch (show Data.seq b m=HF v from z);have nfun:∀v,(kla_obj "<lambda>" ql params body sc [(y,c)] pm c' ctv).data≠.cell v:=λv z=>nomatch (show Data.func _=HF v from z);have pin3:∀{ks:List pB}{e:Nat}{H':Hp}{s':pH},Inv X pins σ H' s'->H' fa=none->H' D=none->H' kS=none->s'.heap.get? fa=some (kla_obj "<lambda>" ql params body sc [(y,c)] pm c' ctv)->s'.heap.get? D=some (uV "list" #[] e1)->s'.heap.get? kS=some (uV "list" ks.toArray e)->
   Inv X (pins++[(fa,kla_obj "<lambda>" ql params body sc [(y,c)] pm c' ctv),(D,uV "list" #[] e1),(kS,uV "list" ks.toArray e)]) σ H' s':=λ{ks e H' s'} J n1 n2 n3 o1 o2 o3=>by
  refine J.pins_of λp hp=>?_;rcases pd.mp hp with hp|hp
  ·exact J.pin p (pY _ hp)
  ·simp only[pS,Qe,or_false] at hp;rcases hp with rfl|rfl|rfl
   ·exact⟨o1,n1,hfa.2.1,hfa.2.2.1,nfun⟩
   ·exact⟨o2,n2,fD.2.1,fD.2.2.1,nseq _ _⟩
   ·exact⟨o3,n3,fK.2.1,fK.2.2.1,nseq _ _⟩
 have of3:∀{ks:List pB}{e:Nat}{H':Hp}{s':pH},Inv X (pins++[(fa,kla_obj "<lambda>" ql params body sc [(y,c)] pm c' ctv),(D,uV "list" #[] e1),(kS,uV "list" ks.toArray e)]) σ H' s'->
   Inv X pins σ H' s'/\(H' fa=none/\H' D=none/\H' kS=none)/\s'.heap.get? fa=some (kla_obj "<lambda>" ql params body sc [(y,c)] pm c' ctv)/\s'.heap.get? D=some (uV "list" #[] e1)/\s'.heap.get? kS=some (uV "list" ks.toArray e):=λ{ks e H' s'} J=>by
  have p1:=J.pin (fa,kla_obj "<lambda>" ql params body sc [(y,c)] pm c' ctv) (pY _ (pY _ (by simp)))
  have p2:=J.pin (D,uV "list" #[] e1) (pY _ (pY _ (by simp)))
  have p3:=J.pin (kS,uV "list" ks.toArray e) (pY _ (pY _ (by simp)))
  exact⟨J.unpinned,⟨p1.2.1,p2.2.1,p3.2.1⟩,p1.1,p2.1,p3.1⟩
 refine⟨λi ks e s'=>∃H' zs,Inv X (pins++[(fa,kla_obj "<lambda>" ql params body sc [(y,c)] pm c' ctv),(D,uV "list" #[] e1),(kS,uV "list" ks.toArray e)]) σ H' s'/\zn zs ks/\Pv i zs H',⟨λi ks e s' hJ=>?_,λi u ks e s' hu hJ=>?_,λks e s' hJ=>?_⟩,H,[],?_,.nil,R.start⟩
 ·obtain⟨H',zs,J,r,p⟩:=hJ;exact⟨(of3 J).2.2.2.2,by rw[←r.length];exact R.len _ _ _ p⟩
 ·obtain⟨H',zs,J,r,p⟩:=hJ;obtain⟨J0,⟨n1,n2,n3⟩,o1,o2,o3⟩:=of3 J;obtain⟨v,hv,ru⟩:=vals_get? rv hu;obtain⟨uy,ry,hcell⟩:=cell_of J hN hσ hk hcl;have hcd:s'.heap.CodeRec (.ref c') ql:=(J.hok c' _ (R.code _ _ _ p)).1;refine UX (lam_run J J.env0.in1.in1 (hr.in1.in1) S o1 hcd (hbind u) ru ry hcell (J.freeC _ _ hcl) (hbody _ s' H' (by show X.A.units+1+1+64<cLine;lia)) (R.turn i zs H' v hv p)) (λu' s'' hs=>?_) λ_ _ z=>z
  obtain⟨kv,H'',J',rk,p'⟩:=hs;obtain⟨J1,⟨m1,m2,m3⟩,q1,q2,q3⟩:=of3 J';refine⟨q3,λc2 hc2=>⟨H'',zs++[kv],?_,zcv r rk,p'⟩⟩;have J2:Inv X pins σ H'' {s'' with heap:=s''.heap.update kS (uY (·.push u')),toks:=s''.toks}:=J1.turned (it:=kS) (λb o hb e=>by rw[UY _ _ _ _ hb];exact e) m3 fK.2.1 fK.2.2.2.1 fK.2.2.2.2.1 fK.2.2.2.2.2
  exact pin3 J2 m1 m2 m3 (by show(s''.heap.update kS _).get? fa=_;rw[UY _ _ _ _ faK];exact q1) (by show(s''.heap.update kS _).get? D=_;rw[UY _ _ _ _ DK];exact q2) hc2
 ·obtain⟨H',zs,J,r,p⟩:=hJ;obtain⟨J0,⟨n1,n2,n3⟩,o1,o2,o3⟩:=of3 J;rw[←len] at p;obtain⟨ans,ok,q⟩:=R.fin zs H' p;have zl:=R.len _ _ _ p;have kl:ks.length=its.length:=by rw[←r.length,zl,len]
  obtain⟨κ,k1,k2⟩:=hKP _ _ _ _ _ _ _ J0 r ok;rw[kl] at k1 k2;refine⟨o2,κ,ans,k1,k2,λpm' or ep _=>?_⟩
  ·have J2:Inv X pins σ H' {s' with heap:=s'.heap.update kS (uY λ_=>(#[]:Array pB)),toks:=s'.toks}:=J0.turned (it:=kS) (λb o hb e=>by rw[UY _ _ _ _ hb];exact e) n3 fK.2.1 fK.2.2.2.1 fK.2.2.2.2.1 fK.2.2.2.2.2
   have o4:(s'.heap.update kS (uY λ_=>(#[]:Array pB))).get? D=some (uV "list" #[] e1):=by rw[UY _ _ _ _ DK];exact o2
   rw[←len] at or ep;have lo:pm'.toList.length=vs.length:=by rw[or.length_eq,uS]
   obtain⟨c5,o5⟩:∃c5,((s'.heap.update kS (uY λ_=>(#[]:Array pB))).update D (uY λ_=>Uv (pm'.toList.map λi=>its.getD i UK))).get? D=some (uV "list" (Uv (pm'.toList.map λi=>its.getD i UK)) c5):=⟨_,BX o4 _⟩;refine⟨.ref D,upd H' D (.lst (pm'.toList.map λi=>vs.getD i .non)),J2.track (t':=s'.toks) ⟨n2,fD.2⟩ (λb o hb e=>by rw[UY _ _ _ _ hb];exact e) ?_ (zc5 _ λi hi=>Xh rv i ?_) o5,rfl,q D pm' n2 or ep⟩
   ·rw[pC,lo];exact pz (UE h64) (by decide)
   ·exact pQ.mp (or.mem_iff.mp hi)
 ·have J0:Inv X pins σ H {s with heap:=h',toks:=s.toks}:=I.kept kk;exact pin3 J0 hfa.1 (I.hok.fresh sD) (I.hok.fresh sK) (kk _ _ hfo) hD hkS
end
open PySem.W (kla_fn kla_obj envX tabObj CodeHd KasT kas_sort kas_ask)
section
variable{X:Cx}{p pos lpos kpos:Pos}{e body:Expr}{params:Dn}{sc:Scope}{x y:Str}{c c0 P:Addr}{i0 k:Nat}{te tl:TE}
def Zw(KP:KPT)(P:Addr)(lpos:Pos)(ql:Str)(i0:Nat)(te tl:TE):TE:=λσ H Q=>zU tl xy σ H λxs H1=>∃l vs vy,xs=[.ref l]/\H1 l=some (.lst vs)/\vs.length<64/\σ[i0]?=some (some vy)/\xh H1 P lpos ql/\
 ∀c' H2,zE P H1 H2->xh H2 P lpos ql->H2 c'=some (vM c' ql)->∃Pv,KeyR KP te vy c' ql vs H2 Q Pv
def zfy{KP:KPT}(hKP:V9 X KP)(hr:yb (k+2) X.A)(hg:Gl X "sorted")(hm:X.mg "sorted"=none)(ha:PA X [e] (zU tl xy))(S:XF x y sc)(hN:X.N[i0]?=some y)(hk:X.env.scope.names.lookup y=some .cell)(hcl:X.env.cells.lookup y=some c)
  (hclos:FL sc X.env=pure [(y,c)])(hdef:defaultsOf params X.env=([],[]))(hcode:X.env.code=.ref c0)(C:CodeHd X.base c0 P)(hB:X.base.BuiltinsAt X.mg P)
  (hbind:∀(pm cd ctv u:pB),AS (kla_fn "<lambda>" (X.env.qual++"<lambda>") params body sc [(y,c)] pm cd ctv) ⟨[u],[]⟩=pure [(x,u)])
  (hbody:∀(fa c':Addr)(A:uv)(s:pH)(H:Hp),A.units+64<cLine->PE (qW X.prog X.w X.K X.mg X.base x y (X.env.qual++"<lambda>") sc fa (.ref c') c A X.stack s H) body te)
  (he:Ao pos (QP [e] X.env)=(false,eval e X.env)::Ao pos (QP [] X.env):=by rfl)(hpl:(Ao pos (QP [e] X.env)).any (·.1)=false:=by rfl):
  PE X (.Call (.Name "sorted" p) [e] [⟨some "key",.Lambda params body sc lpos,kpos⟩] pos) (Zw KP P lpos (X.env.qual++"<lambda>") i0 te tl):=by
 intro pins s σ H Q I h;refine Af (vR I hg hm zak ?_);refine callWith_kw (thn (ha pos pins s σ H _ I h) λus s1⟨vs',H1,I1,r1,q1⟩=>?_) he hpl rfl rfl;obtain⟨l,vs,vy,ev,hl,h64,hσ,ht,q⟩:=q1;subst ev;obtain⟨u,rfl,ru⟩:=vals1 r1
 cases ru;refine kws_cons (zig (C:=C) I1 hcode hB hclos hdef ht λfa c' ctv H2 s2 I2 st lt hfo hc' ffa=>kws_nil ?_);obtain⟨Pv,R⟩:=q c' H2 st lt hc';have nl:l≠P:=λz=>by
  obtain⟨ps,hP,_⟩:=ht;rw[z,hP] at hl
  cases hl
 exact zgz I2 hKP hr S hN hσ hk hcl ffa hfo (λu=>hbind _ _ _ u) (hbody fa c') (st l _ nl hl) h64 R
end
section
variable{κ:Type}[DecidableEq κ]
noncomputable def zr(kvs:List (κ×V))(k:κ):Option V:=(kvs.find? λkv=>decide (kv.1=k)).map (·.2)
noncomputable def putK(kvs:List (κ×V))(k:κ)(v:V):List (κ×V):=
 if(kvs.any λkv=>decide (kv.1=k))=true then kvs.map (λkv=>if kv.1=k then(kv.1,v) else kv) else kvs++[(k,v)]
def we{p:κ×V}{r:List (κ×V)}{k:κ}(e:p.1=k):zr (p::r) k=some p.2:=by simp[zr,UT,e]
def ww{p:κ×V}{r:List (κ×V)}{k:κ}(e:¬p.1=k):zr (p::r) k=zr r k:=by simp[zr,UT,e]
theorem qF(k:κ):∀kvs:List (κ×V),(kvs.any λkv=>decide (kv.1=k))=(zr kvs k).isSome
 |[]=>rfl
 |p::r=>by
  rw[Di]
  by_cases e:p.1=k
  ·simp only[we e,decide_eq_true e,HL,Option.isSome_some]
  ·rw[ww e,decide_eq_false e,Gw];exact qF k r
theorem Yx(k j:κ)(y:V):∀kvs:List (κ×V),zr (kvs.map λkv=>if kv.1=k then(kv.1,y) else kv) j=(zr kvs j).map λx=>if j=k then y else x
 |[]=>rfl
 |p::r=>by
  have ih:=Yx k j y r;rw[pR]
  by_cases h:p.1=k
  ·rw[if_pos h]
   by_cases e:p.1=j
   ·rw[we (p:=(p.1,y)) e,we e,Ug,if_pos (e.symm.trans h)]
   ·rw[ww (p:=(p.1,y)) e,ww e,ih]
  ·rw[if_neg h]
   by_cases e:p.1=j
   ·rw[we (p:=p) e,we e,Ug,if_neg (λz=>h (e.trans z))]
   ·rw[ww (p:=p) e,ww e,ih]
theorem Za(k j:κ)(y:V):∀kvs:List (κ×V),zr kvs k=none->zr (kvs++[(k,y)]) j=if j=k then some y else zr kvs j
 |[],_=>by
  by_cases e:k=j
  ·rw[if_pos e.symm];exact we (p:=(k,y)) e
  ·rw[if_neg (λz=>e z.symm)];exact ww (p:=(k,y)) e
 |p::r,hn=>by
  rw[AV];have hk:¬p.1=k:=λz=>by rw[we z] at hn;cases hn
  rw[ww hk] at hn;have ih:=Za k j y r hn
  by_cases e:p.1=j
  ·rw[we e,we e,if_neg (λz=>hk (e.trans z))]
  ·rw[ww e,ww e,ih]
theorem vf(kvs:List (κ×V))(k j:κ)(y:V):zr (putK kvs k y) j=if j=k then some y else zr kvs j:=by
 unfold putK
 by_cases a:(kvs.any λkv=>decide (kv.1=k))=true
 ·rw[if_pos a,Yx];rw[qF] at a
  by_cases e:j=k
  ·obtain⟨x,hx⟩:=DY.mp a;rw[if_pos e,e,hx,Ug,if_pos rfl]
  ·rw[if_neg e]
   cases zr kvs j with
   |none=>rfl
   |some x=>rw[Ug,if_neg e]
 ·rw[if_neg a];refine Za k j y kvs ?_;rw[qF] at a
  cases q:zr kvs k with
  |none=>rfl
  |some x=>rw[q] at a;exact(a rfl).elim
theorem vk(kvs:List (κ×V))(k:κ)(v:V):(putK kvs k v).length<=kvs.length+1:=by
 unfold putK
 split
 ·rw[pC];lia
 ·rw[pK,uN,Uj];lia
def zab{kvs:List (κ×V)}{k:κ}(v:V)(h:zr kvs k=none):putK kvs k v=kvs++[(k,v)]:=by
 unfold putK;rw[qF,h];exact if_neg (by decide)
variable{u:Option pB}
theorem xQ.isSome_eq{o:Option V}(r:xQ o u):o.isSome=u.isSome:=by
 cases o with
 |none=>cases u with
  |none=>rfl
  |some _=>exact(show False from r).elim
 |some _=>cases u with
  |none=>exact(show False from r).elim
  |some _=>rfl
theorem xQ.getD{o:Option V}{d:V}{d':pB}(r:xQ o u)(rd:zm d d'):zm (o.getD d) (u.getD d'):=by
 cases o with
 |none=>cases u with
  |none=>exact rd
  |some _=>exact(show False from r).elim
 |some _=>cases u with
  |none=>exact(show False from r).elim
  |some _=>exact r
theorem KV.val{kvs:List (κ×V)}{vs:List (κ×pB)}(r:KV kvs vs)(k:κ):xQ (zr kvs k) (FB vs k):=by
 unfold KV at r
 induction r with
 |nil=>exact BC
 |@cons p q ps qs h t ih=>
  obtain⟨h1,h2⟩:=h
  by_cases e:p.1=k
  ·have e':q.1=k:=h1.symm.trans e;have b:FB (q::qs) k=some q.2:=by simp[FB,UT,e']
   rw[we e,b];exact h2
  ·have e':¬q.1=k:=λz=>e (h1.trans z);have b:FB (q::qs) k=FB qs k:=by simp[FB,UT,e']
   rw[ww e,b];exact ih
theorem KV.any{kvs:List (κ×V)}{vs:List (κ×pB)}(r:KV kvs vs)(k:κ):(kvs.any λkv=>decide (kv.1=k))=vs.any λkv=>decide (kv.1=k):=by
 unfold KV at r
 induction r with
 |nil=>rfl
 |cons h t ih=>rw[Di,Di,ih,h.1]
variable{u:pB}
theorem KV.repl{kvs:List (κ×V)}{vs:List (κ×pB)}(r:KV kvs vs)(k:κ){y:V}(ry:zm y u):
  KV (kvs.map λkv=>if kv.1=k then(kv.1,y) else kv) (vs.map λkv=>if kv.1=k then(kv.1,u) else kv):=by
 unfold KV at r⊢
 induction r with
 |nil=>exact .nil
 |@cons p q ps qs h t ih=>
  rw[pR,pR];refine .cons ?_ ih;obtain⟨h1,h2⟩:=h
  by_cases e:p.1=k
  ·rw[if_pos e,if_pos (h1.symm.trans e)];exact⟨h1,ry⟩
  ·rw[if_neg e,if_neg (λz=>e (h1.trans z))];exact⟨h1,h2⟩
def KV.put{kvs:List (κ×V)}{vs:List (κ×pB)}(r:KV kvs vs)(k:κ){y:V}(ry:zm y u):KV (putK kvs k y) (stored vs k u):=by
 unfold putK stored;rw[r.any k]
 by_cases e:(vs.any λkv=>decide (kv.1=k))=true
 ·rw[if_pos e,if_pos e];exact r.repl k ry
 ·rw[if_neg e,if_neg e];exact GX r ⟨rfl,ry⟩
def KV.length{kvs:List (κ×V)}{vs:List (κ×pB)}(r:KV kvs vs):kvs.length=vs.length:=Am r
end
theorem jJ{P:uB}{w:uW}{k:Key}{u:pB}(r:zm (kV k) u):(zH P w).is k u=true:=by
 cases k with
 |inl i=>obtain⟨t,e⟩:=(show ∃t,u=Fy i t from r);subst e;exact zim P w i t
 |inr x=>obtain⟨t,e⟩:=(show ∃t,u=HE x t from r);subst e;exact zj5 P w x t
theorem ze2{P:uB}{w:uW}:∀{ks:List Key}{us:List pB},zn (ks.map kV) us->ItemsAre (zH P w) ks us
 |[],_,r=>by rw[QF] at r;cases r;exact .nil
 |k::ks,_,r=>by
  rw[pR] at r
  cases r with
  |cons h t=>exact .cons (jJ h) (ze2 t)
abbrev KT(H:Hp):List (List Key×V)->List (List Key×Addr×pB)->Prop:=Bi λp q=>p.1=q.1/\H q.2.1=some (.tup (p.1.map kV))/\zm p.2 q.2.2
variable{xs:List (List Key×Addr×pB)}{kvs:List (List Key×V)}
theorem KT.val{H:Hp}(r:KT H kvs xs)(k:List Key):xQ (zr kvs k) ((atKey xs k).map (·.2)):=by
 induction r with
 |nil=>exact BC
 |@cons p q ps qs h t ih=>
  obtain⟨h1,_,h2⟩:=h
  by_cases e:p.1=k
  ·have e':q.1=k:=h1.symm.trans e;have b:atKey (q::qs) k=some q.2:=by simp[atKey,UT,e']
   rw[we e,b];exact h2
  ·have e':¬q.1=k:=λz=>e (h1.trans z);have b:atKey (q::qs) k=atKey qs k:=by simp[atKey,UT,e']
   rw[ww e,b];exact ih
theorem KT.repl{H:Hp}(r:KT H kvs xs)(k:List Key){y:V}{u:pB}(ry:zm y u):
  KT H (kvs.map λkv=>if kv.1=k then(kv.1,y) else kv) (xs.map (putAt k u)):=by
 induction r with
 |nil=>exact .nil
 |@cons p q ps qs h t ih=>
  rw[pR,pR];refine .cons ?_ ih;obtain⟨h1,h2,h3⟩:=h;unfold putAt
  by_cases e:p.1=k
  ·rw[if_pos e,if_pos (h1.symm.trans e)];exact⟨h1,h2,ry⟩
  ·rw[if_neg e,if_neg (λz=>e (h1.trans z))];exact⟨h1,h2,h3⟩
def KT.put{H:Hp}(r:KT H kvs xs)(k:List Key){b:Addr}{y:V}{u:pB}(hb:H b=some (.tup (k.map kV)))(ry:zm y u):
  KT H (putK kvs k y) (Fj xs k b u):=by
 have e:(kvs.any λkv=>decide (kv.1=k))=(atKey xs k).isSome:=by
  rw[qF,(r.val k).isSome_eq,Au]
 unfold putK Fj;rw[e]
 by_cases q:(atKey xs k).isSome=true
 ·rw[if_pos q,if_pos q];exact r.repl k ry
 ·rw[if_neg q,if_neg q];exact GX r ⟨rfl,hb,ry⟩
variable{H':Hp}
def KT.keeps{H:Hp}(r:KT H kvs xs)(ht:∀b ys,H b=some (.tup ys)->H' b=some (.tup ys)):KT H' kvs xs:=
 Paired.mapP r λ_ _ z=>⟨z.1,ht _ _ z.2.1,z.2.2⟩
section
variable{P:uB}{w:uW}{H:Hp}{h:Heap}{a:Addr}
def rd_of{u:HO}(ok:HOk P w H h)(e:Rd H a u):yj P w H h a u:=e.ok ok
def vY{kvs:List (Key×V)}(ok:HOk P w H h)(e:Rd H a (.dK kvs)):kvs.length<=sizeLine/\(a==Ul)=false/\∃vs,KV kvs vs/\h.DictOf (zH P w) a vs:=
 show yj P w H h a (.dK kvs) from rd_of ok e
def dk_of{kvs:List (Key×V)}(ok:HOk P w H h)(e:H a=some (.dK kvs)):kvs.length<=sizeLine/\(a==Ul)=false/\∃vs,KV kvs vs/\h.DictOf (zH P w) a vs:=vY ok (.inl e)
def wH{ks:List Key}(ok:HOk P w H h)(e:H a=some (.tup (ks.map kV))):(Qd (zH P w)).is h ks a:=by
 obtain⟨_,its,r,o,h1,h2,n,h3⟩:=(show yj P w H h a (.tup (ks.map kV)) from ok a _ e);exact⟨o,its.toArray,n,h1,h2,h3,by simpa using ze2 r⟩
theorem vX(ok:HOk P w H h)(e:Rd H a (.dT kvs)):kvs.length<=sizeLine/\(a==Ul)=false/\
  ∃xs,KT H kvs xs/\h.DictOfH (Qd (zH P w)) a xs:=by
 obtain⟨z,y,xs,r,o,es,ep,h1,h2,h3,h4,h5⟩:=(show yj P w H h a (.dT kvs) from rd_of ok e);refine⟨z,y,xs,r,o,es,ep,h1,h2,h3,h4,λx hx=>?_,h5⟩;have all:∀{l:List (List Key×V)}{m:List (List Key×Addr×pB)},KT H l m->∀x∈m,(Qd (zH P w)).is h x.1 x.2.1:=by
  intro l m q
  induction q with
  |nil=>intro x hx;exact nomatch hx
  |@cons p q ps qs hq t ih=>
   intro x hx;rcases pS.mp hx with e|hx
   ·subst e;exact wH ok (by rw[←hq.1];exact hq.2.1)
   ·exact ih x hx
 exact all r x hx
def Xg(ok:HOk P w H h)(e:H a=some (.dT kvs)):kvs.length<=sizeLine/\(a==Ul)=false/\
  ∃xs,KT H kvs xs/\h.DictOfH (Qd (zH P w)) a xs:=vX ok (.inl e)
end
def wA(H:Hp)(a:Addr)(y:V)(r:Option V):Prop:=
 (∃kvs k,Rd H a (.dK kvs)/\y=kV k/\r=zr kvs k)∨∃kvs k b,Rd H a (.dT kvs)/\y=.ref b/\H b=some (.tup (k.map kV))/\r=zr kvs k
def Yw(H:Hp)(a:Addr)(y v:V)(H':Hp):Prop:=
 (∃kvs k,H a=some (.dK kvs)/\y=kV k/\kvs.length<sizeLine/\H'=upd H a (.dK (putK kvs k v)))∨
 ∃kvs k b,H a=some (.dT kvs)/\y=.ref b/\H b=some (.tup (k.map kV))/\kvs.length<sizeLine/\H'=upd H a (.dT (putK kvs k v))
def wA.t{H:Hp}{a b:Addr}{k:List Key}(e:H a=some (.dT kvs))(eb:H b=some (.tup (k.map kV))):wA H a (.ref b) (zr kvs k):=.inr ⟨kvs,k,b,.inl e,rfl,eb,rfl⟩
def Yw.t{H:Hp}{a b:Addr}{k:List Key}{v:V}(e:H a=some (.dT kvs))(eb:H b=some (.tup (k.map kV)))(hl:kvs.length<sizeLine):
  Yw H a (.ref b) v (upd H a (.dT (putK kvs k v))):=.inr ⟨kvs,k,b,e,rfl,eb,hl,rfl⟩
variable{Q:pB->pH->Prop}
section
variable{X:Cx}{pins:List (Addr×Obj)}{σ:St}{H:Hp}{s:pH}{a:Addr}{y v:V}{u r:pB}{o:Option V}{A:uv}{E:pB->pH->Prop}
def Inv.big(I:Inv X pins σ H s):Ul<s.heap.objs.size:=by
 have h:ul<s.heap.objs.size:=(I.mod.glob.keeps I.bk).lt;exact Cj (by decide) h
def zhe(hu:A.units+1<cLine)(I:Inv X pins σ H s)(g:wA H a y (some v))(ry:zm y u)(h:∀w' s',Inv X pins σ H s'->zm v w'->Q w' s'):
  wpAny (model X.prog X.w) A (Ff (.ref a) u) Q E s:=by
 rcases g with⟨kvs,k,e,ey,l⟩|⟨kvs,k,b,e,ey,eb,l⟩
 ·subst ey;obtain⟨z,hd,vs,rel,dd⟩:=vY I.hok e;obtain⟨w',hw,rw'⟩:=xQ.some_of (v:=v) (o:=FB vs k) (by rw[l];exact rel.val k)
  exact wpAny_getItem_of (jJ ry) dd.mapOf hw (h w' _ (I.tok _) rw')
 ·subst ey
  cases(show u=um b from ry);obtain⟨z,hd,xs,rel,dd⟩:=vX I.hok e;obtain⟨w',hw,rw'⟩:=xQ.some_of (v:=v) (o:=(atKey xs k).map (·.2)) (by rw[l];exact rel.val k)
  obtain⟨p,hp,hp2⟩:=Qr.mp hw;refine wpAny_getItem_heap (UR hu) (wH I.hok eb) dd hp ?_;rw[hp2];exact h w' _ (I.tok _) rw'
def d_in(hu:A.units+1<cLine)(I:Inv X pins σ H s)(g:wA H a y o)(ry:zm y u)(h:∀s',Inv X pins σ H s'->Q (.bool o.isSome) s'):
  wpAny (model X.prog X.w) A (Qy .In u (.ref a)) Q E s:=by
 rcases g with⟨kvs,k,e,ey,l⟩|⟨kvs,k,b,e,ey,eb,l⟩
 ·subst ey;obtain⟨z,hd,vs,rel,dd⟩:=vY I.hok e;refine wpAny_in_of (jJ ry) hd dd.mapOf ?_;rw[←(rel.val k).isSome_eq,←l];exact h _ (I.tok _)
 ·subst ey
  cases(show u=um b from ry);obtain⟨z,hd,xs,rel,dd⟩:=vX I.hok e;refine wpAny_in_heap (UR hu) (wH I.hok eb) hd dd ?_;have q:=(rel.val k).isSome_eq;rw[Au] at q;rw[←q,←l];exact h _ (I.tok _)
def d_notIn(hu:A.units+1<cLine)(I:Inv X pins σ H s)(g:wA H a y o)(ry:zm y u)(h:∀s',Inv X pins σ H s'->Q (.bool (!o.isSome)) s'):
  wpAny (model X.prog X.w) A (Qy .NotIn u (.ref a)) Q E s:=by
 rcases g with⟨kvs,k,e,ey,l⟩|⟨kvs,k,b,e,ey,eb,l⟩
 ·subst ey;obtain⟨z,hd,vs,rel,dd⟩:=vY I.hok e;refine wpAny_notIn_of (jJ ry) hd dd.mapOf ?_;rw[←(rel.val k).isSome_eq,←l];exact h _ (I.tok _)
 ·subst ey
  cases(show u=um b from ry);obtain⟨z,hd,xs,rel,dd⟩:=vX I.hok e;refine GK (UR hu) (wH I.hok eb) hd dd ?_;have q:=(rel.val k).isSome_eq;rw[Au] at q;rw[←q,←l];exact h _ (I.tok _)
def jy{ob:HO}(I:Inv X pins σ H s)(mu:Mut (H a))(hs:gz a s.heap h')(he:∃q,h'.get? a=some q)(new:yj X.prog X.w (upd H a ob) h' a ob):
  Inv X pins σ (upd H a ob) {s with heap:=h',toks:=t'}:=
 I.write (x:=a) (e:=a) mu (.inl rfl) (λb q hb z=>(hs.2 b hb).trans z) he new
def dk_new{P:uB}{w:uW}{kvs:List (Key×V)}{vs:List (Key×pB)}(z:kvs.length<=sizeLine)(hd:(a==Ul)=false)(rel:KV kvs vs)(dd:h'.DictOf (zH P w) a vs):
  yj P w H' h' a (.dK kvs):=⟨z,hd,vs,rel,dd⟩
theorem zhc{Q:Unit->pH->Prop}(hu:A.units+1<cLine)(I:Inv X pins σ H s)(g:Yw H a y v H')(ry:zm y u)(rv:zm v r)(h:∀s',Inv X pins σ H' s'->Q () s'):
  wpAny (model X.prog X.w) A (setItem (.ref a) u r) Q E s:=by
 rcases g with⟨kvs,k,e,ey,l,eH⟩|⟨kvs,k,b,e,ey,eb,l,eH⟩
 ·subst ey eH;obtain⟨z,hd,vs,rel,dd⟩:=dk_of I.hok e;have hz:vs.length<=sizeLine:=by rw[←rel.length];exact z
  have hl:(putK kvs k v).length<=sizeLine:=by have:=vk kvs k v;lia
  refine wpAny_setItem_pairs (hsz:=hz) (jJ ry) dd λh' dd' hs=>h _ ?_;have he:∃q,h'.get? a=some q:=let⟨q,_,_,hq,_⟩:=dd';⟨q,hq⟩;exact jy I (by rw[e];exact BC) hs he (dk_new hl hd (rel.put k rv) dd')
 ·subst ey eH
  cases(show u=um b from ry);obtain⟨z,hd,xs,rel,dd⟩:=Xg I.hok e;have hz:xs.length<=sizeLine:=by rw[←Am rel];exact z
  have hl:(putK kvs k v).length<=sizeLine:=by have:=vk kvs k v;lia
  refine FN (hsz:=hz) (UR hu) (wH I.hok eb) dd λh' dd' hs=>h _ ?_;obtain⟨q,es,ep,hq,h2,h3,h4,_,h5⟩:=dd';refine jy I (by rw[e];exact BC) hs ⟨q,hq⟩ ⟨hl,hd,_,(rel.put k eb rv).keeps λc ys ec=>?_,q,es,ep,hq,h2,h3,h4,h5⟩
  rw[zh (qR ec e λz=>nomatch z)];exact ec
end
def NoSl(i:Expr):Prop:=∀ov iv,subscripted i false ov iv=operate [ov,iv] (Ff ov iv)
theorem subD_of{prog:uB}{w:uW}{A:uv}{E:pB->pH->Prop}{s:pH}{value slice:Expr}{pos:Pos}{id:String}
  (hl:typeLookup (.type T) "__getitem__"=pure (some (.builtin id)))(hs:NoSl slice)
  (h:wpAny (model prog w) A (eval value env) (λo s₁=>wpAny (model prog w) A (eval slice env) (λi s₂=>s₂.TypeIs o T/\wpAny (model prog w) A (Ff o i) Q E s₂) E s₁) E s):
  wpAny (model prog w) A (eval (.Subscript value slice pos) env) Q E s:=by
 refine FI (UX h (λo s₁ h₁=>UX h₁ (λi s₂ h₂=>?_) λ_ _ x=>x) λ_ _ x=>x);obtain⟨hT,h₂⟩:=h₂;unfold DZ;refine pA ?_;rw[getitemInPython_of_ne hT.not_modules];refine pA (BY hT hl ?_);have fin:wpAny (model prog w) A (subscripted slice false o i) (λr s₃=>wpAny (model prog w) A (letTemporaryGo value o r>>=λ_=>pure r) Q E s₃) E s₂:=by
  rw[hs o i];exact wpAny_operating (UX h₂ (λr s₃ h₃=>pA (wpAny_letTemporaryGo (pM h₃))) λ_ _ x=>x)
 first
  |exact pM (pA fin)
  |exact pA (pM (pA fin))
  |exact pA fin
def zen{X:Cx}{pins:List (Addr×Obj)}{σ:St}{H:Hp}{s:pH}{a:Addr}{y:V}{o:Option V}(I:Inv X pins σ H s)(g:wA H a y o):s.TypeIs (.ref a) "dict":=by
 rcases g with⟨kvs,k,e,_,_⟩|⟨kvs,k,b,e,_,_,_⟩
 ·obtain⟨_,_,vs,_,dd⟩:=vY I.hok e;exact dd.typeIs
 ·obtain⟨_,_,xs,_,dd⟩:=vX I.hok e;exact dd.typeIs
def qT(td ty:TE):TE:=λσ H Q=>td σ H λx H1=>ty σ H1 λy H2=>∃a v,x=.ref a/\wA H2 a y (some v)/\Q v H2
def tDIn(ty td:TE):TE:=λσ H Q=>ty σ H λy H1=>td σ H1 λx H2=>∃a o,x=.ref a/\wA H2 a y o/\Q (.bl o.isSome) H2
def Vz(ty td:TE):TE:=λσ H Q=>ty σ H λy H1=>td σ H1 λx H2=>∃a o,x=.ref a/\wA H2 a y o/\Q (.bl (!o.isSome)) H2
def YC(td ty tv:TE):TS:=λD σ H=>tv σ H λv H1=>td σ H1 λx H2=>ty σ H2 λy H3=>∃a H4,x=.ref a/\Yw H3 a y v H4/\D.nx σ H4
section
variable{X:Cx}{o i e value:Expr}{pos pos' tpos:Pos}{td ty tv:TE}
def qk(hu:X.A.units+1<cLine)(ho:PE X o td)(hi:PE X i ty)(hs:NoSl i):PE X (.Subscript o i pos) (qT td ty):=by
 intro pins s σ H Q I h;refine subD_of PySem.F.slot_dict_getitem.lookup hs (thn (ho pins s σ H _ I h) λu s1⟨x,H1,I1,rx,q1⟩=>thn (hi pins s1 σ H1 _ I1 q1) λiv s2⟨y,H2,I2,ry,a,v,ex,g,q2⟩=>?_);subst ex;obtain rfl:u=um a:=rx;exact⟨zen I2 g,zhe hu I2 g ry λw' s3 I3 rw'=>⟨v,H2,I3,rw',q2⟩⟩
def pc_din(hu:X.A.units+1<cLine)(hi:PE X i ty)(ho:PE X o td):PC X .In i o (tDIn ty td):=by
 intro pins s σ H Q I h;refine thn (hi pins s σ H _ I h) λiv s1⟨y,H1,I1,ry,q1⟩=>thn (ho pins s1 σ H1 _ I1 q1) λu s2⟨x,H2,I2,rx,a,ov,ex,g,q2⟩=>?_;subst ex;obtain rfl:u=um a:=rx;exact d_in hu I2 g ry λs3 I3=>⟨.bl ov.isSome,H2,I3,rfl,q2⟩
def Zk(hu:X.A.units+1<cLine)(hi:PE X i ty)(ho:PE X o td):PC X .NotIn i o (Vz ty td):=by
 intro pins s σ H Q I h;refine thn (hi pins s σ H _ I h) λiv s1⟨y,H1,I1,ry,q1⟩=>thn (ho pins s1 σ H1 _ I1 q1) λu s2⟨x,H2,I2,rx,a,ov,ex,g,q2⟩=>?_;subst ex;obtain rfl:u=um a:=rx;exact d_notIn hu I2 g ry λs3 I3=>⟨.bl (!ov.isSome),H2,I3,rfl,q2⟩
def Xb(hu:X.A.units+1<cLine)(ho:PE X o td)(hi:PE X i ty)(hv:PE X value tv)(hs:Cp value (some (.Subscript o i pos')) pos.line X.env=pure false):
  PS X (.Assign [.Subscript o i pos'] value pos) (YC td ty tv):=by
 intro pins s σ H D I h;refine EG (thn (hv pins s σ H _ I h) λr s1⟨v,H1,I1,rv,q1⟩=>thn (ho pins s1 σ H1 _ I1 q1) λu s2⟨x,H2,I2,rx,q2⟩=>thn (hi pins s2 σ H2 _ I2 q2) λiv s3⟨y,H3,I3,ry,a,H4,ex,g,q3⟩=>?_) hs;subst ex;obtain rfl:u=um a:=rx;exact zhc hu I3 g ry rv λs4 I4=>⟨σ,H4,I4,q3⟩
end
def ze4{P:uB}{w:uW}{H:Hp}(h:Heap)(hb:Ul<h.objs.size):yj P w H (h.push {cls:=.type "dict",data:=.dict #[]}) h.objs.size (.dT []):=
 ⟨uL _,beq_eq_false_iff_ne.mpr (BI (ur hb)),[],.nil,_,#[],0,uM _ rfl,⟨rfl,rfl,rfl⟩,rfl,rfl,Uw⟩
def XD:TE:=λ_ H Q=>∀p,H p=none->Q (.ref p) (upd H p (.dT []))
section
variable{X:Cx}{pos:Pos}
def Xz:PE X (.Dict [] [] pos) XD:=λpins s σ H Q I h=>
 GL ⟨.ref s.heap.objs.size,_,I.laid (a:=s.heap.objs.size) (o:=.dT []) (t':=s.toks) (λ_ _ q=>pU _ q) (pG _) (ze4 s.heap I.big),rfl,h _ (I.hok.fresh (pG _))⟩
end
structure M1(X:Cx)(o:Expr)(m:Str)(apos:Pos)(e:Expr)(cpos:Pos):Prop where
 base:Db o m X.env (eval o X.env)=eval o X.env
 few:((Ao cpos (QP [e] X.env)).all (λx=> !x.1)&&(Cu cpos (Ax [] X.env)).all (λx=>x.1.isSome)
  &&decide (([e]:List Expr).length+([]:List DR).length+(if([]:List DR).isEmpty then 0 else 1)<30))=true
 line:(apos.endLine==cpos.line)=true
 trees:Ao cpos (QP [e] X.env)=[(false,eval e X.env)]
structure M2(X:Cx)(o:Expr)(m:Str)(apos:Pos)(e f:Expr)(cpos:Pos):Prop where
 base:Db o m X.env (eval o X.env)=eval o X.env
 few:((Ao cpos (QP [e,f] X.env)).all (λx=> !x.1)&&(Cu cpos (Ax [] X.env)).all (λx=>x.1.isSome)
  &&decide (([e,f]:List Expr).length+([]:List DR).length+(if([]:List DR).isEmpty then 0 else 1)<30))=true
 line:(apos.endLine==cpos.line)=true
 trees:Ao cpos (QP [e,f] X.env)=[(false,eval e X.env),(false,eval f X.env)]
def IsD(H:Hp)(a:Addr):Prop:=(∃kvs,Rd H a (.dK kvs))∨∃kvs,Rd H a (.dT kvs)
def WP{X:Cx}{pins:List (Addr×Obj)}{σ:St}{H:Hp}{s:pH}{a:Addr}(I:Inv X pins σ H s)(d:IsD H a):
  s.TypeIs (.ref a) "dict"/\(∀b,um a=.ref b->∃ob,s.heap.get? b=some ob/\ob.dict=none)/\(a==Ul)=false:=by
 rcases d with⟨kvs,e⟩|⟨kvs,e⟩
 ·obtain⟨_,hd,vs,_,dd⟩:=vY I.hok e;refine⟨dd.typeIs,λb q=>?_,hd⟩
  cases q;obtain⟨ob,_,_,h1,h2,_⟩:=dd;exact⟨ob,h1,h2.2.1⟩
 ·obtain⟨_,hd,xs,_,dd⟩:=vX I.hok e;refine⟨dd.typeIs,λb q=>?_,hd⟩
  cases q;obtain⟨ob,_,_,h1,h2,_⟩:=dd;exact⟨ob,h1,h2.2.1⟩
section
variable{X:Cx}{pins:List (Addr×Obj)}{σ:St}{H:Hp}{s:pH}{a:Addr}{y d:V}{u r:pB}{o:Option V}{A:uv}{E:pB->pH->Prop}
def d_get2(hu:A.units+1<cLine)(I:Inv X pins σ H s)(g:wA H a y o)(ry:zm y u)(rd:zm d r)(h:∀w' s',Inv X pins σ H s'->zm (o.getD d) w'->Q w' s'):
  wpAny (model X.prog X.w) A (call (.builtin "dict.get") [.ref a,u,r]) Q E s:=by
 rcases g with⟨kvs,k,e,ey,l⟩|⟨kvs,k,b,e,ey,eb,l⟩
 ·subst ey;obtain⟨z,hd,vs,rel,dd⟩:=vY I.hok e;refine EH CG dd.typeIs EI (Ds _ _ _) (meets_dict_get_default (zH X.prog X.w) a (jJ ry) hd r) ⟨_,dd.mapOf,h _ _ (I.tok _) ?_⟩;rw[l];exact(rel.val k).getD rd
 ·subst ey
  cases(show u=um b from ry);obtain⟨z,hd,xs,rel,dd⟩:=vX I.hok e;refine EH CG dd.typeIs EI (Ds _ _ _) (meetsH_dict_get_default (Qd (zH X.prog X.w)) a b hd r) ⟨UR hu,k,xs,wH I.hok eb,dd,h _ _ (I.tok _) ?_⟩;rw[l];exact(rel.val k).getD rd
end
def V5(td ty tx:TE):TE:=λσ H Q=>td σ H λx H1=>∃a,x=.ref a/\IsD H1 a/\ty σ H1 λy H2=>tx σ H2 λz H3=>∃o,wA H3 a y o/\Q (o.getD z) H3
section
variable{X:Cx}{o e f:Expr}{apos cpos:Pos}{td ty tx:TE}
def Z8(hu:X.A.units+1<cLine)(ho:PE X o td)(he:PE X e ty)(hf:PE X f tx)(m:M2 X o "get" apos e f cpos):PE X (.Call (.Attribute o "get" apos) [e,f] [] cpos) (V5 td ty tx):=by
 intro pins s σ H Q I h;refine DU m.base m.few m.line Bf CG PySem.F.type_dict_get (thn (ho pins s σ H _ I h) λu s1⟨x,H1,I1,rx,a,ex,d,q1⟩=>?_);subst ex;obtain rfl:u=um a:=rx;obtain⟨t1,t2,_⟩:=WP I1 d;refine⟨t1,t2,?_⟩;rw[m.trees];refine gY rfl (BA (ge (thn (he pins s1 σ H1 _ I1 q1) λiv s2⟨y,H2,I2,ry,q2⟩=>
  ge (thn (hf pins s2 σ H2 _ I2 q2) λfv s3⟨z,H3,I3,rz,ov,g,q3⟩=>Bl ?_))))
 exact d_get2 hu I3 g ry rz λw' s4 I4 rw'=>⟨_,H3,I4,rw',q3⟩
end
section
variable{X:Cx}{x:Str}{p pos:Pos}{e:Expr}{es:List Expr}{kws:List DR}{ks:List Str}{t tk:TA}{id:String}{r:List V->List V->Hp->VK->Prop}
def zby(X:Cx)(f:pB)(ks:List Str)(r:List V->List V->Hp->VK->Prop):Prop:=
 ∀(pins:List (Addr×Obj))(s:pH)(σ:St)(H:Hp)(xs zs:List V)(us ws:List pB)(Q:VK),Inv X pins σ H s->zn xs us->zn zs ws->r xs zs H Q->wpAny (model X.prog X.w) X.A (call f us (ks.zip ws)) (EP X pins σ Q) X.xe s
def tCBK(r:List V->List V->Hp->VK->Prop)(t tk:TA):TE:=λσ H Q=>t σ H λxs H1=>tk σ H1 λzs H2=>r xs zs H2 Q
def zi4(hc:zby X (.builtin id) ks r)(hg:Gl X x)(hm:X.mg x=none)(hv:Qh x=some (.builtin id))(ha:PA X (e::es) t)(hkw:PK X kws tk)(hks:(Cu pos (Ax kws X.env)).filterMap (·.1)=ks:=by rfl)
  (hn:x≠"__name__":=by decide) (hdb:(x==("__debug__":Str))=false:=by decide) (he:Ao pos (QP (e::es) X.env)=(false,eval e X.env)::Ao pos (QP es X.env):=by rfl) (hpl:(Ao pos (QP (e::es) X.env)).any (·.1)=false:=by rfl)
  (hall:(Cu pos (Ax kws X.env)).all (·.1.isSome)=true:=by rfl) (hno:(Cu pos (Ax kws X.env)).any (·.1.isNone)=false:=by rfl):PE X (.Call (.Name x p) (e::es) kws pos) (tCBK r t tk):=by
 intro pins s σ H Q I h;refine Af (vR I hg hm hv ?_ hn hdb);refine callWith_kw (thn (ha pos pins s σ H _ I h) λus s1⟨vs,H1,I1,r1,q1⟩=>thn (hkw pos pins s1 σ H1 _ I1 q1) λws s2⟨zs,H2,I2,r2,q2⟩=>?_) he hpl hall hno;rw[hks];exact hc pins s2 σ H2 vs zs us ws Q I2 r1 r2 q2
end
section
variable{prog:uB}{w:uW}{A:uv}{R:HI->pH->Prop}{I:Addr}{fp wr:List Addr}{n:Nat}{P:Nat->pB->Prop}{St:Nat->Heap->Prop}
theorem maxD_on(W:Walks prog w A.in1 I fp wr n P St)(bt:Nat->Nat->Bool)(hc:CmpOf prog w A.in1 .Gt P bt)(S:Addr)(nS:S∉fp)(kw:List (Str×pB)):∀(k j:Nat)(s:pH)(vb:pB)(c:Nat),n-(j+1)=k->j+1<=n->St (j+1) s.heap->P (Bp bt j) vb->
  s.heap.get? S=some {cls:=.type "list",dict:=none,data:=.seq #[vb,vb] c,slots:=#[]}->(∀v h' tk,P (Bp bt (n-1)) v->(∀b o,b∉wr->b≠S->s.heap.get? b=some o->h'.get? b=some o)->R (.ok (.ret v)) {s with heap:=h',toks:=tk})->
  Ci (model prog w) A (.builtin "max.loop" ⟨[.ref I,.none,.ref S],kw⟩) R s:=by
 have nw:S∉wr:=λz=>nS (W.sub _ z);have nm:(Em "max"++Em ".loop":String)="max.loop":=by decide
 intro k
 induction k with
 |zero=>
  intro j s vb c hk hj st hb oS q;have ej:j+1=n:=by omega
  refine BZ Dt ?_;rw[AF AW _];refine pA (m:=GM (.ref S)) (BD oS rfl (pA (Bq (W.done s _ _ (ej▸st) λh' tk kp=>?_))));refine pA (EO (kp S _ nw oS) rfl (pA (CV (pM ?_))));exact q vb _ tk (by rw[←ej];exact hb) λb o b1 b2 e=>(Uu _ _ (BI b2)).trans (kp b o b1 e)
 |succ k ih=>
  intro j s vb c hk hj st hb oS q;refine BZ Dt ?_;rw[AF AW _];refine pA (m:=GM (.ref S)) (BD oS rfl (pA (Bq (W.item (j+1) s _ _ (by omega) st λv h' tk hP st' kp=>?_))))
  have oS':=kp S _ nw oS;refine pA (pM ?_);refine pA (m:=tryCatch (holding [v,v] (Ej CmpOp.Gt v vb>>=_)) _) (Bq (Ue (pA (hc (j+1) (Bp bt j) v vb _ _ _ hP hb (pA (Ue (UA (pA (CV (pM ?_))))))))))
  cases bb:bt (j+1) (Bp bt j) with
  |true=>
   simp only[if_true];refine pA (EO oS' rfl (pA (CV ?_)));rw[nm];refine pM ⟨BT AW _,ih (j+1) _ v _ (by omega) (by omega) (W.frame _ _ _ st' λb hf o e=>(Uu _ _ (λz:S=b=>nS (by rw[z];exact hf))).trans e) (by simp only[Bp,bb,if_true];exact hP) (gr _ oS' rfl) λv' h'' tk'' hP' kp'=>?_⟩
   exact q v' h'' tk'' hP' λb o b1 b2 e=>kp' b o b1 b2 ((Uu _ _ (BI b2)).trans (kp b o b1 e))
  |false=>
   simp only[uD,if_false];refine pA (CV ?_);rw[nm];exact pM ⟨BT AW _,ih (j+1) _ vb c (by omega) (by omega) st' (by simp only[Bp,bb,uD,if_false];exact hb) oS' λv' h'' tk'' hP' kp'=>q v' h'' tk'' hP' λb o b1 b2 e=>kp' b o b1 b2 (kp b o b1 e)⟩
theorem zf4(W:Walks prog w A.in1 I fp wr n P St)(bt:Nat->Nat->Bool)(hc:CmpOf prog w A.in1 .Gt P bt)(S:Addr)(nS:S∉fp){k:Str}{d:pB}{s:pH}{c:Nat}(st:St 0 s.heap)
  (oS:s.heap.get? S=some {cls:=.type "list",dict:=none,data:=.seq #[] c,slots:=#[]})
  (q:∀v h' tk,((0<n/\P (Bp bt (n-1)) v)∨(n=0/\v=d))->(∀b o,b∉wr->b≠S->s.heap.get? b=some o->h'.get? b=some o)->R (.ok (.ret v)) {s with heap:=h',toks:=tk}):
  Ci (model prog w) A (.builtin "max.loop" ⟨[.ref I,.none,.ref S],[(k,d)]⟩) R s:=by
 have nw:S∉wr:=λz=>nS (W.sub _ z);have nm:(Em "max"++Em ".loop":String)="max.loop":=by decide
 refine BZ Dt ?_;rw[AF AW _]
 by_cases h0:n=0
 ·subst h0;refine pA (m:=GM (.ref S)) (BD oS rfl (pA (Bq (W.done s _ _ st λh' tk kp=>?_))));exact pA (gC (pM (q d h' tk (.inr ⟨rfl,rfl⟩) λb o b1 _ e=>kp b o b1 e)))
 ·refine pA (m:=GM (.ref S)) (BD oS rfl (pA (Bq (W.item 0 s _ _ (by lia) st λv h' tk hP st' kp=>?_))))
  refine pA (pM ?_);refine pA (EO (kp S _ nw oS) rfl ?_);rw[nm];refine pM ⟨BT AW _,maxD_on W bt hc S nS _ _ 0 _ v _ rfl (by lia) (W.frame _ _ _ st' λb hf o e=>(Uu _ _ (λz:S=b=>nS (by rw[z];exact hf))).trans e) hP (gr _ (kp S _ nw oS) rfl) λv' h'' tk'' hP' kp'=>?_⟩
  exact q v' h'' tk'' (.inl ⟨by lia,hP'⟩) λb o b1 b2 e=>kp' b o b1 b2 ((Uu _ _ (BI b2)).trans (kp b o b1 e))
end
def zgp(a v:pB):argsOk "max" ⟨[a],[(Ui "default",v)]⟩:=by unfold argsOk;kernel_rfl
theorem za4(val:Nat->Int):∀k,Bp (λi j=>decide (val i>val j)) k<=k/\∀i,i<=k->val i<=val (Bp (λi j=>decide (val i>val j)) k)
 |0=>⟨pG _,λi hi=>by rw[Nat.le_zero.mp hi];exact QU _⟩
 |k+1=>by
  obtain⟨h1,h2⟩:=za4 val k;unfold Bp
  by_cases c:val (k+1)>val (Bp (λi j=>decide (val i>val j)) k)
  ·rw[if_pos (decide_eq_true c)];refine⟨pG _,λi hi=>?_⟩
   by_cases e:i=k+1
   ·rw[e];exact QU _
   ·have:=h2 i (by omega)
    omega
  ·rw[if_neg (by rw[decide_eq_false c];decide)]
   refine⟨by omega,λi hi=>?_⟩
   by_cases e:i=k+1
   ·rw[e];omega
   ·exact h2 i (by omega)
def rMaxD:List V->List V->Hp->VK->Prop:=λxs zs H Q=>∃p ns d,xs=[.ref p]/\zs=[.int d]/\H p=some (.lst (ns.map V.int))/\∀g,(∀n,n∈ns->n<=g)->(g∈ns∨(ns=[]/\g=d))->Q (.int g) H
section
variable{X:Cx}
theorem zi3(hc:X.calm=true):zby X (.builtin "max") [Ui "default"] rMaxD:=by
 intro pins s σ H xs zs us ws Q I r rz h;obtain⟨p,ns,d,rfl,rfl,hp,q⟩:=h;obtain⟨u,rfl,ru⟩:=vals1 r;obtain⟨u',rfl,t,rfl⟩:=vals1 rz
 cases ru;obtain⟨its,rv,pl,hz⟩:=I.list (.of hp);have ia:gq its ns:=by
  have:=Y0 rv
  simpa using this
 have len:=ia.length;have ne:p≠s.heap.objs.size:=ur pl.lt;have nm:(Em "max"++Em ".loop":String)="max.loop":=by decide
 refine kmk_tree PySem.F.kind_max PySem.F.plain_max PySem.F.entry_max (zgp _ _) ?_;refine pA (m:=Ck "max" ["key","default"] 0 ⟨[],[(Ui "default",.int d t)]⟩) (wpAny_of_eq (show Ck "max" ["key","default"] 0 ⟨[],[(Ui "default",.int d t)]⟩=pure [none,some (.int d t)] from rfl) (pA (pM (pA (DP pl.isList (pA (CP ?_ (uL _))))))));rw[nm];have W:=Hd (prog:=X.prog) (w:=X.w) (A:=X.A.in1) (show X.A.in1.handled=none from I.ok.hd hc) s.heap.objs.size p ne its.toArray;have it:∀i v,its.toArray[i]?=some v->∃t,v=Fy (ns.getD i 0) t:=λi v hv=>IntsAre.int_at ia i v (by simpa using hv)
 have sz:(s.heap.push {cls:=.type "list_iterator",data:=.fields #[.ref p,.int 0 0]}).objs.size=s.heap.objs.size+1:=by rw[Gm]
 refine pM ⟨BT PySem.F.plain_max_loop _,zf4 W (λi j=>decide (ns.getD i 0>ns.getD j 0)) (CmpOf.ints_gt (λi=>ns.getD i 0) it) _ (λz=>?_) (st:=W.frame 0 _ _ ⟨⟨_,uM _ rfl,rfl,rfl⟩,pl.isList.push _⟩ λb _ o e=>pU _ e) (uM _ rfl) λv h' tk hv kp=>?_⟩
 ·rw[sz] at z;have l2:p<s.heap.objs.size:=pl.lt;rcases pS.mp z with z|z
  ·exact absurd z (gU (Nat.lt_succ_self _))
  ·exact absurd (pZ.mp z) (gU (Fk l2))
 ·have keep:∀b o,s.heap.get? b=some o->h'.get? b=some o:=λb o e=>by
   have lt:=uC e;refine kp b o (λz=>?_) (λz=>?_) (pU _ (pU _ e))
   ·exact absurd (show b=s.heap.objs.size by simpa using z) (ur lt)
   ·rw[sz] at z;exact absurd z (ur (Fk lt))
  obtain⟨b1,b2⟩:=za4 (λi=>ns.getD i 0) (its.toArray.size-1);have J:Inv X pins σ H {s with heap:=h',toks:=tk}:=I.kept keep;rcases hv with⟨h0,hv⟩|⟨h0,rfl⟩
  ·obtain⟨t',rfl⟩:=it _ _ hv;have h0:0<its.length:=by simpa using h0
   have zi:its.toArray.size=its.length:=rfl;rw[zi] at b1 b2⊢;refine⟨.int _,H,J,⟨t',rfl⟩,q _ (λn hn=>?_) (.inl ?_)⟩
   ·obtain⟨i,hi,e⟩:=UC.mp hn;have:=b2 i (by lia)
    have e':ns.getD i 0=n:=by simp[hi,e]
    rw[e'] at this;exact this
   ·have hb:Bp (λi j=>decide (ns.getD i 0>ns.getD j 0)) (its.length-1)<ns.length:=by omega
    rw[pD,pJ hb];exact UJ _
  ·have h0:its.length=0:=by simpa using h0
   have n0:ns=[]:=List.eq_nil_of_length_eq_zero (by lia)
   exact⟨.int d,H,J,⟨t,rfl⟩,q d (λn hn=>by rw[n0] at hn;cases hn) (.inr ⟨n0,rfl⟩)⟩
end
variable{d:Addr}
section
variable{prog:uB}{w:uW}{A:uv}{E:pB->pH->Prop}{s:pH}
theorem sd_heap{a:Addr}{k:List Key}{v:pB}(hu:(Qd (zH prog w)).room A)(hkey:(Qd (zH prog w)).is s.heap k a)(hm:s.heap.DictOfH (Qd (zH prog w)) d xs)(hz:xs.length<=sizeLine)
  (q1:∀p,atKey xs k=some p->Q p.2 {s with toks:=s.toks+(Qd (zH prog w)).draws k})
  (q2:atKey xs k=none->∀h',h'.DictOfH (Qd (zH prog w)) d (Fj xs k a v)->gz d s.heap h'->Q v {s with heap:=h',toks:=s.toks+(Qd (zH prog w)).draws k}):
  wpAny (model prog w) A (En d (.ref a) v) Q E s:=by
 obtain⟨o,es,ep,ho,hc,hd,he,his,hn⟩:=hm;unfold En;refine Ue (pA ((Qd (zH prog w)).pyHash hu hkey (pA (FD (s:={s with toks:=s.toks+(Qd (zH prog w)).draws k}) hu hkey ho hd he his hn (λhno=>?_) λj p hj=>?_))))
 ·have an:=atKey_none_of_get hno;have hnot:k∉xs.map (·.1):=not_mem_keys_of_get hno;refine pA (gC (pA (Eo (hz:=by have e:=EQ he;lia) (s:={s with toks:=s.toks+(Qd (zH prog w)).draws k}) ho hd (pM (q2 an _ ⟨_,_,ep+1,gr _ ho (FE (BE hd _)),hc.mapDictKeys _,BE hd _,?_,?_,?_⟩ (hU ..))))))
  ·rw[GY an]
   simp[he,Gg]
  ·rw[GY an];intro x hx;rcases pd.mp hx with y|y
   ·exact(Qd (zH prog w)).keeps (his x y) ho hd (hU ..)
   ·rw[pZ.mp y];exact(Qd (zH prog w)).keeps hkey ho hd (hU ..)
  ·rw[GY an,uF,UB];refine⟨hn,by simp,λx hx y hy e=>hnot ?_⟩
   have y':y=k:=by simpa using hy
   rw[←y',←e];exact hx
 ·refine pA (AG (s:={s with toks:=s.toks+(Qd (zH prog w)).draws k}) ho hd ?_);rw[entry_at he j,hj];exact pA (gC (pM (q1 p (atKey_of_get hn hj))))
def zh4{a:Addr}(hd:(d==Ul)=false)(v:pB):MeetsIn prog w (BW.«dict.setdefault» ⟨[.ref d,.ref a,v],[]⟩) (λA R s=>(Qd (zH prog w)).room A.in1/\∃k xs,(Qd (zH prog w)).is s.heap k a/\s.heap.DictOfH (Qd (zH prog w)) d xs/\xs.length<=sizeLine/\
  (∀p,atKey xs k=some p->R (.ok (.ret p.2)) {s with toks:=s.toks+(Qd (zH prog w)).draws k})/\
  (atKey xs k=none->∀h',h'.DictOfH (Qd (zH prog w)) d (Fj xs k a v)->gz d s.heap h'->R (.ok (.ret v)) {s with heap:=h',toks:=s.toks+(Qd (zH prog w)).draws k})):=
 .of_wp λA R s⟨hu,k,xs,hkey,hm,hz,h1,h2⟩=>by
  unfold BW.«dict.setdefault» Cz;refine pA (pA (CH hm.typeIs ?_));show wpAny _ _ (pure (d,um a,some v)) _ _ s;refine pM ?_;show wpAny _ _ (if(d==Ul)=true then _ else(En d (um a) v>>=_)) _ _ s;rw[if_neg (by rw[hd];decide)]
  exact pA (sd_heap hu hkey hm hz (λp hp=>pM ⟨p.2,rfl,h1 p hp⟩) λhn h' hm' hs'=>pM ⟨v,rfl,h2 hn h' hm' hs'⟩)
end
section
variable{X:Cx}{pins:List (Addr×Obj)}{σ:St}{H:Hp}{s:pH}
def rSD(a:Addr)(y z:V)(H:Hp)(Q:VK):Prop:=∃kvs k b,H a=some (.dT kvs)/\y=.ref b/\H b=some (.tup (k.map kV))/\kvs.length<sizeLine/\(∀v,zr kvs k=some v->Q v H)/\(zr kvs k=none->Q z (upd H a (.dT (putK kvs k z))))
theorem zf2{A:uv}{E:pB->pH->Prop}{a:Addr}{y z:V}{u r:pB}{Q:VK}(hu:A.units+1<cLine)(I:Inv X pins σ H s)(g:rSD a y z H Q)(ry:zm y u)(rz:zm z r):
  wpAny (model X.prog X.w) A (call (.builtin "dict.setdefault") [.ref a,u,r]) (EP X pins σ Q) E s:=by
 obtain⟨kvs,k,b,e,rfl,eb,l,q1,q2⟩:=g
 cases(show u=um b from ry);obtain⟨zz,hd,xs,rel,dd⟩:=Xg I.hok e;have hz:xs.length<=sizeLine:=by rw[←Am rel];exact zz
 have hl:(putK kvs k z).length<=sizeLine:=by have:=vk kvs k z;lia
 refine EH Ce dd.typeIs PySem.F.entry_dict_setdefault (PySem.F.args_dict_setdefault_3 _ _ _) (zh4 hd r) ⟨UR hu,k,xs,wH I.hok eb,dd,hz,λp hp=>?_,λhn h' dd' hs=>?_⟩
 ·have rv:=rel.val k;rw[hp] at rv
  cases hv:zr kvs k with
  |none=>rw[hv] at rv;exact rv.elim
  |some v=>
   rw[hv] at rv;exact⟨v,H,I.tok _,rv,q1 v hv⟩
 ·have hv:zr kvs k=none:=by
   have rv:=rel.val k;rw[hn] at rv
   cases hv:zr kvs k with
   |none=>rfl
   |some v=>rw[hv] at rv;exact rv.elim
  obtain⟨o,es,ep,ho,h2,h3,h4,_,h5⟩:=dd';refine⟨z,upd H a (.dT (putK kvs k z)),jy I (by rw[e];exact BC) hs ⟨o,ho⟩ ⟨hl,hd,_,(rel.put k eb rz).keeps λc ys ec=>?_,o,es,ep,ho,h2,h3,h4,h5⟩,rz,q2 hv⟩
  rw[zh (qR ec e λz=>nomatch z)];exact ec
variable{o e f:Expr}{td ty tx:TE}{apos cpos:Pos}
def tDSd(td ty tx:TE):TE:=λσ H Q=>td σ H λx H1=>∃a,x=.ref a/\IsD H1 a/\ty σ H1 λy H2=>tx σ H2 λz H3=>rSD a y z H3 Q
def zdo(hu:X.A.units+1<cLine)(ho:PE X o td)(he:PE X e ty)(hf:PE X f tx)(m:M2 X o "setdefault" apos e f cpos):PE X (.Call (.Attribute o "setdefault" apos) [e,f] [] cpos) (tDSd td ty tx):=by
 intro pins s σ H Q I h;refine DU m.base m.few m.line Bf Ce PySem.F.type_dict_setdefault (thn (ho pins s σ H _ I h) λu s1⟨x,H1,I1,rx,a,ex,d,q1⟩=>?_);subst ex;obtain rfl:u=um a:=rx;obtain⟨t1,t2,_⟩:=WP I1 d;refine⟨t1,t2,?_⟩;rw[m.trees];exact gY rfl (BA (ge (thn (he pins s1 σ H1 _ I1 q1) λiv s2⟨y,H2,I2,ry,q2⟩=>ge (thn (hf pins s2 σ H2 _ I2 q2) λfv s3⟨z,H3,I3,rz,g⟩=>Bl (zf2 hu I3 g ry rz)))))
end
variable{es:Array Dq}{ep:Nat}
section
variable{prog:uB}{w:uW}{A:uv}{E:pB->pH->Prop}{s:pH}
variable{od:Obj}
def zf9(hd:(d==Ul)=false)(ho:s.heap.get? d=some od)(hc:od.cls=.type "dict")(hdat:od.data=.dict es ep)
  (q:Q (.ref s.heap.objs.size) {s with heap:=s.heap.push {cls:=.type "dict_keyiterator",data:=.fields #[.ref d,.int 0 0,.int es.size 0,.int ep 0]}}):wpAny (model prog w) A (pyIter (.ref d)) Q E s:=by
 have ty:s.TypeIs (.ref d) "dict":=⟨od,ho,hc⟩;refine wpAny_pyIter_slot ty EJ (AX EJ ty PySem.F.entry_dict_iter ?_ (PySem.F.args_dict_iter_1 _));unfold BW.«dict.__iter__»;refine pA ?_;unfold Builtin.Dict.dictSlotNone;refine pA (CH ty (pM ?_));refine pA (m:=EX d) ?_;unfold EX;rw[if_neg (by rw[hd];decide)]
 refine pM (pA (AG ho hdat (pA (ER ho hdat (pA (As (pM ⟨_,rfl,"dict_keyiterator",_,⟨_,uM _ rfl,rfl⟩,PySem.F.slot_dict_keyiterator_next.lookup,?_⟩)))))))
 simpa[AL] using q
variable{Q:Option pB->pH->Prop}
theorem zfw{it:Addr}{i:Nat}(hit:s.heap.IsKeyIter it d i es.size ep)(ho:s.heap.get? d=some od)(hdat:od.data=.dict es ep)(hi:i<es.size)
  (q:∀h',h'.IsKeyIter it d (i+1) es.size ep->gz it s.heap h'->Q (some es[i].key) {s with heap:=h'}):wpAny (model prog w) A (GA (.ref it)) Q E s:=by
 obtain⟨o,hoi,hci,hdi⟩:=id hit;have own:Cf "dict_keyiterator"=false:=by decide
 unfold GA;refine pA (Dh (Du (name:=Ui "__next__") hit.typeIs Uo (AX Uo hit.typeIs BU (pA (pM (pA (pA ?_)))) (BQ _))))
 first|refine pA (gO hit.typeIs (pM (pA (DA hoi hdi ?_))))|refine pA (AN hit.typeIs (pM (pA (DA hoi hdi ?_))))
 simp only[own,uD,if_false];show wpAny _ _ (if(um d==UK)=true then _ else _) _ _ s;have nv:¬((um d==UK)=true):=uO;rw[if_neg nv];refine pA (pM (pA (AG ho hdat ?_)));rw[if_neg (by simp)]
 refine pA (pM (pA (ER ho hdat ?_)));rw[if_neg (by simp)]
 refine pM ?_;simp only[show ¬((i:Int)<0) from by lia,if_false,Ua,UD hi]
 refine pA ?_
 first|refine pA (gO hit.typeIs (pM (pA (CI hit.typeIs ?_))))|refine pA (AN hit.typeIs (pM (pA (CI hit.typeIs ?_))))
 refine pA (m:=setField (.ref it) 1 (AL ((i:Int)+1))) (wpAny_setField hoi hdi (by simp) ?_)
 have st:(s.heap.update it (Gx (·.setIfInBounds 1 (AL ((i:Int)+1))))).IsKeyIter it d (i+1) es.size ep:=⟨_,gr _ hoi (Obj.isFreed_of_fields (FO hdi _)),(Obj.cls_mapFields ..).trans hci,by rw[FO hdi];simp[AL]⟩
 refine pA (Ue (pA (CI (s:={s with heap:=s.heap.update it (Gx (·.setIfInBounds 1 (AL ((i:Int)+1))))}) st.typeIs ?_)));exact pM (pM ⟨_,rfl,pM (q _ st (hU ..))⟩)
theorem zek{it:Addr}{i:Nat}(hh:A.handled=none)(hit:s.heap.IsKeyIter it d i es.size ep)(ho:s.heap.get? d=some od)(hdat:od.data=.dict es ep)(hi:es.size<=i)
  (q:∀h',Heap.ExtBut it s.heap h'->Q none {s with heap:=h'}):wpAny (model prog w) A (GA (.ref it)) Q E s:=by
 obtain⟨o,hoi,hci,hdi⟩:=id hit;have own:Cf "dict_keyiterator"=false:=by decide
 unfold GA;refine pA (Dh (Du (name:=Ui "__next__") hit.typeIs Uo (AX Uo hit.typeIs BU (pA (pM (pA (pA ?_)))) (BQ _))))
 first|refine pA (gO hit.typeIs (pM (pA (DA hoi hdi ?_))))|refine pA (AN hit.typeIs (pM (pA (DA hoi hdi ?_))))
 simp only[own,uD,if_false];show wpAny _ _ (if(um d==UK)=true then _ else _) _ _ s;have nv:¬((um d==UK)=true):=uO;rw[if_neg nv];refine pA (pM (pA (AG ho hdat ?_)));rw[if_neg (by simp)]
 refine pA (pM (pA (ER ho hdat ?_)));rw[if_neg (by simp)]
 refine pM ?_;simp only[show ¬((i:Int)<0) from by lia,if_false,Ua,Array.getElem?_eq_none hi]
 refine pA ?_
 first|refine pA (gO hit.typeIs (pM ?_))|refine pA (AN hit.typeIs (pM ?_))
 refine pA (m:=setField (.ref it) 0 .none) (wpAny_setField hoi hdi (by simp) ?_)
 refine pA (m:=newExc (.type "StopIteration") []) ?_;simp only[newExc,newTuple]
 refine pA (As (pA (m:=firstArgMember _ _) (wpAny_of_eq (a:=UK) (by first|rfl|(simp only[firstArgMember];rfl)) (As ?_ (by size_fits)))) (by size_fits))
 simp only[raiseNew];refine pA (wpAny_handled ?_);rw[show A.in1.handled=none from hh];refine pA (pM (wpAny_throw ?_));refine pA (BK (T:="StopIteration") (b:=true) ⟨_,uM _ rfl,rfl⟩ isSubtype_stop (pM ?_));exact q _ (((hU ..).extBut.push _).push _)
end
open PySem.W (kas_sort kas_ask)
noncomputable def ltL:List (Int×Int)->List (Int×Int)->Bool
 |[],ys=>decide (0<ys.length)
 |_::_,[]=>false
 |x::xs,y::ys=>if x=y then ltL xs ys else HT.lexLt [x.1,x.2] [y.1,y.2]
def qK(h:Heap)(v:pB)(ns:List (Int×Int)):Prop:=∃(a:Addr)(its:List pB)(n:Nat),v=.ref a/\h.get? a=some (uV "list" its.toArray n)/\its.length=ns.length/\∀(i:Nat)(u:pB)(k:Int×Int),its[i]?=some u->ns[i]?=some k->yc h u [k.1,k.2]
variable{m:Nat}{ns ms:List (Int×Int)}
section
variable{prog:uB}{w:uW}{A:uv}{E:pB->pH->Prop}{s:pH}{R:HI->pH->Prop}
theorem rc_pair{x y:pB}{k l:Int×Int}(hx:yc s.heap x [k.1,k.2])(hy:yc s.heap y [l.1,l.2])(hu:A.units+64<cLine)(q:Q (.bool (HT.lexLt [k.1,k.2] [l.1,l.2])) s):wpAny (model prog w) A (Ej .Lt x y) Q E s:=by
 obtain⟨a,its,n,dd,sl,rfl,o,i⟩:=hx;obtain⟨b,its2,n2,dd2,sl2,rfl,o2,i2⟩:=hy;exact Bn (op:=.Lt) ⟨_,o,rfl⟩ ⟨_,o2,rfl⟩ EW EF (Dp _ _) (ZC a b its its2 n n2 dd dd2 sl sl2 [k.1,k.2] [l.1,l.2] rfl i i2) ⟨o,o2,(λz=>nomatch z),q⟩ (by lia)
theorem ll_loop{a b:Addr}{xs ys:List pB}{n:Nat}(hu:A.units+70<cLine)(ha:s.heap.get? a=some (uV "list" xs.toArray n))(hb:s.heap.get? b=some (uV "list" ys.toArray m))(lx:xs.length=ns.length)(ly:ys.length=ms.length)
  (tx:∀(i:Nat)(u:pB)(k:Int×Int),xs[i]?=some u->ns[i]?=some k->yc s.heap u [k.1,k.2])(ty:∀(i:Nat)(u:pB)(k:Int×Int),ys[i]?=some u->ms[i]?=some k->yc s.heap u [k.1,k.2]):
  ∀(f i:Nat),ns.length-i=f->i<=ns.length->i<=ms.length->R (.ok (.ret (.bool (ltL (ns.drop i) (ms.drop i))))) s->Ci (model prog w) A (.builtin "list.__eq__.loop" ⟨[.ref a,.ref b,AL (i:Int),AL 0],[]⟩) R s:=by
 have fin:∀i:Nat,i<=ns.length->i<=ms.length->(ns.length=i∨ms.length=i)->ltL (ns.drop i) (ms.drop i)=decide (xs.length<ys.length):=λi h1 h2 h3=>by
  rcases h3 with h3|h3
  ·rw[Ai (by lia),ltL,uK]
   exact decide_eq_decide.mpr (by lia)
  ·rw[Ai (l:=ms) (by lia)]
   cases e:ns.drop i with
   |nil=>
    have:=El.mp e;rw[ltL];exact decide_eq_decide.mpr (by simp;lia)
   |cons k r=>
    rw[ltL];have:i<ns.length:=by
     rcases AH i ns.length with z|z
     ·exact z
     ·rw[Ai z] at e;cases e
    exact(decide_eq_false (by lia)).symm
 intro f
 induction f with
 |zero=>
  intro i hf h1 h2 q;have e:ns.length=i:=by lia
  refine BZ Dv ?_;rw[AF AY _];rw[fin i h1 h2 (.inl e)] at q;have gx:xs[i]?=none:=gB (by lia)
  refine pA (Uh ha rfl (pA (Uh hb rfl ?_)));simp only[AL,Ua,gt,gx];exact pA (Uh ha rfl (pA (Uh hb rfl (pM q))))
 |succ f ih=>
  intro i hf h1 h2 q;refine BZ Dv ?_;rw[AF AY _];have li:i<xs.length:=by lia
  have gx:xs[i]?=some xs[i]:=pJ li;refine pA (Uh ha rfl (pA (Uh hb rfl ?_)))
  by_cases hy:ms.length=i
  ·rw[fin i h1 h2 (.inr hy)] at q;have gy:ys[i]?=none:=gB (by lia)
   simp only[AL,Ua,gt,gx,gy];exact pA (Uh ha rfl (pA (Uh hb rfl (pM q))))
  ·have lj:i<ys.length:=by lia
   have gy:ys[i]?=some ys[i]:=pJ lj;have gn:ns[i]?=some ns[i]:=pJ (by lia)
   have gm:ms[i]?=some ms[i]:=pJ (by lia)
   have dx:ns.drop i=ns[i]::ns.drop (i+1):=hZ (by lia)
   have dy:ms.drop i=ms[i]::ms.drop (i+1):=hZ (by lia)
   rw[dx,dy,ltL] at q;have t1:=tx i _ _ gx gn;have t2:=ty i _ _ gy gm;simp only[AL,Ua,gt,gx,gy];refine pA (WF t1 t2 (by show A.units+1+64<_;lia) ?_)
   by_cases e:ns[i]=ms[i]
   ·rw[if_pos e] at q;rw[decide_eq_true (by rw[e])]
    simp only[if_true];have z:=ih (i+1) (by lia) (by lia) (by lia) q
    exact pM ⟨BT AY _,by simpa[AL] using z⟩
   ·rw[if_neg e] at q;have ne:¬[ns[i].1,ns[i].2]=[ms[i].1,ms[i].2]:=λz=>by
     simp only[Ba,and_true] at z;exact e (Qg z.1 z.2)
    rw[decide_eq_false ne];simp only[uD,if_false];refine pA (Uh ha rfl (pA (Uh hb rfl ?_)));simp only[gt,gx,gy];exact pA (rc_pair t1 t2 (by show A.units+1+64<_;lia) (pM q))
end
open PySem.W (kas_sort kas_ask)
def listLt(a b:Addr):Meets (BW.«list.__lt__» ⟨[.ref a,.ref b],[]⟩) (λA R s=>A.units+70<cLine/\∃(xs ys:List pB)(n m:Nat)(ns ms:List (Int×Int)),s.heap.get? a=some (uV "list" xs.toArray n)/\s.heap.get? b=some (uV "list" ys.toArray m)/\xs.length=ns.length/\ys.length=ms.length/\
  (∀(i:Nat)(u:pB)(k:Int×Int),xs[i]?=some u->ns[i]?=some k->yc s.heap u [k.1,k.2])/\(∀(i:Nat)(u:pB)(k:Int×Int),ys[i]?=some u->ms[i]?=some k->yc s.heap u [k.1,k.2])/\R (.ok (.ret (.bool (ltL ns ms)))) s):=by
 intro prog w A R s h;obtain⟨hu,xs,ys,n,m,ns,ms,ha,hb,lx,ly,tx,ty,q⟩:=h;refine pA (m:=FP (.ref b) (.type "list")) (BK (T:="list") (b:=true) ⟨_,hb,rfl⟩ AutoSeq1.sub_list_list ?_);exact pM ⟨BT AY _,ll_loop (i:=0) hu ha hb lx ly tx ty _ rfl (uL _) (uL _) q⟩
section
variable{prog:uB}{w:uW}{A:uv}{E:pB->pH->Prop}{s:pH}{C:Bool->pH->Prop}
theorem lt_lst{x y:pB}(hx:qK s.heap x ns)(hy:qK s.heap y ms)(hu:A.units+70<cLine)(q:C (ltL ns ms) s):wpAny (model prog w) A (HJ oneType' x y) C E s:=by
 obtain⟨a,xs,n,rfl,ha,lx,tx⟩:=hx;obtain⟨b,ys,m,rfl,hb,ly,ty⟩:=hy;rw[keyLt'_oneType,oneLt'_eq];simp only[if_true];refine pA (wpAny_cRoomFor (by lia) (pA (wpAny_callSpecialIfBound?_slot ⟨_,ha,rfl⟩ Ep (FK Ep ⟨_,ha,rfl⟩ PySem.F.entry_list_lt (PySem.F.args_list_lt_2 _ _) (listLt a b) ⟨hu,xs,ys,n,m,ns,ms,ha,hb,lx,ly,tx,ty,?_⟩))))
 exact UA q
def zes{M:Model}{vs:List pB}{Q:AE->pH->Prop}(h2:2<=vs.length)(hv:∀v,v∈vs->∃ns,qK s.heap v ns)(q:Q oneType' s):wpAny M A (Ek vs.toArray) Q E s:=by
 refine PySem.W.kas_kind (T:=.type "list") h2 (λv h=>?_) (by decide) (by decide) q
 obtain⟨ns,a,its,n,rfl,o,_⟩:=hv v h;exact(GH o).andThen .now
end
open PySem.W (KasT kas_asc kas_desc kas_rev kas_tail3 kas_descPart kas_count kas_place kas_bin kas_sort)
structure Tot(n:Nat)(ans:Nat->Nat->Bool):Prop where
 irr:∀i,ans i i=false
 tr:∀i j k,ans i j=true->ans j k=true->ans i k=true
 tot:∀i j,i<n->j<n->i≠j->ans i j=true∨ans j i=true
def Up(ans:Nat->Nat->Bool)(p:Array Nat)(m:Nat):Prop:=∀i j,i<j->j<m->ans (p.getD i 0) (p.getD j 0)=true
def Down(ans:Nat->Nat->Bool)(p:Array Nat)(m:Nat):Prop:=∀i j,i<j->j<m->ans (p.getD j 0) (p.getD i 0)=true
theorem j8{α β:Type}{ans:Nat->Nat->Bool}{f:α->KasT β}:∀t:KasT α,ansT ans (t.bind f)=ansT ans (f (ansT ans t))
 |.ret _=>rfl
 |.ask i j k=>j8 (k (ans i j))
variable{p:Array Nat}
section
variable{n:Nat}{ans:Nat->Nat->Bool}
theorem Ord.ne(h:Ord n p){i j:Nat}(hij:i<j)(hj:j<n):p.getD i 0≠p.getD j 0:=by
 have z:p.size=n:=by have:=h.length_eq;simpa using this
 have nd:p.toList.Nodup:=h.nodup_iff.mpr List.nodup_range;have e1:p.getD i 0=p.toList[i]'(by simp;lia):=by simp[Cw,show i<p.size by lia]
 have e2:p.getD j 0=p.toList[j]'(by simp;lia):=by simp[Cw,show j<p.size by lia]
 rw[e1,e2];exact(BN.mp nd) i j _ _ hij
theorem Tot.fl(T:Tot n ans)(h:Ord n p){i j:Nat}(hij:i<j)(hj:j<n)(hf:ans (p.getD j 0) (p.getD i 0)=false):ans (p.getD i 0) (p.getD j 0)=true:=by
 rcases T.tot _ _ (h.get (by lia) i) (h.get (by lia) j) (h.ne hij hj) with z|z
 ·exact z
 ·rw[hf] at z;cases z
theorem Up.step(T:Tot n ans)(u:Up ans p m)(h:∀i,i+1=m->ans (p.getD i 0) (p.getD m 0)=true):Up ans p (m+1):=λi j hij hj=>by
 by_cases z:j<m
 ·exact u i j hij z
 ·have e:j=m:=by lia
  subst e
  by_cases y:i+1=j
  ·exact h i y
  ·exact T.tr _ _ _ (u i (j-1) (by lia) (by lia)) (h (j-1) (by lia))
theorem Down.step(T:Tot n ans)(u:Down ans p m)(h:∀i,i+1=m->ans (p.getD m 0) (p.getD i 0)=true):Down ans p (m+1):=λi j hij hj=>by
 by_cases z:j<m
 ·exact u i j hij z
 ·have e:j=m:=by lia
  subst e
  by_cases y:i+1=j
  ·exact h i y
  ·exact T.tr _ _ _ (h (j-1) (by lia)) (u i (j-1) (by lia) (by lia))
theorem Wj(T:Tot n ans){p:Array Nat}(h:Ord n p):∀f m,1<=m->m+f=n->Up ans p m->m<=ansT ans (kas_asc p f m)/\ansT ans (kas_asc p f m)<=n/\Up ans p (ansT ans (kas_asc p f m))/\(ansT ans (kas_asc p f m)<n->ans (p.getD (ansT ans (kas_asc p f m)) 0) (p.getD (ansT ans (kas_asc p f m)-1) 0)=true)
 |0,m,h1,hm,u=>⟨pG _,by show m<=n;lia,u,λz=>by have:m<n:=z;lia⟩
 |f+1,m,h1,hm,u=>by
  have e:ansT ans (kas_asc p (f+1) m)=ansT ans (if ans (p.getD m 0) (p.getD (m-1) 0)=true then .ret m else kas_asc p f (m+1)):=rfl;rw[e]
  cases c:ans (p.getD m 0) (p.getD (m-1) 0) with
  |true=>rw[if_pos rfl];exact⟨pG _,by show m<=n;lia,u,λ_=>c⟩
  |false=>
   rw[if_neg (by decide)]
   obtain⟨a1,a2,a3⟩:=Wj T h f (m+1) (by lia) (by lia) (u.step T λi hi=>by
    have e:m-1=i:=by lia
    rw[e] at c;exact T.fl h (by lia) (by lia) c)
   exact⟨by lia,a2,a3⟩
theorem Zl(T:Tot n ans){p:Array Nat}(h:Ord n p):∀f m,1<=m->m+f=n->Down ans p m->∃m',ansT ans (kas_desc f p m 0)=(p,m',0)/\m<=m'/\m'<=n/\Down ans p m'
 |0,m,h1,hm,u=>⟨m,rfl,pG _,by lia,u⟩
 |f+1,m,h1,hm,u=>by
  have e:ansT ans (kas_desc (f+1) p m 0)=ansT ans (if ans (p.getD m 0) (p.getD (m-1) 0)=true then(if 0>0 then kas_desc f (kas_rev p (m-(0+1)) m) (m+1) 0 else kas_desc f p (m+1) 0)
   else .ask (p.getD (m-1) 0) (p.getD m 0) λd=>if d=true then .ret (p,m,0) else kas_desc f p (m+1) (0+1)):=rfl
  rw[e]
  cases c:ans (p.getD m 0) (p.getD (m-1) 0) with
  |true=>
   rw[if_pos rfl,if_neg (by decide)]
   obtain⟨m',a1,a2,a3⟩:=Zl T h f (m+1) (by lia) (by lia) (u.step T λi hi=>by
    have e:m-1=i:=by lia
    rw[e] at c;exact c)
   exact⟨m',a1,by lia,a3⟩
  |false=>
   rw[if_neg (by decide)]
   have y:=T.fl h (i:=m-1) (j:=m) (by lia) (by lia) c
   show ∃m',ansT ans (if ans (p.getD (m-1) 0) (p.getD m 0)=true then .ret (p,m,0) else kas_desc f p (m+1) (0+1))=_/\_
   rw[y,if_pos rfl];exact⟨m,rfl,pG _,by lia,u⟩
theorem Zy(hm:m<=p.size){k:Nat}(hk:k<m):(kas_rev p 0 m).getD k 0=p.getD (m-1-k) 0:=by
 have e:(kas_rev p 0 m)[k]?=p[m-1-k]?:=by
  unfold kas_rev;rw[getElem?_mirror_all hm,if_pos (by lia)]
  congr 1
  lia
 rw[UN,UN,e]
theorem zfp(T:Tot n ans)(hn:0<n)(h:Ord n p):∃m p',ansT ans (kas_count n p)=(m,p')/\1<=m/\m<=n/\Up ans p' m:=by
 have u1:Up ans p 1:=λi j hij hj=>by lia
 have z:p.size=n:=by have:=h.length_eq;simpa using this
 obtain⟨a1,a2,a3,a4⟩:=Wj T h (n-1) 1 (pG _) (by lia) u1
 unfold kas_count;rw[j8];generalize ansT ans (kas_asc p (n-1) 1)=m at a1 a2 a3 a4⊢
 by_cases c1:m=n
 ·subst c1;simp only[beq_self_eq_true,if_true];exact⟨m,p,rfl,a1,a2,a3⟩
 ·have c1':(m==n)=false:=beq_eq_false_iff_ne.mpr c1;simp only[c1',uD,if_false]
  by_cases c2:m>1
  ·rw[if_pos c2];have y:=a3 0 (m-1) (by lia) (by lia)
   show ∃m' p',ansT ans (if ans (p.getD 0 0) (p.getD (m-1) 0)=true then .ret (m,p) else kas_descPart m n (kas_rev p 0 m))=_/\_
   rw[y,if_pos rfl];exact⟨m,p,rfl,a1,a2,a3⟩
  ·have e:m=1:=by lia
   subst e;rw[if_neg c2];have y:=a4 (by lia)
   have d2:Down ans p (1+1):=λi j hij hj=>by
    have e1:i=0:=by lia
    have e2:j=1:=by lia
    subst e1 e2;exact y
   obtain⟨m',b1,b2,b3,b4⟩:=Zl T h (n-(1+1)) (1+1) (by lia) (by lia) d2
   unfold kas_descPart;rw[j8,b1];simp only[gt_iff_lt,Ur,if_false];unfold kas_tail3;rw[j8];have o2:Ord n (kas_rev p 0 m'):=h.rev _ _;have u2:Up ans (kas_rev p 0 m') m':=λi j hij hj=>by
    rw[Zy (by lia) (by lia),Zy (by lia) (by lia)]
    exact b4 _ _ (by lia) (by lia)
   obtain⟨g1,g2,g3,g4⟩:=Wj T o2 (n-m') m' (by lia) (by lia) u2
   exact⟨_,_,rfl,by lia,g2,g3⟩
theorem Ji(T:Tot n ans){p:Array Nat}(h:Ord n p){k:Nat}(hk:k<n)(u:Up ans p k):∀f l r,l<=r->r<=k->r-l<=f->(∀i,i<l->ans (p.getD i 0) (p.getD k 0)=true)->(∀i,r<=i->i<k->ans (p.getD k 0) (p.getD i 0)=true)->
  ∃l',ansT ans (kas_place p k f l r)=l'/\l'<=k/\(∀i,i<l'->ans (p.getD i 0) (p.getD k 0)=true)/\(∀i,l'<=i->i<k->ans (p.getD k 0) (p.getD i 0)=true)
 |0,l,r,h1,h2,h3,hl,hr=>⟨l,rfl,by lia,hl,λi a b=>hr i (by lia) b⟩
 |f+1,l,r,h1,h2,h3,hl,hr=>by
  unfold kas_place
  by_cases c:l≥r
  ·rw[if_pos c];exact⟨l,rfl,by lia,hl,λi a b=>hr i (by lia) b⟩
  ·rw[if_neg c];show ∃l',ansT ans (if ans (p.getD k 0) (p.getD ((l+r)/2) 0)=true then kas_place p k f l ((l+r)/2) else kas_place p k f ((l+r)/2+1) r)=l'/\_;have m1:l<=(l+r)/2:=by omega
   have m2:(l+r)/2<r:=by lia
   cases e:ans (p.getD k 0) (p.getD ((l+r)/2) 0) with
   |true=>
    rw[if_pos rfl];refine Ji T h hk u f l _ m1 (by lia) (by lia) hl λi a b=>?_
    by_cases y:i=(l+r)/2
    ·rw[y];exact e
    ·exact T.tr _ _ _ e (u _ _ (by omega) b)
   |false=>
    rw[if_neg (by decide)]
    have y:=T.fl h (i:=(l+r)/2) (j:=k) (by lia) hk e
    refine Ji T h hk u f _ r (by lia) h2 (by lia) (λi a=>?_) hr
    by_cases x:i=(l+r)/2
    ·rw[x];exact y
    ·exact T.tr _ _ _ (u i ((l+r)/2) (by omega) (by lia)) y
theorem ZD{k l:Nat}(hk:k<p.size)(hl:l<=k)(i:Nat):(bubble p k (k-l)).getD i 0=if i=l then p.getD k 0 else if l<i/\i<=k then p.getD (i-1) 0 else p.getD i 0:=by
 have e:=getElem?_bubble hk (k-l) (by omega) i
 have x:k-(k-l)=l:=by lia
 rw[x] at e;rw[UN,e]
 by_cases c1:i=l
 ·rw[if_pos c1,if_pos c1,UN]
 ·rw[if_neg c1,if_neg c1]
  by_cases c2:l<i/\i<=k
  ·rw[if_pos c2,if_pos c2,UN]
  ·rw[if_neg c2,if_neg c2,UN]
theorem ZI(T:Tot n ans):∀f(p:Array Nat) k,Ord n p->1<=k->k+f=n->Up ans p k->Up ans (ansT ans (kas_bin f p k)) n
 |0,p,k,h,h1,hk,u=>by
  have e:k=n:=by lia
  subst e;exact u
 |f+1,p,k,h,h1,hk,u=>by
  have z:p.size=n:=by have:=h.length_eq;simpa using this
  unfold kas_bin;rw[j8];obtain⟨l,e,a1,a2,a3⟩:=Ji T h (k:=k) (by lia) u k 0 k (uL _) (pG _) (by lia) (λi hi=>by lia) (λi a b=>by lia)
  rw[e];refine ZI T f _ (k+1) (h.of (GW _ _ _)) (by lia) (by lia) λi j hij hj=>?_
  rw[ZD (by lia) a1,ZD (by lia) a1]
  by_cases c1:i=l
  ·rw[if_pos c1,if_neg (by lia),if_pos (by lia)]
   exact a3 _ (by lia) (by lia)
  ·rw[if_neg c1]
   by_cases c2:l<i/\i<=k
   ·rw[if_pos c2,if_neg (by lia),if_pos (by lia)]
    exact u _ _ (by lia) (by lia)
   ·rw[if_neg c2]
    by_cases c3:j=l
    ·rw[if_pos c3];exact a2 _ (by lia)
    ·rw[if_neg c3]
     by_cases c4:l<j/\j<=k
     ·rw[if_pos c4];exact u _ _ (by lia) (by lia)
     ·rw[if_neg c4];exact u _ _ (by lia) (by lia)
theorem up_sort(T:Tot n ans)(hn:0<n):Up ans (ansT ans (kas_sort n)) n:=by
 have o0:Ord n (Uv (pP n)):=by unfold Ord;simp
 obtain⟨m,p,e,m1,m2,u⟩:=zfp T hn o0;have o1:Ord n (m,p).2:=by
  rw[←e];exact yf.ends (Zn hn o0)
 unfold kas_sort;rw[j8,e]
 by_cases c:m<n
 ·simp only[c,if_true];have x:max m 1=m:=by lia
  rw[x];exact ZI T (n-m) p m o1 m1 (by lia) u
 ·simp only[c,if_false];have x:m=n:=by lia
  subst x;exact u
end
open PySem.W (kas_sort kas_ask)
def LsI(H:Hp)(v:V)(ns:List (Int×Int)):Prop:=∃(q:Addr)(qs:List V),v=.ref q/\H q=some (.lst qs)/\qs.length=ns.length/\∀(j:Nat)(k:Int×Int),ns[j]?=some k->∃b,qs[j]?=some (.ref b)/\H b=some (.tup [.int k.1,.int k.2])
def KPl:KPT:=λH zs ans=>∃kp:Nat->List (Int×Int),(∀i,i<zs.length->LsI H (zs.getD i .non) (kp i))/\ans=λi j=>ltL (kp i) (kp j)
section
variable{X:Cx}{pins:List (Addr×Obj)}{σ:St}{H:Hp}{s:pH}
def lstI_of(I:Inv X pins σ H s){v:V}{u:pB}(h:LsI H v ns)(r:zm v u):qK s.heap u ns:=by
 obtain⟨q,qs,rfl,hq,hl,he⟩:=h
 cases(show u=um q from r);obtain⟨z,its,n,rv,hlen,e⟩:=I.lstM hq;refine⟨q,its,n,rfl,e,by rw[←rv.length];exact hl,λi u k hu hk=>?_⟩
 obtain⟨b,hb,hH⟩:=he i k hk;obtain⟨v,hv,rr⟩:=vals_get? rv hu;rw[hb] at hv
 cases hv
 cases(show u=um b from rr);exact WU I (ns:=[k.1,k.2]) hH
theorem zhn(hu:X.A.units+80<cLine):V9 X KPl:=by
 intro pins σ H s zs ks ans I r h;obtain⟨kp,ok,rfl⟩:=h;have len:=r.length;have lst:∀i,i<ks.length->qK s.heap (ks.getD i UK) (kp i):=λi hi=>lstI_of I (ok i (by lia)) (Xh r i (by lia))
 refine⟨oneType',λh2 Q' q'=>zes h2 (λv hv=>?_) q',λh2 i j C hi hj cc=>lt_lst (lst i hi) (lst j hj) (by show X.A.units+1+1+70<_;lia) cc⟩
 obtain⟨i,hi,e⟩:=UC.mp hv;refine⟨kp i,?_⟩;have t:=lst i hi;have e':ks.getD i UK=v:=by simp[hi,e]
 rw[e'] at t;exact t
end
def TupR(h:Heap)(v:pB)(ns ms:List Int)(l r:Bool):Prop:=∃(a:Addr)(x y:pB)(n:Nat)(dd:Option Addr)(sl:Array (Option pB)),v=.ref a/\h.get? a=some {cls:=.type "tuple",dict:=dd,data:=.seq #[x,y,.bool l,.bool r] n,slots:=sl}/\yc h x ns/\yc h y ms
open PySem.W (KatTups) in
theorem ktupsR{h:Heap}:∀vs:List pB,(∀v,v∈vs->∃a b l r,a≠[]/\TupR h v a b l r)->∃fs,fs.length=vs.length/\KatTups h vs fs/\∀f,f∈fs->∃ns,yc h f ns
 |[],_=>⟨[],rfl,.nil,λf hf=>by cases hf⟩
 |v::vs,hv=>by
  obtain⟨fs,l,t,r⟩:=ktupsR vs λu hu=>hv u (pE _ hu);obtain⟨a,b,l',r',ne,p,x,y,n,dd,sl,rfl,o,i,j⟩:=hv v (pj ..);refine⟨x::fs,by simp[l],.cons o rfl rfl rfl t,λf hf=>?_⟩
  rcases pS.mp hf with rfl|hf
  ·exact⟨_,i⟩
  ·exact r f hf
open PySem.W (CodeHd codeHdIn tabIn)
structure FunC(K:pI)(x qual:Str)(st:Stmt)(f:Addr)(fd:UM)(c P:Addr):Prop where
 ex:∃(oc:pB)(od:Option Addr)(kV doc pm:pB)(an:Option Addr)(ct:pB)(osl:Array (Option pB)),
  fd=Ut x qual (wV st) (xw st) (zo st) .none kV doc pm an (.ref c) ct/\K.lookup f=some ⟨oc,od,.func fd,osl⟩/\Ay K (.ref c) qual=true
 hd:codeHdIn K c P=true
section
variable{P:uB}{w:uW}{K:pI}{mg:Str->Option pB}{base:Heap}
def FunC.ok{x qual:Str}{st:Stmt}{f c tb:Addr}{fd:UM}{k:Nat}(F:FunC K x qual st f fd c tb)(S:zw N ps (zo st))(len:∀vs H Q E,sp vs H Q E->vs.length=ps.length)
  (hbody:∀(A:uv)(outer:List Env)(s:pH)(H:Hp)(vs:List V)(Q:VK)(E:XK),yb k (A.deeper (EC qual (zo st) s.heap.objs.size f (.ref c)))->sp vs H Q E->
   ∃t,PSs (wc CX0 P w K mg base N qual (zo st) f (.ref c) A outer s H E).nox (xw st) t/\t {nx:=λ_ H'=>Q .non H',rt:=Q} (start N vs) H):zv P w K mg base CX0 (k+1) f fd ps sp:=by
 obtain⟨oc,od,kV,doc,pm,an,ct,osl,rfl,lk,hcd⟩:=F.ex;refine fn_of lk hcd S len λA outer s H vs Q E hr hsp=>?_;obtain⟨t,h,q⟩:=hbody A outer s H vs Q E hr hsp;exact⟨t,h.nox,q⟩
end
variable{pos:Pos}{H:Hp}{P:Addr}{q:Str}
def xh.ne(t:xh H P pos q){a:Addr}{o:HO}(h:H a=some o)(n:∀ps,o≠.tbl ps):a≠P:=λz=>by
 obtain⟨ps,e,_⟩:=t;rw[z,e] at h
 cases h;exact n ps rfl
variable{xs:List V}
def zE.tup(g:zE P H H')(t:xh H P pos q){a:Addr}(h:H a=some (.tup xs)):H' a=some (.tup xs):=g a _ (t.ne h λ_ z=>nomatch z) h
def zE.lst(g:zE P H H')(t:xh H P pos q){a:Addr}(h:H a=some (.lst xs)):H' a=some (.lst xs):=g a _ (t.ne h λ_ z=>nomatch z) h
open PySem.W (kas_sort)
structure STO{α:Type}(lt:α->α->Bool):Prop where
 irr:∀a,lt a a=false
 tr:∀a b c,lt a b=true->lt b c=true->lt a c=true
 tot:∀a b,a≠b->lt a b=true∨lt b a=true
variable{α β:Type}
noncomputable def lexB[DecidableEq α](r:α->α->Bool)(s:β->β->Bool)(a b:α×β):Bool:=if a.1=b.1 then s a.2 b.2 else r a.1 b.1
def STO.lex[DecidableEq α]{r:α->α->Bool}{s:β->β->Bool}(R:STO r)(S:STO s):STO (lexB r s) where
 irr a:=by unfold lexB;rw[if_pos rfl];exact S.irr _
 tr a b c h1 h2:=by
  unfold lexB at*
  by_cases e1:a.1=b.1
  ·rw[if_pos e1] at h1
   by_cases e2:b.1=c.1
   ·rw[if_pos e2] at h2;rw[if_pos (e1.trans e2)];exact S.tr _ _ _ h1 h2
   ·rw[if_neg e2] at h2;rw[if_neg (λz=>e2 (e1.symm.trans z)),e1];exact h2
  ·rw[if_neg e1] at h1
   by_cases e2:b.1=c.1
   ·rw[if_neg (λz=>e1 (z.trans e2.symm)),←e2];exact h1
   ·rw[if_neg e2] at h2;have n:a.1≠c.1:=λz=>by
     rw[←z] at h2;have:=R.tr _ _ _ h1 h2;rw[R.irr] at this
     cases this
    rw[if_neg n];exact R.tr _ _ _ h1 h2
 tot a b h:=by
  unfold lexB
  by_cases e:a.1=b.1
  ·rw[if_pos e,if_pos e.symm];exact S.tot _ _ λz=>h (Qg e z)
  ·rw[if_neg e,if_neg λz=>e z.symm];exact R.tot _ _ e
theorem STO.int:STO (λa b:Int=>decide (a<b)) where
 irr a:=decide_eq_false (by lia)
 tr a b c h1 h2:=decide_eq_true (by have:=of_decide_eq_true h1;have:=of_decide_eq_true h2;lia)
 tot a b h:=by
  rcases Int.lt_or_gt_of_ne h with h|h
  ·exact .inl (decide_eq_true h)
  ·exact .inr (decide_eq_true h)
abbrev lt2:Int×Int->Int×Int->Bool:=lexB (λa b=>decide (a<b)) (λa b=>decide (a<b))
def sto2:STO lt2:=STO.int.lex STO.int
theorem lex1(a b:Int):HT.lexLt [a] [b]=decide (a<b):=by
 rw[HT.lexLt_cons,HT.lexLt_nil_nil]
 by_cases e:a=b
 ·rw[if_pos e];exact(decide_eq_false (by lia)).symm
 ·rw[if_neg e]
def lex2(a b c d:Int):HT.lexLt [a,b] [c,d]=lt2 (a,b) (c,d):=by
 rw[HT.lexLt_cons,lex1];rfl
theorem zg3{lt:β->β->Bool}(S:STO lt)(k:α->β)(z:α){fs:List α}(nd:(fs.map k).Nodup)(or:Ord fs.length p)(ep:2<=fs.length->p=ansT (λi j=>lt (k (fs.getD i z)) (k (fs.getD j z))) (kas_sort fs.length)):
  (p.toList.map λi=>fs.getD i z).Perm fs/\(p.toList.map λi=>fs.getD i z).Pairwise λa b=>lt (k a) (k b)=true:=by
 have rg:((pP fs.length).map λi=>fs.getD i z)=fs:=by
  refine GF (by simp) λi h1 h2=>?_
  have hi:i<fs.length:=h2
  simp[hi]
 have lo:p.toList.length=fs.length:=by rw[or.length_eq,uS]
 refine⟨?_,?_⟩
 ·have:=or.map λi=>fs.getD i z;rw[rg] at this;exact this
 ·by_cases h2:2<=fs.length
  ·have nd':=List.pairwise_map.mp nd;have T:Tot fs.length (λi j=>lt (k (fs.getD i z)) (k (fs.getD j z))):=⟨λi=>S.irr _,λi j l=>S.tr _ _ _,λi j hi hj hn=>S.tot _ _ λe=>hn (by
    have e1:fs.getD i z=fs[i]:=by simp[hi]
    have e2:fs.getD j z=fs[j]:=by simp[hj]
    rw[e1,e2] at e;rcases Br i j with h|h|h
    ·exact absurd e ((BN.mp nd') i j hi hj h)
    ·exact h
    ·exact absurd e.symm ((BN.mp nd') j i hj hi h))⟩
   have u:=up_sort T (by lia)
   rw[←ep h2] at u;refine List.pairwise_iff_getElem.mpr λi j hi hj hij=>?_;have hi':i<p.size:=by simpa using hi
   have hj':j<p.size:=by simpa using hj
   have hn:p.size=fs.length:=by simpa using lo
   have:=u i j hij (by lia)
   have e1:p.getD i 0=p[i]:=by simp[Cw,hi']
   have e2:p.getD j 0=p[j]:=by simp[Cw,hj']
   rw[e1,e2] at this
   simpa using this
  ·have l1:(p.toList.map λi=>fs.getD i z).length<=1:=by rw[pC,lo];lia
   revert l1
   generalize (p.toList.map λi=>fs.getD i z)=ws;intro l1
   match ws,l1 with
   |[],_=>exact .nil
   |[a],_=>exact gP _ _
end L2
namespace L2
open PySem
theorem hu80{A:uv}{k:Nat}(hr:yb k A):A.units+80<cLine:=by have:=hu100 hr;lia
noncomputable def lamAt(st:Stmt):Scope×Pos:=match(xw st).getLast? with
 |some (.Return (some (.Call _ _ (⟨_,.Lambda _ _ sc lp,_⟩::_) _)) _)=>(sc,lp)
 |_=>(zo st,⟨0,0,0,0⟩)
end L2
namespace L2
open PySem PySem.Spec PyProof.Rows
noncomputable def yA(mask:Nat):Nat->Nat->List Nat
 |0,i=>[i]
 |s+1,i=>i::yA mask s ((i*5+1)%(mask+1))
noncomputable def cnt(mask:Nat)(owner:Array (Option Nat)):Nat:=((pP (mask+1)).filter λj=>(owner.getD j none).isSome).length
section
variable{X:Cx}
def X1(K:pI):R2:=λx y H Q=>∃d es,RdD K H d x/\RdD K H (.list es) y/\d.canLay0=true/\uU es=true/\d.depth<=60/\Q (.bl (!(es.any λe=>ut e d))) H
theorem zeg(hu:X.A.units+64<cLine):OpR X (Qy .NotIn) (X1 X.K):=by
 intro pins s σ H x y v u Q I rx ry h;obtain⟨d,es,hd,he,c1,c2,c3,q⟩:=h;obtain⟨as,ra⟩:=wZ I d x v hd rx;obtain⟨bs,rb⟩:=wZ I _ y u he ry;exact SeqAt.notIn_list_reads rb ra c2 c1 (by lia) ⟨.bl _,H,I,rfl,q⟩
end
namespace RV
end RV
variable{d:Addr}
section
variable{prog:uB}{w:uW}{K:Type}[DecidableEq K](knd:KeyKind prog w K)
inductive xY(h:Heap):List (List K)->List pB->Prop
 |nil:xY h [] []
 |cons {k:List K} {b:Addr} {ks:List (List K)} {vs:List pB}:IsTupleKey knd h k b->xY h ks vs->xY h (k::ks) (.ref b::vs)
def xE(h:Heap)(ks:List (List K))(a:Addr):Prop:=∃o items n,h.get? a=some o/\o.cls=.type "tuple"/\o.data=.seq items n/\xY knd h ks items.toList
variable{knd}
variable{h:Heap}
theorem xY.inj{x y:List (List K)}{vs:List pB}(hx:xY knd h x vs)(hy:xY knd h y vs):x=y:=by
 induction hx generalizing y with
 |nil=>cases hy;rfl
 |cons h1 _ ih=>
  cases hy with
  |cons h2 t2=>rw[h1.inj h2,ih t2]
variable{a:Addr}
def xE.typeIs{s:pH}{ks:List (List K)}(x:xE knd s.heap ks a):s.TypeIs (.ref a) "tuple":=let⟨o,_,_,ho,hc,_⟩:=x;⟨o,ho,hc⟩
def xE.inj{x y:List (List K)}(hx:xE knd h x a)(hy:xE knd h y a):x=y:=by
 obtain⟨o,items,n,ho,_,hd,hi⟩:=hx;obtain⟨o',items',n',ho',_,hd',hi'⟩:=hy;obtain rfl:o=o':=ux (ho.symm.trans ho');rw[hd] at hd'
 injection hd' with h1 _
 subst h1;exact hi.inj hi'
theorem xE.keeps{h':Heap}{ks:List (List K)}{o:Obj}{es ep}(x:xE knd h ks a)(ho:h.get? d=some o)(hd:o.data=.dict es ep)(hs:gz d h h'):xE knd h' ks a:=by
 obtain⟨o',items,n,ho',hc,hd',hi⟩:=x;have hne:a≠d:=by
  rintro rfl;obtain rfl:o'=o:=ux (ho'.symm.trans ho);rw[hd] at hd';exact nomatch hd'
 refine⟨o',items,n,(hs.2 a hne).trans ho',hc,hd',?_⟩;generalize items.toList=vs at hi
 induction hi with
 |nil=>exact .nil
 |cons h1 _ ih=>exact .cons (h1.keeps ho hd hs) ih
noncomputable def Vj(knd:KeyKind prog w K)(ks:List (List K)):Int:=reduceHash (UV (ks.map (Bt knd)))
noncomputable def jc(ks:List (List K)):Nat:=(ks.map λk=>k.length+1).sum
variable{A:uv}{E:pB->pH->Prop}{s:pH}
theorem zfv{ks:List (List K)}{Q:Int->pH->Prop}(hu:A.units+2<cLine)(hk:xE knd s.heap ks a)(h:Q (Vj knd ks) {s with toks:=s.toks+(jc ks+1)}):
  wpAny (model prog w) A (pyHash (.ref a)) Q E s:=by
 have hT:=hk.typeIs;obtain⟨o,items,n,ho,_,hd,hi⟩:=hk;unfold pyHash
 first|unfold pyHashByItsType|skip
 first|refine pA (wpAny_cRoomFor_or (.inr (by omega)) ?_)|skip
 refine pA (BY hT AZ.lookup ?_);show wpAny _ _ (if(some (Value.builtin "tuple.__hash__")==some UK)=true then _ else _) Q E s;rw[if_neg (by rw[beq_builtin_none];exact uO)]
 refine pA (BY hT AZ.lookup ?_);show wpAny _ _ (callSpecialIfBoundUnlessNone? (.ref a) "__hash__" _>>=_) Q E s;refine pA (wpAny_callSpecialIfBoundUnlessNone?_slot hT AZ (AX AZ hT PySem.F.entry_tuple_hash ?_ (PySem.F.args_tuple_hash_1 _)));show wpAny _ _ (Builtin.Tuple.tupleItemsOf (.ref a)>>=_) _ _ s;refine pA (DB ho hd ?_);refine pA ?_;rw[←DC];refine AU _
  (λrest(b:Array Int) s'=>∃done left,ks=done++left/\xY knd s.heap left rest/\b.toList=done.map (Bt knd)/\s'={s with toks:=s.toks+jc done})
  _ ?_ ?_ _ _ ⟨[],ks,rfl,hi,rfl,rfl⟩
 ·rintro x rest b s' ⟨done,left,rfl,hl,hb,rfl⟩
  cases hl with
  |@cons k b' ks' _ h1 hl'=>
   refine pA ((Qd knd).pyHash (k:=k) (UR (by lia)) h1 ?_)
   have e:jc (done++[k])=jc done+(k.length+1):=by simp[jc]
   have eh:∀t,({({s with toks:=s.toks+jc done}:pH) with toks:=t}:pH)={s with toks:=t}:=λ_=>rfl
   first
    |exact pM ⟨done++[k],ks',by simp,hl',by simp[hb,Qd],by rw[e,←AO];rfl⟩
    |exact pA (pM (pM ⟨done++[k],ks',by simp,hl',by simp[hb,Qd],by rw[e,←AO];rfl⟩))
 ·rintro b s' ⟨done,left,rfl,hl,hb,rfl⟩
  cases hl;rw[uR] at h;show wpAny _ _ (retInt (UV b.toList)) _ _ _;rw[hb];refine wpAny_ret_mkInt ?_;show wpAny _ _ (if(decide (-(2:Int)^63<=UV (done.map (Bt knd)))&&decide (UV (done.map (Bt knd))<2^63))=true then _ else _) Q E _;unfold Vj reduceHash at h
  by_cases hr:(decide (-(2:Int)^63<=UV (done.map (Bt knd)))&&decide (UV (done.map (Bt knd))<2^63))=true
  ·rw[if_pos hr];rw[if_pos hr] at h;exact pM (by simpa[AO] using h)
  ·rw[if_neg hr];rw[if_neg hr] at h;exact pA (gC (pM (by simpa[AO] using h)))
theorem zfm{x y:List (List K)}{b:Addr}{P:Be->pH->Prop}(hu:A.units<cLine)(hx:xE knd s.heap x a)(hy:xE knd s.heap y b)(h:P (.done (.ret (.bool (decide (x=y))))) s):
  wpAny (model prog w) A (BW.«tuple.__eq__» ⟨[.ref a,.ref b],[]⟩) P E s:=by
 have hTb:=hy.typeIs;obtain⟨oa,xs,na,hoa,_,hda,hia⟩:=hx;obtain⟨ob,ys,nb,hob,_,hdb,hib⟩:=hy;show wpAny _ _ (FP (.ref b) (.type "tuple")>>=_) _ _ s;refine pA (BK hTb CJ ?_);simp only[gZ,uD,if_false];refine pA (DB hoa hda ?_);refine pA (DB hob hdb ?_);refine pA ?_;refine AU _
  (λrest r s'=>r.1=none/\s'=s/\∃x' y' xs' ys',rest=List.zip xs' ys'/\xY knd s.heap x' xs'/\xY knd s.heap y' ys'/\decide (x'=y')=decide (x=y)/\(xs'.length==ys'.length)=(xs.size==ys.size))
  _ ?_ ?_ _ _ ⟨rfl,rfl,x,y,xs.toList,ys.toList,rfl,hia,hib,rfl,by simp⟩
 ·rintro⟨u,v⟩ rest r s' ⟨hr,rfl,x',y',xs',ys',hz,hx',hy',hdec,hlen⟩
  cases hx' with
  |nil=>simp at hz
  |@cons k1 u' x'' xs'' h1 hx''=>
   cases hy' with
   |nil=>simp at hz
   |@cons k2 v' y'' ys'' h2 hy''=>
    simp only[Ag,Ba,QZ] at hz;obtain⟨⟨rfl,rfl⟩,rfl⟩:=hz;refine pA ((Qd knd).eqBool (x:=k1) (y:=k2) hu h1 h2 ?_)
    by_cases hk:k1=k2
    ·subst hk;rw[decide_eq_true rfl];simp only[gZ,uD,if_false];refine pM ⟨rfl,rfl,x'',y'',xs'',ys'',rfl,hx'',hy'',?_,by simpa using hlen⟩
     rw[←hdec]
     by_cases hxy:x''=y''
     ·simp[hxy]
     ·simp[hxy]
    ·rw[decide_eq_false hk];simp only[DD,if_true];have hf:decide (x=y)=false:=by rw[←hdec];simp[hk]
     rw[hf] at h;exact pA (pM (pM (pM h)))
 ·rintro⟨r1,r2⟩ s' ⟨hr,rfl,x',y',xs',ys',hz,hx',hy',hdec,hlen⟩
  simp only at hr
  subst hr;refine pM ?_;have hfin:(xs.size==ys.size)=decide (x=y):=by
   rw[←hdec,←hlen]
   cases hx' with
   |nil=>
    cases hy' with
    |nil=>simp
    |cons _ _=>simp
   |cons _ _=>
    cases hy' with
    |nil=>simp
    |cons _ _=>simp at hz
  show P (.done (.ret (.bool (xs.size==ys.size)))) s'
  rw[hfin];exact h
variable{Q:Bool->pH->Prop}
theorem zef{x y:List (List K)}{b:Addr}(hu:A.units+2<cLine)(hx:xE knd s.heap x a)(hy:xE knd s.heap y b)(h:Q (decide (x=y)) s):
  wpAny (model prog w) A (eqBool (.ref a) (.ref b)) Q E s:=by
 unfold eqBool
 try with_reducible refine Ue ?_
 show wpAny _ _ (if(um a==um b)=true then _ else _) Q E s
 by_cases hab:(um a==um b)=true
 ·rw[if_pos hab];have e:a=b:=by have:=eq_of_beq hab;injection this
  subst e;obtain rfl:=hx.inj hy;exact pA (gC (pM (by simpa using h)))
 ·rw[if_neg hab];exact pA (wpAny_richCompare_same_room (op:=.Eq) hx.typeIs hy.typeIs Aq
   (AX Aq hx.typeIs PySem.F.entry_tuple_eq (zfm (UR (knd:=knd) (by lia)) hx hy ⟨_,rfl,(λe=>nomatch e),UA h⟩) (PySem.F.args_tuple_eq_2 _ _)) (by lia))
def zee(n:Nat){ks:List K}(hk:IsTupleKey knd s.heap ks a)(h:Q true s):wpAny (model prog w) A (GN (n+1) (.ref a)) Q E s:=by
 have hT:=hk.typeIs;obtain⟨o,items,m,ho,_,hd,hi⟩:=hk;unfold GN;refine pA (BY hT Aq.lookup ?_);show wpAny _ _ (FP (.ref a) (.type "tuple")>>=_) _ _ s;refine pA (BK hT CJ ?_);simp only[gZ,uD,if_false];refine pA (BD ho hd ?_);refine pA ?_;show wpAny _ _ (forIn items _ _) _ _ s;rw[←DC];refine AU _ (λrest r s'=>r.1=none/\s'=s/\∀v∈rest,carriedByValue v=true) _ ?_ ?_ _ _ ⟨rfl,rfl,hi.byValue⟩
 ·rintro v rest r s' ⟨hr,rfl,hall⟩;rw[eqIsQuiet_byValue _ (hall v pj)];refine pA (pM ?_);simp only[gZ,uD,if_false];exact pM ⟨rfl,rfl,λu hu'=>hall u (pE _ hu')⟩
 ·rintro⟨r1,r2⟩ s' ⟨hr,rfl,_⟩
  simp only at hr
  subst hr;exact pM h
theorem zf3{ks:List (List K)}(hk:xE knd s.heap ks a)(h:Q true s):wpAny (model prog w) A (GN 8 (.ref a)) Q E s:=by
 have hT:=hk.typeIs;obtain⟨o,items,n,ho,_,hd,hi⟩:=hk;unfold GN;refine pA (BY hT Aq.lookup ?_);show wpAny _ _ (FP (.ref a) (.type "tuple")>>=_) _ _ s;refine pA (BK hT CJ ?_);simp only[gZ,uD,if_false];refine pA (BD ho hd ?_);refine pA ?_;show wpAny _ _ (forIn items _ _) _ _ s;rw[←DC];refine AU _ (λrest r s'=>r.1=none/\s'=s/\∃left,xY knd s.heap left rest) _ ?_ ?_ _ _ ⟨rfl,rfl,ks,hi⟩
 ·rintro v rest r s' ⟨hr,rfl,left,hl⟩
  cases hl with
  |@cons k b ks' _ h1 hl'=>
   refine pA (zee 6 h1 ?_);simp only[gZ,uD,if_false];exact pM ⟨rfl,rfl,ks',hl'⟩
 ·rintro⟨r1,r2⟩ s' ⟨hr,rfl,_⟩
  simp only at hr
  subst hr;exact pM h
end
noncomputable def jV{prog:uB}{w:uW}{K:Type}[DecidableEq K](knd:KeyKind prog w K):HeapKind prog w (List (List K)) where
 is:=xE knd
 hash:=Vj knd
 draws:=λks=>jc ks+1
 room:=λA=>A.units+2<cLine
 inj:=λhx hy=>hx.inj hy
 keeps:=λx ho hd hs=>x.keeps ho hd hs
 pyHash:=λhu hk h=>zfv hu hk h
 eqBool:=λhu hx hy h=>zef hu hx hy h
 quiet:=λhk h=>zf3 hk h
theorem zaz{prog:uB}{w:uW}{K:Type}[DecidableEq K]{knd:KeyKind prog w K}{A:uv}(hu:A.units+3<cLine):(jV knd).room A.in1:=by
 show A.in1.units+2<cLine
 simp
 omega
abbrev K2:=List (List Key)
def NK(H:Hp)(b:Addr)(ks:K2):Prop:=∃cs:List Addr,H b=some (.tup (cs.map V.ref))/\Bi (λ(c:Addr)(k:List Key)=>H c=some (.tup (k.map kV))) cs ks
def NK.two{H:Hp}{b c:Addr}{k l:List Key}(h:H b=some (.tup [.ref c,.ref d]))(h1:H c=some (.tup (k.map kV)))(h2:H d=some (.tup (l.map kV))):NK H b [k,l]:=⟨[c,d],h,.cons h1 (.cons h2 .nil)⟩
section
variable{P:uB}{w:uW}{H:Hp}{h:Heap}{a b:Addr}
theorem zey{cs:List Addr}{its:List pB}{ks:K2}(ok:HOk P w H h)(r:zn (cs.map V.ref) its)(p:Bi (λ(c:Addr)(k:List Key)=>H c=some (.tup (k.map kV))) cs ks):xY (zH P w) h ks its:=by
 induction p generalizing its with
 |nil=>cases r;exact .nil
 |@cons c k cs ks h1 _ ih=>
  rw[pR] at r
  cases r with
  |cons r1 r2=>
   cases r1;exact .cons (wH ok h1) (ih r2)
def VI{ks:K2}(ok:HOk P w H h)(e:NK H b ks):(jV (zH P w)).is h ks b:=by
 obtain⟨cs,e1,e2⟩:=e;obtain⟨_,its,r,o,h1,h2,n,h3⟩:=(show yj P w H h b (.tup (cs.map V.ref)) from ok b _ e1);exact⟨o,its.toArray,n,h1,h2,h3,by simpa using zey ok r e2⟩
end
abbrev N3:=K2×Addr×V
def KNp:List N3->List (K2×Addr×pB)->Prop:=Bi λp q=>p.1=q.1/\p.2.1=q.2.1/\zm p.2.2 q.2.2
noncomputable def nD(P:uB)(w:uW)(a:Addr)(kvs:List N3):HO:=.ext λh=>(a==Ul)=false/\kvs.length<=sizeLine/\(kvs.map (·.1)).Nodup/\∃xs,KNp kvs xs/\∃o es ep,h.get? a=some o/\o.ExactDict/\o.data=.dict es ep/\es.toList=xs.map (Gg (jV (zH P w)))
def KN(H:Hp)(kvs:List N3):Prop:=∀p,p∈kvs->NK H p.2.1 p.1
noncomputable def yR(kvs:List N3)(k:K2):Option V:=(kvs.find? λkv=>decide (kv.1=k)).map (·.2.2)
noncomputable def yV(kvs:List N3)(k:K2)(b:Addr)(v:V):List N3:=if(yR kvs k).isSome=true then kvs.map (λkv=>if kv.1=k then(kv.1,kv.2.1,v) else kv) else kvs++[(k,b,v)]
variable{k:K2}
def za3{p:N3}{r:List N3}(e:p.1=k):yR (p::r) k=some p.2.2:=by simp[yR,UT,e]
def zcq{p:N3}{r:List N3}(e:¬p.1=k):yR (p::r) k=yR r k:=by simp[yR,UT,e]
theorem vh{kvs:List N3}:(yR kvs k).isSome=true↔k∈kvs.map (·.1):=by
 induction kvs with
 |nil=>simp[yR]
 |cons p r ih=>
  by_cases e:p.1=k
  ·rw[za3 e];simp[e]
  ·rw[zcq e,ih,pR,pS];exact⟨.inr,λh=>h.elim (λz=>absurd z.symm e) id⟩
theorem Ws(kvs:List N3)(k:K2)(b:Addr)(v:V):(yV kvs k b v).length<=kvs.length+1:=by
 unfold yV
 split
 ·rw[pC];lia
 ·simp
def Wo(kvs:List N3)(k:K2)(b:Addr)(v:V):(yV kvs k b v).map (·.1)=if(yR kvs k).isSome=true then kvs.map (·.1) else kvs.map (·.1)++[k]:=by
 unfold yV
 split
 ·rw[gM];refine Qx λkv _=>?_;show(if kv.1=k then(kv.1,kv.2.1,v) else kv).1=kv.1
  split<;>rfl
 ·simp
theorem ZO{kvs:List N3}{b:Addr}{v:V}(h:(kvs.map (·.1)).Nodup):((yV kvs k b v).map (·.1)).Nodup:=by
 rw[Wo]
 split
 ·exact h
 ·rename_i n
  refine UB.mpr ⟨h,gP _ _,λx hx y hy e=>?_⟩;rw[pZ.mp hy] at e;subst e;exact n (vh.mpr hx)
theorem KNp.val{kvs:List N3}{xs:List (K2×Addr×pB)}(r:KNp kvs xs)(k:K2):xQ (yR kvs k) ((atKey xs k).map (·.2)):=by
 unfold KNp at r
 induction r with
 |nil=>exact BC
 |@cons p q ps qs h t ih=>
  obtain⟨h1,_,h2⟩:=h
  by_cases e:p.1=k
  ·have e':q.1=k:=h1.symm.trans e;have b:atKey (q::qs) k=some q.2:=by simp[atKey,UT,e']
   rw[za3 e,b];exact h2
  ·have e':¬q.1=k:=λz=>e (h1.trans z);have b:atKey (q::qs) k=atKey qs k:=by simp[atKey,UT,e']
   rw[zcq e,b];exact ih
theorem KNp.put{kvs:List N3}{xs:List (K2×Addr×pB)}(r:KNp kvs xs)(k:K2){b:Addr}{y:V}{u:pB}(ry:zm y u):KNp (yV kvs k b y) (Fj xs k b u):=by
 have e:(yR kvs k).isSome=(atKey xs k).isSome:=by rw[(r.val k).isSome_eq,Au]
 unfold yV Fj;rw[e]
 by_cases q:(atKey xs k).isSome=true
 ·rw[if_pos q,if_pos q];unfold KNp at*;clear e q
  induction r with
  |nil=>exact .nil
  |@cons p q ps qs h t ih=>
   rw[pR,pR];refine .cons ?_ ih;obtain⟨h1,h2,h3⟩:=h;unfold putAt
   by_cases e:p.1=k
   ·rw[if_pos e,if_pos (h1.symm.trans e)];exact⟨h1,h2,ry⟩
   ·rw[if_neg e,if_neg (λz=>e (h1.trans z))];exact⟨h1,h2,h3⟩
 ·rw[if_neg q,if_neg q];exact GX r ⟨rfl,rfl,ry⟩
theorem KNp.keys{kvs:List N3}{xs:List (K2×Addr×pB)}(r:KNp kvs xs):xs.map (·.1)=kvs.map (·.1)/\xs.map (λq=>q.2.1)=kvs.map (λp=>p.2.1):=by
 unfold KNp at r
 induction r with
 |nil=>exact⟨rfl,rfl⟩
 |cons h _ ih=>rw[pR,pR,pR,pR,ih.1,ih.2,h.1,h.2.1];exact⟨rfl,rfl⟩
section
variable{P:uB}{w:uW}{H:Hp}{h:Heap}{a:Addr}{kvs:List N3}
theorem nd_rd(ok:HOk P w H h)(e:Rd H a (nD P w a kvs))(kn:KN H kvs):kvs.length<=sizeLine/\(a==Ul)=false/\∃xs,KNp kvs xs/\h.DictOfH (jV (zH P w)) a xs:=by
 obtain⟨⟨hd,z,nd,xs,r,o,es,ep,h1,h2,h3,h4⟩,_⟩:=(show yj P w H h a (nD P w a kvs) from e.ok ok);refine⟨z,hd,xs,r,o,es,ep,h1,h2,h3,h4,λx hx=>?_,by rw[r.keys.1];exact nd⟩
 have all:∀{l:List N3}{m:List (K2×Addr×pB)},KNp l m->(∀p,p∈l->NK H p.2.1 p.1)->∀x∈m,(jV (zH P w)).is h x.1 x.2.1:=by
  intro l m q;unfold KNp at q
  induction q with
  |nil=>intro _ x hx;exact nomatch hx
  |@cons p q ps qs hq t ih=>
   intro hl x hx;rcases pS.mp hx with e|hx
   ·subst e;rw[←hq.1,←hq.2.1];exact VI ok (hl p (by simp))
   ·exact ih (λp hp=>hl p (pE _ hp)) x hx
 exact all r kn x hx
def nd_ok{H':Hp}{h':Heap}{xs:List (K2×Addr×pB)}(z:kvs.length<=sizeLine)(hd:(a==Ul)=false)(nd:(kvs.map (·.1)).Nodup)(r:KNp kvs xs)(dd:h'.DictOfH (jV (zH P w)) a xs):yj P w H' h' a (nD P w a kvs):=by
 obtain⟨o,es,ep,h1,h2,h3,h4,_⟩:=dd;refine⟨⟨hd,z,nd,xs,r,o,es,ep,h1,h2,h3,h4⟩,⟨o,h1⟩,?_⟩;rintro k1 k2 ⟨hd,z,nd,xs,r,o,es,ep,h1,h2,h3,h4⟩ k;exact⟨hd,z,nd,xs,r,o,es,ep,k _ h1,h2,h3,h4⟩
end
def X8(P:uB)(w:uW)(ty td:TE):TE:=λσ H Q=>ty σ H λy H1=>td σ H1 λx H2=>∃a kvs b k,x=.ref a/\y=.ref b/\Rd H2 a (nD P w a kvs)/\KN H2 kvs/\NK H2 b k/\Q (.bl (!(yR kvs k).isSome)) H2
def XW(P:uB)(w:uW)(td ty tv:TE):TS:=λD σ H=>tv σ H λv H1=>td σ H1 λx H2=>ty σ H2 λy H3=>∃a kvs b k,x=.ref a/\y=.ref b/\H3 a=some (nD P w a kvs)/\KN H3 kvs/\NK H3 b k/\kvs.length<sizeLine/\D.nx σ (upd H3 a (nD P w a (yV kvs k b v)))
def Jf(P:uB)(w:uW):TE:=λ_ H Q=>∀p,H p=none->Q (.ref p) (upd H p (nD P w p []))
section
variable{X:Cx}{P:uB}{w:uW}{o i e value:Expr}{pos pos' tpos:Pos}{td ty tv:TE}
def ZG(hP:X.prog=P)(hw:X.w=w):PE X (.Dict [] [] pos) (Jf P w):=λpins s σ H Q I h=>by
 subst hP hw;exact GL ⟨.ref s.heap.objs.size,_,I.laid (a:=s.heap.objs.size) (o:=nD X.prog X.w s.heap.objs.size []) (t':=s.toks) (λ_ _ q=>pU _ q) (pG _)
  (nd_ok (uL _) (beq_eq_false_iff_ne.mpr (BI (ur I.big))) Uw .nil (Heap.DictOfH.new s.heap)),rfl,h _ (I.hok.fresh (pG _))⟩
theorem Zo(hP:X.prog=P)(hw:X.w=w)(hu:X.A.units+64<cLine)(hi:PE X i ty)(ho:PE X o td):PC X .NotIn i o (X8 P w ty td):=by
 subst hP hw;intro pins s σ H Q I h;refine thn (hi pins s σ H _ I h) λiv s1⟨y,H1,I1,ry,q1⟩=>thn (ho pins s1 σ H1 _ I1 q1) λu s2⟨x,H2,I2,rx,a,kvs,b,k,ex,ey,e,kn,nk,q2⟩=>?_;subst ex ey;obtain rfl:u=um a:=rx;obtain rfl:iv=um b:=ry;obtain⟨z,hd,xs,rel,dd⟩:=nd_rd I2.hok e kn;refine GK (zaz (by lia)) (VI I2.hok nk) hd dd ?_
 have q:=(rel.val k).isSome_eq;rw[Au] at q;rw[←q];exact⟨.bl _,H2,I2.tok _,rfl,q2⟩
theorem ZV(hP:X.prog=P)(hw:X.w=w)(hu:X.A.units+64<cLine)(ho:PE X o td)(hi:PE X i ty)(hv:PE X value tv)(hs:Cp value (some (.Subscript o i pos')) pos.line X.env=pure false):
  PS X (.Assign [.Subscript o i pos'] value pos) (XW P w td ty tv):=by
 subst hP hw;intro pins s σ H D I h;refine EG (thn (hv pins s σ H _ I h) λr s1⟨v,H1,I1,rv,q1⟩=>thn (ho pins s1 σ H1 _ I1 q1) λu s2⟨x,H2,I2,rx,q2⟩=>thn (hi pins s2 σ H2 _ I2 q2) λiv s3⟨y,H3,I3,ry,a,kvs,b,k,ex,ey,e,kn,nk,l,q3⟩=>?_) hs;subst ex ey;obtain rfl:u=um a:=rx;obtain rfl:iv=um b:=ry;obtain⟨z,hd,xs,rel,dd⟩:=nd_rd I3.hok (.inl e) kn;have hz:xs.length<=sizeLine:=by rw[←Am rel];exact z
 have hl:(yV kvs k b v).length<=sizeLine:=by have:=Ws kvs k b v;lia
 obtain⟨⟨_,_,nd,_⟩,_⟩:=I3.hok a _ e;refine FN (hsz:=hz) (zaz (by lia)) (VI I3.hok nk) dd λh' dd' hs=>⟨σ,_,?_,q3⟩
 have he:∃q,h'.get? a=some q:=let⟨q,_,_,hq,_⟩:=dd';⟨q,hq⟩;exact jy I3 (by rw[e];exact BC) hs he (nd_ok hl hd (ZO nd) (rel.put k rv) dd')
end
noncomputable def Itf(d:Addr)(o:Obj)(u:HO)(bs:List Addr):It:=
 ⟨λi H=>i<bs.length/\H d=some (.frz o u),λi H x H'=>H'=H/\∃b,bs[i]?=some b/\x=.ref b,λi H=>bs.length<=i/\H d=some (.frz o u)⟩
variable{bs:List Addr}
def zgd{P:uB}{w:uW}{K:pI}{tg:Expr}{it:Addr}{o:Obj}{u:HO}{es:Array Dq}{ep:Nat}(hd:o.data=.dict es ep)(hb:es.toList.map (·.key)=bs.map um):
  Turn P w K tg (Itf d o u bs) [it] it (λi h=>h.IsKeyIter it d i es.size ep) where
 mem:=by simp
 obj:=λi h st b z=>by
  rw[pZ.mp z];obtain⟨u,e,_,c⟩:=st;exact⟨u,e,λv y=>by rw[c] at y;cases y⟩
 keep:=λi h h' st k=>by
  obtain⟨u,e,c⟩:=st;exact⟨u,k it (by simp) u e,c⟩
 item:=by
  intro X hP hw hK hc i pins s σ H E I hf st hg;subst hP hw hK;obtain⟨f0,f1,f2,f3,f4,f5⟩:=hf it (by simp)
  have lb:es.size=bs.length:=by
   have:=congrArg Bd hb
   simpa using this
  have hi:i<es.size:=by rw[lb];exact hg.1
  have od:=(I.hok d _ hg.2).1;refine zfw st od hd hi λh' st' sb=>?_;have I1:Inv X pins σ H {s with heap:=h'}:=I.turned (t':=s.toks) (λb o hb e=>(sb.2 b hb).trans e) f0 f1 f3 f4 f5;have hib:i<bs.length:=hg.1;have ek:es[i].key=.ref bs[i]:=by
   have z:=congrArg (λl=>l[i]?) hb;simp only[pT,Ap,UD hi,pJ hib,Ug,At] at z;exact z
  obtain⟨u,e,c,dd⟩:=id st';exact⟨_,rfl,WG (s:={s with heap:=h'}) e c dd (by decide) ⟨.ref bs[i],H,I1,ek,⟨rfl,bs[i],pJ hib,rfl⟩,st',λb z=>(hf b z).1⟩⟩
 done:=by
  intro X hP hw hK hc i pins s σ H E I hf st hg;subst hP hw hK;obtain⟨f0,f1,f2,f3,f4,f5⟩:=hf it (by simp)
  have lb:es.size=bs.length:=by
   have:=congrArg Bd hb
   simpa using this
  exact zek (I.ok.hd hc) st (I.hok d _ hg.2).1 hd (by rw[lb];exact hg.1) λh' eb=>⟨rfl,I.turned (t':=s.toks) (λb o z e=>eb b o z e) f0 f1 f3 f4 f5⟩
 self:=λA i s Q E st h=>wpAny_pyIter_keyiter st h
section
variable{X:Cx}{tg:Expr}{pins:List (Addr×Obj)}{σ:St}{H:Hp}{s:pH}{P:uB}{w:uW}
def Inv.freezeN{o:Obj}{kvs:List N3}(I:Inv X pins σ H s)(e:H d=some (nD P w d kvs))(ho:s.heap.get? d=some o):Inv X pins σ (upd H d (.frz o (nD P w d kvs))) s:=by
 have ne:∀b u,H b=some u->u≠nD P w d kvs->b≠d:=λb u q n z=>by rw[z,e] at q;cases q;exact n rfl
 have J:=I.step (g':=s.gens) (d':=s.drawn) (t':=s.toks) (h':=s.heap) (H':=upd H d (.frz o (nD P w d kvs))) (ch:=[]) (λ_ z=>nomatch z) (λb u _ _ _ q _=>q) (λb u _ _ _ q _=>⟨u.slots,q⟩) (λb u _ _ n=>by rw[zh λz=>by rw[z,e] at n;cases n];exact n)
  (λb u _ q=>⟨u,q⟩) (λb xs q=>by rw[zh (ne b _ q λz=>nomatch z)];exact q) (λb u v q=>by rw[zh (ne b _ q λz=>nomatch z)];exact q) (λb ps q=>⟨#[],by rw[zh (ne b _ q λz=>nomatch z),q];simp⟩) (λm hm=>hm) (λb u q=>?_) I.bare
 ·exact J
 ·by_cases z:b=d
  ·subst z;rw[upd_same] at q
   cases q;refine⟨ho,((I.hok b _ e).stay (λc v _ r=>r) (λc r=>?_) λc xs r=>?_)⟩
   ·rw[zh (ne c _ r λz=>nomatch z)];exact r
   ·rw[zh (ne c _ r λz=>nomatch z)];exact r
  ·rw[zh z] at q;refine(I.hok b u q).stay (λc v _ r=>r) (λc r=>?_) λc xs r=>?_
   ·rw[zh (ne c _ r λz=>nomatch z)];exact r
   ·rw[zh (ne c _ r λz=>nomatch z)];exact r
def zea(P:uB)(w:uW)(td:TE):TI:=λσ H R=>td σ H λx H1=>∃d kvs,x=.ref d/\H1 d=some (nD P w d kvs)/\∀o,R (Itf d o (nD P w d kvs) (kvs.map λp=>p.2.1)) (upd H1 d (.frz o (nD P w d kvs)))
def zj6{l:Expr}{tl:TE}(hP:X.prog=P)(hw:X.w=w)(hl:PE X l tl):PI X tg l (zea P w tl):=by
 subst hP hw;intro pins s σ H R I h;refine thn (hl pins s σ H _ I h) λv s1⟨x,H1,I1,r1,q1⟩=>?_;obtain⟨d,kvs,rfl,e,q⟩:=q1
 cases r1;obtain⟨⟨hd,z,nd,xs,rel,o,es,ep,ho,hx,hdat,he⟩,_⟩:=I1.hok d _ e;have hk:es.toList.map (·.key)=(kvs.map λp=>p.2.1).map um:=by
  rw[he,gM,←rel.keys.2,gM];rfl
 have F:=I1.freezeN e ho;have nw:∀b o',s1.heap.get? b=some o'->(s1.heap.push {cls:=.type "dict_keyiterator",data:=.fields #[.ref d,.int 0 0,.int es.size 0,.int ep 0]}).get? b=some o':=λb o' e'=>pU _ e';refine zf9 hd ho hx.1 hdat ⟨s1.heap.objs.size,[s1.heap.objs.size],_,Itf d o (nD X.prog X.w d kvs) (kvs.map λp=>p.2.1),_,rfl,F.kept (t':=s1.toks) nw,zgd hdat hk,⟨_,uM _ rfl,rfl,rfl⟩,λb hb=>?_,q o⟩;rw[pZ.mp hb];exact F.fpOk (pG _) (F.hok.fresh (pG _))
end
def zhz{D:Addr}{o:Obj}{u:HO}{g:TG}{ti:TT}{te:TE}{σ':St}{H:Hp}{Q:VK}(Pv:Nat->List V->Hp->Prop)(h0:Pv 0 [] (upd H D (.lst [])))(hl:∀i ys H,Pv i ys H->H d=some (.frz o u))
  (hs:∀i ys H b,bs[i]?=some b->Pv i ys H->g (.ref b) σ' H λσ4 H4=>ti σ4 H4 λb H5=>if b=true then te σ4 H5 λy H6=>jl bs.length Pv D i y H6 else jv bs.length Pv i H5)
  (hd:∀ys H,Pv bs.length ys H->Q (.ref D) H):qo (Itf d o u bs) D g ti te σ' H Q:=by
 refine WL bs.length Pv h0 (λi ys H hi p=>⟨hi,hl i ys H p⟩) (λys H p=>⟨pG _,hl _ ys H p⟩) (λi ys H x H3 hi p y=>?_) hd;obtain⟨e,b,hb,ex⟩:=y;subst e ex;exact hs i ys _ b hb p
noncomputable def gallop':Bool->QR->Array QR->Nat->Nat->Nat->StateT Qf Sem (Option Nat):=sortPriv%PySem.Builtin.gallop
noncomputable def mergeLo':Array QR->Array QR->StateT Qf Sem (Array QR):=sortPriv%PySem.Builtin.mergeLo
noncomputable def mergeHi':Array QR->Array QR->StateT Qf Sem (Array QR):=sortPriv%PySem.Builtin.mergeHi
variable{arr:Array QR}
section
variable{prog:uB}{w:uW}{A:uv}{E:pB->pH->Prop}{s:pH}{a₀:Array QR}{κ:AE}
def QL(prog:uB)(w:uW)(A:uv)(E:pB->pH->Prop)(s:pH)(κ:AE)(a₀:Array QR):Prop:=
 ∀(x y:QR)(st:Qf)(Q:Option Bool->Qf->Prop),x∈a₀->y∈a₀->kindOf st=κ->(∀b,Q (some b) st)->wpS (model prog w) A E s (lt' x y) Q st
def yz{i:Nat}{st:Qf}{Q:QR->Qf->Prop}(h:i<arr.size)(q:Q arr[i] st):wpS (model prog w) A E s (elem' arr i) Q st:=by
 rw[elem'_eq,UD h];exact pW q
theorem jU(hq:QL prog w A E s κ a₀){left:Bool}{key:QR}{base n hint:Nat}{st:Qf}{Q:Option Nat->Qf->Prop}(hk:key∈a₀)(ha:∀x,x∈arr->x∈a₀)(hb:base+n<=arr.size)(hh:hint<n)(hκ:kindOf st=κ)(h:∀k,k<=n->Q (some k) st):
  wpS (model prog w) A E s (gallop' left key arr base n hint) Q st:=by
 have bey:∀(i:Nat)(Q:Option Bool->Qf->Prop),i<n->(∀b,Q (some b) st)->wpS (model prog w) A E s ((do let x ←elem' arr (base+i);if left then lt' x key else return(←lt' key x).map (!·)):StateT Qf Sem (Option Bool)) Q st:=by
  intro i Q hi hQ;refine pO (yz (by lia) ?_)
  have hx:arr[base+i]∈a₀:=ha _ (Ub _)
  cases left with
  |true=>exact hq _ _ _ _ hx hk hκ hQ
  |false=>exact pO (hq _ _ _ _ hk hx hκ λb=>pW (hQ _))
 refine pO (bey hint _ hh λright=>?_)
 cases right with
 |true=>
  show wpS _ _ _ _ (_>>=_) _ _
  refine pO (UW (QJ (I:=λ_(c:Option (Option Nat)×Nat×Nat) st'=>st=st'/\c.1=none) (Q:=λc st'=>st=st'/\c.1=none) ?_ (λ_ _ z=>z) ⟨rfl,rfl⟩) ?_)
  ·rintro x ⟨r,lastofs,ofs⟩ st' _ _ ⟨rfl,e⟩;dsimp only at e⊢
   by_cases c:ofs≥n-hint
   ·rw[if_pos c];exact pW ⟨rfl,rfl⟩
   ·rw[if_neg c];refine pO (bey (hint+ofs) _ (by lia) λb=>?_)
    cases b with
    |true=>exact pW ⟨rfl,rfl⟩
    |false=>exact pW ⟨rfl,rfl⟩
  ·rintro⟨r,lastofs,ofs⟩ st' ⟨rfl,e⟩;dsimp only at e⊢;subst e;show wpS _ _ _ _ (_>>=_) _ _;refine pO (UW (QJ (I:=λ_(c:Option (Option Nat)×Nat×Nat) st'=>st=st'/\c.1=none/\c.2.2<=n) (Q:=λc st'=>st=st'/\c.1=none/\c.2.2<=n) ?_ (λ_ _ z=>z) ⟨rfl,rfl,(by show hint+min ofs (n-hint)<=n;lia)⟩) ?_)
   ·rintro x ⟨r,lo,hi⟩ st' _ _ ⟨rfl,e,hhi⟩;dsimp only at e hhi⊢
    by_cases c:lo≥hi
    ·rw[if_pos c];exact pW ⟨rfl,rfl,hhi⟩
    ·rw[if_neg c];refine pO (bey (lo+(hi-lo)/2) _ (by lia) λb=>?_)
     cases b with
     |true=>exact pW ⟨rfl,rfl,hhi⟩
     |false=>exact pW ⟨rfl,rfl,(by show lo+(hi-lo)/2<=n;lia)⟩
   ·rintro⟨r,lo,hi⟩ st' ⟨rfl,e,hhi⟩;dsimp only at e hhi⊢;subst e;exact pW (h hi hhi)
 |false=>
  show wpS _ _ _ _ (_>>=_) _ _
  refine pO (UW (QJ (I:=λ_(c:Option (Option Nat)×Nat×Nat) st'=>st=st'/\c.1=none) (Q:=λc st'=>st=st'/\c.1=none) ?_ (λ_ _ z=>z) ⟨rfl,rfl⟩) ?_)
  ·rintro x ⟨r,lastofs,ofs⟩ st' _ _ ⟨rfl,e⟩;dsimp only at e⊢
   by_cases c:ofs≥hint+1
   ·rw[if_pos c];exact pW ⟨rfl,rfl⟩
   ·rw[if_neg c];refine pO (bey (hint-ofs) _ (by lia) λb=>?_)
    cases b with
    |true=>exact pW ⟨rfl,rfl⟩
    |false=>exact pW ⟨rfl,rfl⟩
  ·rintro⟨r,lastofs,ofs⟩ st' ⟨rfl,e⟩;dsimp only at e⊢;subst e;show wpS _ _ _ _ (_>>=_) _ _;refine pO (UW (QJ (I:=λ_(c:Option (Option Nat)×Nat×Nat) st'=>st=st'/\c.1=none/\c.2.2<=n) (Q:=λc st'=>st=st'/\c.1=none/\c.2.2<=n) ?_ (λ_ _ z=>z) ⟨rfl,rfl,(by show hint-lastofs<=n;lia)⟩) ?_)
   ·rintro x ⟨r,lo,hi⟩ st' _ _ ⟨rfl,e,hhi⟩;dsimp only at e hhi⊢
    by_cases c:lo≥hi
    ·rw[if_pos c];exact pW ⟨rfl,rfl,hhi⟩
    ·rw[if_neg c];refine pO (bey (lo+(hi-lo)/2) _ (by lia) λb=>?_)
     cases b with
     |true=>exact pW ⟨rfl,rfl,hhi⟩
     |false=>exact pW ⟨rfl,rfl,(by show lo+(hi-lo)/2<=n;lia)⟩
   ·rintro⟨r,lo,hi⟩ st' ⟨rfl,e,hhi⟩;dsimp only at e hhi⊢;subst e;exact pW (h hi hhi)
end
section
variable{σ α:Type}{M:Model}{A:uv}{E:pB->pH->Prop}{s:pH}{p q:StateT σ Sem α}{Q:α->σ->Prop}{st:σ}
def yZ{x y:Nat}(h1:wpS M A E s p Q st)(h2:x≠y->wpS M A E s q Q st):wpS M A E s (if(x==y)=true then p else q) Q st:=by
 by_cases d:(x==y)=true
 ·rw[if_pos d];exact h1
 ·rw[if_neg d];exact h2 λz=>d (by rw[z];exact beq_self_eq_true _)
theorem x6{c:Prop}{_:Decidable c}(h1:wpS M A E s p Q st)(h2:wpS M A E s q Q st):wpS M A E s (if c then p else q) Q st:=by split<;>assumption
def wjp{β:Type}{p:StateT σ Sem α}(j:Unit->β->StateT σ Sem α)(P:β->Prop)(f:∀o,P o->wpS M A E s (j () o) Q st)(h:(∀o,P o->wpS M A E s (j () o) Q st)->wpS M A E s p Q st):wpS M A E s p Q st:=h f
def wjq{β γ:Type}{p:StateT σ Sem α}(j:Unit->β->γ->StateT σ Sem α)(P:β->γ->Prop)(f:∀o x,P o x->wpS M A E s (j () o x) Q st)(h:(∀o x,P o x->wpS M A E s (j () o x) Q st)->wpS M A E s p Q st):wpS M A E s p Q st:=h f
end
variable{out:Array QR}{ia ib:Nat}
section
variable{prog:uB}{w:uW}{A:uv}{E:pB->pH->Prop}{s:pH}{a₀:Array QR}{κ:AE}
def Prm(a b out:Array QR)(ia ib:Nat):Prop:=(out.toList++(a.toList.drop ia++b.toList.drop ib)).Perm (a.toList++b.toList)/\ia<=a.size/\ib<=b.size
def vg(a:Array QR)(i j:Nat):(a.extract i j).toList=(a.toList.drop i).take (j-i):=by simp
theorem Y2(a:Array QR)(i:Nat):(a.extract i).toList=a.toList.drop i:=by
 rw[vg];exact pV (by rw[uK,AR];lia)
def qJ(a:Array QR)(i k:Nat):(a.extract i (i+k)).toList=(a.toList.drop i).take k:=by rw[vg,Nat.add_sub_cancel_left]
variable{a b:Array QR}
def qu(h:Prm a b out ia ib):(out++a.extract ia++b.extract ib).toList.Perm (a.toList++b.toList):=by
 rw[uu,uu,Y2,Y2,uH];exact h.1
def Xn(h:Prm a b out ia ib):(out++b.extract ib++a.extract ia).toList.Perm (a.toList++b.toList):=by
 rw[uu,uu,Y2,Y2,uH];exact(Qj _ UL).trans h.1
def prm_b(h:Prm a b out ia ib)(k:Nat)(hk:ib+k<=b.size):Prm a b (out++b.extract ib (ib+k)) ia (ib+k):=by
 refine⟨?_,h.2.1,hk⟩;rw[uu,qJ,uH];refine(Qj _ ?_).trans h.1;have e2:b.toList.drop ib=(b.toList.drop ib).take k++b.toList.drop (ib+k):=by rw[←BB,Qk]
 generalize b.toList.drop (ib+k)=t at*;generalize (b.toList.drop ib).take k=u at*;rw[e2,←uH,←uH];exact List.perm_append_comm.append_right _
def prm_a(h:Prm a b out ia ib)(k:Nat)(hk:ia+k<=a.size):Prm a b (out++a.extract ia (ia+k)) (ia+k) ib:=by
 refine⟨?_,hk,h.2.2⟩;rw[uu,qJ,uH,←uH ((a.toList.drop ia).take k),←BB,Qk];exact h.1
def We(out a:Array QR)(i:Nat)(h:i<a.size):out.push a[i]=out++a.extract i (i+1):=by
 apply Dr.mp
 rw[uu,qJ,Fl]
 congr 1
 have h':i<a.toList.length:=by simpa using h
 rw[hZ h']
 simp
def Jy(h:Prm a b out ia ib)(hk:ib<b.size):Prm a b (out.push b[ib]) ia (ib+1):=by rw[We];exact prm_b h 1 hk
def JZ(h:Prm a b out ia ib)(hk:ia<a.size):Prm a b (out.push a[ia]) (ia+1) ib:=by rw[We];exact prm_a h 1 hk
def X7(hb:0<b.size):Prm a b #[b[0]] 0 1:=by
 have h:Prm a b #[] 0 0:=⟨by simp,uL _,uL _⟩
 exact Jy h hb
abbrev gSt(st:Qf)(g:Nat):Qf:=EK (kindOf st) (arrOf st) (QB st) g (BS st)
section
variable{M:Model}{α β γ δ ε:Type}{st:Qf}{R:Array QR->Prop}
abbrev LI(st:Qf)(P:α->β->γ->Prop)(c:Option (Array QR)×α×β×γ×δ)(t:Qf):Prop:=(c.1=none/\P c.2.1 c.2.2.1 c.2.2.2.1)/\∃g,t=gSt st g
abbrev LQ(st:Qf)(R:Array QR->Prop)(P:α->β->γ->Prop)(c:Option (Array QR)×α×β×γ×δ)(t:Qf):Prop:=((∃r,c.1=some r/\R r)∨(c.1=none/\P c.2.1 c.2.2.1 c.2.2.2.1))/\∃g,t=gSt st g
def ent{B:Nat->(Option (Array QR)×α×β×γ×δ)->StateT Qf Sem ε}{P:Nat->α->β->γ->Prop}{G:Nat->ε->Qf->Prop}{lo hi:Nat}(h:∀y o i j r g,y<hi->P y o i j->wpS M A E s (B y (none,o,i,j,r)) (G y) (gSt st g)):∀y c t,lo<=y->y<hi->LI st (P y) c t->wpS M A E s (B y c) (G y) t:=by
 rintro y ⟨c,o,i,j,r⟩ t _ hy ⟨⟨e,p⟩,g,rfl⟩
 cases e;exact h y o i j r g hy p
def aft{B:(Option (Array QR)×α×β×γ×δ)->StateT Qf Sem ε}{P:α->β->γ->Prop}{G:ε->Qf->Prop}(h1:∀r o i j q g,R r->wpS M A E s (B (some r,o,i,j,q)) G (gSt st g))(h2:∀o i j q g,P o i j->wpS M A E s (B (none,o,i,j,q)) G (gSt st g)):∀c t,LQ st R P c t->wpS M A E s (B c) G t:=by
 rintro⟨c,o,i,j,r⟩ t ⟨⟨x,e,p⟩|⟨e,p⟩,g,rfl⟩
 ·cases e;exact h1 _ o i j r g p
 ·cases e;exact h2 o i j r g p
end
theorem lo_at(hq:QL prog w A E s κ a₀){st:Qf}{Q:Array QR->Qf->Prop}(ha:∀x,x∈a->x∈a₀)(hb:∀x,x∈b->x∈a₀)(a1:0<a.size)(b1:0<b.size)(hκ:kindOf st=κ)
  (h:∀r g,r.toList.Perm (a.toList++b.toList)->Q r (gSt st g)):wpS (model prog w) A E s (mergeLo' a b) Q st:=by
 have ea:∀{i:Nat}(h:i<a.size),a[i]∈a₀:=λh=>ha _ (Ub h);have eb:∀{i:Nat}(h:i<b.size),b[i]∈a₀:=λh=>hb _ (Ub h);refine pO (DE (gC ⟨rfl,pO (yz b1 ?_)⟩));refine yZ (pW (h _ (Er st) (qu (X7 b1)))) λc1=>yZ (pW (h _ (Er st) (Xn (X7 b1)))) λc2=>pO (Bb ?_);refine pO (UW (QJ (I:=λx=>LI st (λ(o:Array QR)(i j:Nat)=>Prm a b o i j/\i+1<a.size/\j<b.size/\x+1<=i+j)) (Q:=LQ st (λr=>r.toList.Perm (a.toList++b.toList)) λ_ _ _=>False) (ent λx out ia ib mg g hx p=>?_) (λc t z=>?_) ⟨⟨rfl,X7 b1,?_⟩,Er st,rfl⟩) (aft (λr o i j q g hr=>pW (h r g hr)) λo i j q g z=>z.elim))
 ·have pl:=p.2.2.2
  extract_lets s1 o1 s2 i1 s3 i2 m0 z0 m1
  dsimp-zeta only[s1,o1,s2,i1,s3,i2,m0,z0,m1]
  refine pO (UW (QJ (I:=λy=>LI st (λ(o:Array QR)(i j:Nat)=>Prm a b o i j/\i+1<a.size/\j<b.size/\ia+ib<=i+j/\(y=0∨ia+ib+1<=i+j))) (Q:=LQ st (λr=>r.toList.Perm (a.toList++b.toList)) λ(o:Array QR)(i j:Nat)=>Prm a b o i j/\i+1<a.size/\j<b.size/\ia+ib+1<=i+j) (ent λy out ja jb q g hy p=>?_) (λc t z=>⟨.inr ⟨z.1.1,z.1.2.1,z.1.2.2.1,z.1.2.2.2.1,?_⟩,z.2⟩) ⟨⟨rfl,p.1,p.2.1,p.2.2.1,pG _,.inl rfl⟩,_,rfl⟩) (aft (λr o i j q g hr=>pW ⟨.inl ⟨_,rfl,hr⟩,_,rfl⟩) λout ja jb q g p=>?_))
  ·have hja:=p.2.1;have hjb:=p.2.2.1;have hl:=p.2.2.2.1;have hj:=Ux hja;dsimp only;refine pO (yz hjb (pO (yz hj (pO (hq _ _ _ _ (eb hjb) (ea hj) hκ λbw=>?_)))))
   cases bw with
   |true=>
    refine pO (yz hjb ?_);have hp1:=Jy p.1 hjb;refine yZ (pW ⟨.inl ⟨_,rfl,qu hp1⟩,_,rfl⟩) λd=>?_;have l1:=gH hjb d;have l2:ia+ib+1<=ja+(jb+1):=gK hl;exact x6 (pW ⟨.inr ⟨rfl,hp1,hja,l1,l2⟩,_,rfl⟩) (pW ⟨⟨rfl,hp1,hja,l1,Av l2,.inr l2⟩,_,rfl⟩)
   |false=>
    refine pO (yz hj ?_);have hp1:=JZ p.1 hj;refine yZ (pW ⟨.inl ⟨_,rfl,Xn hp1⟩,_,rfl⟩) λd=>?_;have l1:=gH hja d;have l2:ia+ib+1<=ja+1+jb:=by rw[HM];exact gK hl
    exact x6 (pW ⟨.inr ⟨rfl,hp1,l1,hjb,l2⟩,_,rfl⟩) (pW ⟨⟨rfl,hp1,l1,hjb,Av l2,.inr l2⟩,_,rfl⟩)
  ·exact z.1.2.2.2.2.2.resolve_left λe=>by have:=GO (uL (a.size+b.size));lia
  refine pO (DE (gC ⟨rfl,?_⟩));refine pO (UW (QJ (I:=λy=>LI st (λ(o:Array QR)(i j:Nat)=>Prm a b o i j/\i+1<a.size/\j<b.size/\ia+ib+1<=i+j)) (Q:=LQ st (λr=>r.toList.Perm (a.toList++b.toList)) λ(o:Array QR)(i j:Nat)=>Prm a b o i j/\i+1<a.size/\j<b.size/\ia+ib+1<=i+j) (ent λy out ka kb q g hy p=>?_) (λc t z=>⟨.inr z.1,z.2⟩) ⟨⟨rfl,p⟩,_,rfl⟩) (aft (λr o i j q g hr=>pW ⟨.inl ⟨_,rfl,hr⟩,_,rfl⟩) λout ka kb q g p=>?_))
  ·have hka:=p.2.1;have hkb:=p.2.2.1;have hl2:=p.2.2.2;have hp:=p.1;have hka':=Ux hka;clear pl hx hy
   extract_lets s1 o1 s2 i1 s3 i2 s4 m1 s5 c1 c2 i3 jp
   refine wjp jp (λ_=>True) (λm _=>?_) λhj=>x6 (hj _ trivial) (hj _ trivial)
   dsimp-zeta only[jp,s1,o1,s2,i1,s3,i2,s4,m1,s5,c1,c2,i3]
   refine pO (Qv (pO (yz hkb (pO (jU hq (eb hkb) ha (Qi (Fm (UE hka'))) (Fn hka') hκ λk hk=>?_)))))
   dsimp-zeta only
   extract_lets ac jq
   refine wjq jq (λo z=>Prm a b o z kb/\z+1<a.size/\ia+ib+1<=z+kb) (λo z p=>?_) λhj=>?_
   ·have hz:=p.2.1;have hl:=p.2.2;have hz':=Ux hz;clear hl2 hka hk hka'
    dsimp-zeta only[jq]
    refine pO (yz hkb ?_);have hp2:=Jy p.1 hkb;refine yZ (pW ⟨.inl ⟨_,rfl,qu hp2⟩,_,rfl⟩) λd3=>?_;have hk1:=gH hkb d3;refine pO (yz hz' (pO (jU hq (ea hz') hb (Qi (Fm (UE hk1))) (Fn hk1) hκ λk2 hk2=>?_)))
    dsimp-zeta only
    extract_lets bc i5 jr
    refine wjq jr (λo y=>Prm a b o z y/\y<b.size/\ia+ib+1<=z+y) (λo y p=>?_) λhj=>?_
    ·refine pO (yz hz' ?_);have hp4:=JZ p.1 hz';refine yZ (pW ⟨.inl ⟨_,rfl,Xn hp4⟩,_,rfl⟩) λd5=>?_;have l1:=gH hz d5;have l2:ia+ib+1<=z+1+y:=by rw[HM];exact Bu p.2.2
     exact x6 (pW ⟨.inr ⟨rfl,hp4,l1,p.2.1,l2⟩,_,rfl⟩) (pW ⟨⟨rfl,hp4,l1,p.2.1,l2⟩,_,rfl⟩)
    ·have l4:kb+1+k2<=b.size:=EY (UE hk1) hk2;have hp3:=prm_b hp2 k2 l4;have l5:ia+ib+1<=z+(kb+1):=Bu hl;exact x6 (yZ (pW ⟨.inl ⟨_,rfl,qu hp3⟩,_,rfl⟩) λd4=>hj _ _ ⟨hp3,gH l4 d4,pz l5 (FC (gE _ _) _)⟩) (hj _ _ ⟨hp2,hk1,l5⟩)
   ·have l4:ka+k<=a.size:=EY (UE hka') hk;have hp1:=prm_a hp k l4;exact x6 (yZ (pW ⟨.inl ⟨_,rfl,Xn hp1⟩,_,rfl⟩) λd1=>yZ (pW ⟨.inl ⟨_,rfl,qu hp1⟩,_,rfl⟩) λd2=>hj _ _ ⟨hp1,gH (gH l4 d2) d1,pz hl2 (Es (gE _ _) _)⟩) (hj _ _ ⟨hp,hka,hl2⟩)
  ·exact pO (Qv (pW ⟨⟨rfl,p.1,p.2.1,p.2.2.1,(by have:=p.2.2.2;show x+1+1<=ka+kb;lia)⟩,_,rfl⟩))
 ·have:=z.1.2.2.2.2;have:=z.1.2.2.1;have:=z.1.2.2.2.1;lia
 ·show 0+1<a.size/\1<b.size/\0+1<=0+1
  lia
end
variable{k na nb:Nat}
section
variable{prog:uB}{w:uW}{A:uv}{E:pB->pH->Prop}{s:pH}{a₀:Array QR}{κ:AE}
def yU(a b out:Array QR)(na nb:Nat):Prop:=((a.toList.take na++b.toList.take nb)++out.toList).Perm (a.toList++b.toList)/\na<=a.size/\nb<=b.size
def XI(a:Array QR)(n:Nat):(a.extract 0 n).toList=a.toList.take n:=by rw[vg,Bo,Fo]
variable{a b:Array QR}
def Yl(h:yU a b out na nb):(a.extract 0 na++b.extract 0 nb++out.reverse).toList.Perm (a.toList++b.toList):=by
 rw[uu,uu,XI,XI,AI];exact(Qj _ (Bv _)).trans h.1
def Y9(h:yU a b out na nb):(b.extract 0 nb++a.extract 0 na++out.reverse).toList.Perm (a.toList++b.toList):=by
 rw[uu,uu,XI,XI,AI];exact(List.Perm.append UL (Bv _)).trans h.1
def zb9{l:List QR}{n:Nat}(h:k<=n):l.take n=l.take k++(l.drop k).take (n-k):=by
 rw[←Qk k (l.take n),List.take_take,hV h,List.drop_take]
def zcs(h:yU a b out na nb)(k:Nat)(hk:k<=na):yU a b (out++(a.extract k na).reverse) k nb:=by
 refine⟨?_,pz hk h.2.1,h.2.2⟩;refine Cg ?_ h.1;rw[uu,AI,vg,zb9 hk];generalize a.toList.take k=x;generalize (a.toList.drop k).take (na-k)=y;generalize b.toList.take nb=z;generalize out.toList=o;have:(o++y.reverse).Perm (y++o):=(Qj _ (Bv _)).trans UL;refine(Qj _ this).trans ?_;rw[uH,uH,uH];refine Qj _ ?_;rw[←uH,←uH];exact List.Perm.append_right _ UL
def zbv(h:yU a b out na nb)(k:Nat)(hk:k<=nb):yU a b (out++(b.extract k nb).reverse) na k:=by
 refine⟨?_,h.2.1,pz hk h.2.2⟩;refine Cg ?_ h.1;rw[uu,AI,vg,zb9 hk];generalize b.toList.take k=x;generalize (b.toList.drop k).take (nb-k)=y;generalize a.toList.take na=z;generalize out.toList=o;have:(o++y.reverse).Perm (y++o):=(Qj _ (Bv _)).trans UL;refine(Qj _ this).trans ?_;rw[uH,uH,uH]
theorem zbh(out a:Array QR)(n:Nat)(h0:0<n)(h:n-1<a.size):out.push a[n-1]=out++(a.extract (n-1) n).reverse:=by
 obtain⟨m,rfl⟩:∃m,n=m+1:=⟨n-1,by lia⟩
 have e:=We out a m h;simp only[Aj] at*;rw[e]
 congr 1
 apply Dr.mp
 have h':m<a.toList.length:=by simpa using h
 rw[AI,qJ,hZ h']
 simp
theorem Wk(h:yU a b out na nb)(h0:0<na):yU a b (out.push (a[na-1]'(by have:=h.2.1;lia))) (na-1) nb:=by rw[zbh _ _ _ h0];exact zcs h (na-1) (by lia)
theorem zbf(h:yU a b out na nb)(h0:0<nb):yU a b (out.push (b[nb-1]'(by have:=h.2.2;lia))) na (nb-1):=by rw[zbh _ _ _ h0];exact zbv h (nb-1) (by lia)
def WW(ha:0<a.size):yU a b #[a[a.size-1]] (a.size-1) b.size:=by
 have h:yU a b #[] a.size b.size:=⟨by rw[pV (by simp),pV (by simp)];simp,pG _,pG _⟩
 exact Wk h ha
theorem hi_at(hq:QL prog w A E s κ a₀){st:Qf}{Q:Array QR->Qf->Prop}(ha:∀x,x∈a->x∈a₀)(hb:∀x,x∈b->x∈a₀)(a1:0<a.size)(b1:0<b.size)(hκ:kindOf st=κ)
  (h:∀r g,r.toList.Perm (a.toList++b.toList)->Q r (gSt st g)):wpS (model prog w) A E s (mergeHi' a b) Q st:=by
 have ea:∀{i:Nat}(h:i<a.size),a[i]∈a₀:=λh=>ha _ (Ub h);have eb:∀{i:Nat}(h:i<b.size),b[i]∈a₀:=λh=>hb _ (Ub h);refine pO (DE (gC ⟨rfl,pO (yz (show a.size-1<a.size by lia) ?_)⟩))
 refine yZ (pW (h _ (Er st) (Yl (WW a1)))) λc1=>yZ (pW (h _ (Er st) (Y9 (WW a1)))) λc2=>pO (Bb ?_);refine pO (UW (QJ (I:=λx=>LI st (λ(i j:Nat)(o:Array QR)=>yU a b o i j/\0<i/\1<j/\i+j+x+1<=a.size+b.size)) (Q:=LQ st (λr=>r.toList.Perm (a.toList++b.toList)) λ_ _ _=>False) (ent λx na nb out mg g hx p=>?_) (λc t z=>?_) ⟨⟨rfl,WW a1,?_⟩,Er st,rfl⟩) (aft (λr o i j q g hr=>pW (h r g hr)) λo i j q g z=>z.elim))
 ·have pl:=p.2.2.2
  extract_lets s1 o1 s2 i1 s3 i2 m0 z0 m1
  dsimp-zeta only[s1,o1,s2,i1,s3,i2,m0,z0,m1]
  refine pO (UW (QJ (I:=λy=>LI st (λ(i j:Nat)(o:Array QR)=>yU a b o i j/\0<i/\1<j/\i+j<=na+nb/\(y=0∨i+j+1<=na+nb))) (Q:=LQ st (λr=>r.toList.Perm (a.toList++b.toList)) λ(i j:Nat)(o:Array QR)=>yU a b o i j/\0<i/\1<j/\i+j+1<=na+nb) (ent λy ja jb out q g hy p=>?_) (λc t z=>⟨.inr ⟨z.1.1,z.1.2.1,z.1.2.2.1,z.1.2.2.2.1,?_⟩,z.2⟩) ⟨⟨rfl,p.1,p.2.1,p.2.2.1,pG _,.inl rfl⟩,_,rfl⟩) (aft (λr o i j q g hr=>pW ⟨.inl ⟨_,rfl,hr⟩,_,rfl⟩) λja jb out q g p=>?_))
  ·have hja:=p.2.1;have hjb:=p.2.2.1;have hl:=p.2.2.2.1;have la:=pf (BF (gU hja)) p.1.2.1;have lb:=pf (BF (gU (Ux hjb))) p.1.2.2;clear pl hx hy c1 c2;dsimp only;refine pO (yz lb (pO (yz la (pO (hq _ _ _ _ (eb lb) (ea la) hκ λbw=>?_)))))
   cases bw with
   |true=>
    refine pO (yz la ?_);have hp1:=Wk p.1 hja;refine yZ (pW ⟨.inl ⟨_,rfl,Yl hp1⟩,_,rfl⟩) λd=>?_;have l1:=FQ d;have l2:ja-1+jb+1<=na+nb:=by lia
    exact x6 (pW ⟨.inr ⟨rfl,hp1,l1,hjb,l2⟩,_,rfl⟩) (pW ⟨⟨rfl,hp1,l1,hjb,Av l2,.inr l2⟩,_,rfl⟩)
   |false=>
    refine pO (yz lb ?_);have hp1:=zbf p.1 (Ux hjb);refine yZ (pW ⟨.inl ⟨_,rfl,Y9 hp1⟩,_,rfl⟩) λd=>?_;have l1:1<jb-1:=by lia
    have l2:ja+(jb-1)+1<=na+nb:=by lia
    exact x6 (pW ⟨.inr ⟨rfl,hp1,hja,l1,l2⟩,_,rfl⟩) (pW ⟨⟨rfl,hp1,hja,l1,Av l2,.inr l2⟩,_,rfl⟩)
  ·exact z.1.2.2.2.2.2.resolve_left λe=>by have:=GO (uL (a.size+b.size));lia
  refine pO (DE (gC ⟨rfl,?_⟩));refine pO (UW (QJ (I:=λy=>LI st (λ(i j:Nat)(o:Array QR)=>yU a b o i j/\0<i/\1<j/\i+j+1<=na+nb)) (Q:=LQ st (λr=>r.toList.Perm (a.toList++b.toList)) λ(i j:Nat)(o:Array QR)=>yU a b o i j/\0<i/\1<j/\i+j+1<=na+nb) (ent λy ka kb out q g hy p=>?_) (λc t z=>⟨.inr z.1,z.2⟩) ⟨⟨rfl,p⟩,_,rfl⟩) (aft (λr o i j q g hr=>pW ⟨.inl ⟨_,rfl,hr⟩,_,rfl⟩) λka kb out q g p=>?_))
  ·have hka:=p.2.1;have hkb:=p.2.2.1;have hl2:=p.2.2.2;have hp:=p.1;have lka:=p.1.2.1;have lkb:=p.1.2.2;have lb:=pf (BF (gU (Ux hkb))) lkb;clear pl hx hy c1 c2
   extract_lets s1 o1 s2 i1 s3 i2 s4 m1 s5 c1 c2 i3 jp
   refine wjp jp (λ_=>True) (λm _=>?_) λhj=>x6 (hj _ trivial) (hj _ trivial)
   dsimp-zeta only[jp,s1,o1,s2,i1,s3,i2,s4,m1,s5,c1,c2,i3]
   refine pO (Qv (pO (yz lb (pO (jU hq (eb lb) ha (pz (Qi (AJ _)) lka) (BF (gU hka)) hκ λk hk=>?_)))))
   dsimp-zeta only
   extract_lets kk ac jq
   refine wjq jq (λz o=>yU a b o z kb/\0<z/\z+kb+1<=na+nb) (λz o p=>?_) λhj=>?_
   ·have hz:=p.2.1;have hl:=p.2.2;have la:=pf (BF (gU hz)) p.1.2.1;clear hl2 hka hk lka
    dsimp-zeta only[jq]
    refine pO (yz lb ?_);have hp2:=zbf p.1 (Ux hkb);refine yZ (pW ⟨.inl ⟨_,rfl,Y9 hp2⟩,_,rfl⟩) λd3=>?_;have k1:1<kb-1:=by lia
    refine pO (yz la (pO (jU hq (ea la) hb (pz (Qi (AJ _)) (UE lb)) (BF (gU (Ux k1))) hκ λk2 hk2=>?_)))
    dsimp-zeta only
    extract_lets k5 bc i5 jr
    refine wjq jr (λy o=>yU a b o z y/\1<y/\z+y+1<=na+nb) (λy o p=>?_) λhj=>?_
    ·refine pO (yz la ?_);have hp4:=Wk p.1 hz;refine yZ (pW ⟨.inl ⟨_,rfl,Yl hp4⟩,_,rfl⟩) λd5=>?_;have l1:=FQ d5;have l2:=pz (gK (Es (Nat.sub_le z 1) y)) p.2.2;exact x6 (pW ⟨.inr ⟨rfl,hp4,l1,p.2.1,l2⟩,_,rfl⟩) (pW ⟨⟨rfl,hp4,l1,p.2.1,l2⟩,_,rfl⟩)
    ·have hp3:=zbv hp2 k2 hk2;exact x6 (yZ (pW ⟨.inl ⟨_,rfl,Y9 hp3⟩,_,rfl⟩) λd4=>yZ (pW ⟨.inl ⟨_,rfl,Yl hp3⟩,_,rfl⟩) λd7=>hj _ _ ⟨hp3,by lia,by lia⟩) (hj _ _ ⟨hp2,by lia,by lia⟩)
   ·have hp1:=zcs hp k hk;exact x6 (yZ (pW ⟨.inl ⟨_,rfl,Yl hp1⟩,_,rfl⟩) λd1=>hj _ _ ⟨hp1,by lia,by lia⟩) (hj _ _ ⟨hp,hka,hl2⟩)
  ·exact pO (Qv (pW ⟨⟨rfl,p.1,p.2.1,p.2.2.1,(by have:=p.2.2.2;show ka+kb+(x+1)+1<=a.size+b.size;lia)⟩,_,rfl⟩))
 ·have:=z.1.2.2.2.2;have:=z.1.2.2.1;have:=z.1.2.2.2.1;lia
 ·show 0<a.size-1/\1<b.size/\a.size-1+b.size+0+1<=a.size+b.size
  lia
end
section
variable{prog:uB}{w:uW}{A:uv}{E:pB->pH->Prop}{s:pH}{a₀:Array QR}{κ:AE}
variable{st:Qf}
theorem wf(hq:QL prog w A E s κ a₀){i j:Nat}{Q:Option Bool->Qf->Prop}(hp:(arrOf st).Perm a₀)(hi:i<a₀.size)(hj:j<a₀.size)(hκ:kindOf st=κ)(h:∀b,Q (some b) st):wpS (model prog w) A E s (ltAt' i j) Q st:=by
 have sz:(arrOf st).size=a₀.size:=hp.size_eq;rw[ltAt'_eq];refine pO (Bb ?_);refine pO (yz (show i<(arrOf st).size by lia) (pO (yz (show j<(arrOf st).size by lia) ?_)))
 exact hq _ _ _ _ (hp.mem_iff.mp (Ub _)) (hp.mem_iff.mp (Ub _)) hκ h
theorem zf0(hq:QL prog w A E s κ a₀){lo nrem:Nat}{Q:Option Nat->Qf->Prop}(hp:(arrOf st).Perm a₀)(h1:1<=nrem)(hz:lo+nrem<=a₀.size)(hκ:kindOf st=κ)
  (h:∀m xs,1<=m->m<=nrem->xs.Perm a₀->Q (some m) (AQ st xs)):wpS (model prog w) A E s (countRun' lo nrem) Q st:=by
 refine pO (UW (QJ (I:=λx(c:Option (Option Nat)×Nat) st'=>st=st'/\c.1=none/\1<=c.2/\c.2<=x) (Q:=λc st'=>st=st'/\c.1=none/\1<=c.2/\c.2<=nrem) ?_ ?_ ⟨rfl,rfl,pG _,pG _⟩) ?_)
 ·rintro x ⟨r,n⟩ st' hx1 hx ⟨rfl,e,hn1,hn2⟩;dsimp only at e hn1 hn2⊢;refine pO (wf hq hp (by lia) (by lia) hκ λb=>?_)
  cases b with
  |true=>exact pW ⟨rfl,rfl,hn1,(by show n<=nrem;lia)⟩
  |false=>exact pW ⟨rfl,rfl,(by show 1<=n+1;lia),(by show n+1<=x+1;lia)⟩
 ·rintro c st' ⟨e,e1,hn1,hn2⟩;exact⟨e,e1,hn1,by lia⟩
 rintro⟨r,n⟩ st' ⟨rfl,e,hn1,hn2⟩;dsimp only at e hn1 hn2⊢;subst e;dsimp only
 by_cases c1:(n==nrem)=true
 ·rw[if_pos c1];exact pW (h n (arrOf st) hn1 hn2 hp)
 rw[if_neg c1];have c1':n≠nrem:=λz=>c1 (by rw[z];exact beq_self_eq_true _)
 by_cases c2:n>1
 ·rw[if_pos c2];refine pO (wf hq hp (by lia) (by lia) hκ λb=>?_)
  cases b with
  |true=>exact pW (h n (arrOf st) hn1 hn2 hp)
  |false=>
   refine pO (Qv ?_);refine pO (DE (gC ⟨rfl,?_⟩));refine pO (UW (QJ (I:=λx(c:Option (Option Nat)×Nat×Nat) st'=>(c.1=none/\1<=c.2.1/\c.2.1<=x)/\∃xs,xs.Perm a₀/\st'=AQ st xs) (Q:=λc st'=>(c.1=none/\1<=c.2.1/\c.2.1<=nrem)/\∃xs,xs.Perm a₀/\st'=AQ st xs) ?_ ?_ ⟨⟨rfl,(by show 1<=n+1;lia),pG _⟩,_,((AD _ _ _ _).trans hp),rfl⟩) ?_)
   ·rintro x ⟨r,n2,q2⟩ st' hx1 hx ⟨⟨e,hn1,hn2⟩,xs,px,rfl⟩;dsimp only at e hn1 hn2⊢;refine pO (wf hq px (by lia) (by lia) hκ λb=>?_)
    cases b with
    |true=>
     try dsimp only
     rw[if_pos rfl]
     by_cases qq:q2>0
     ·rw[if_pos qq];exact pO (Qv (pW ⟨⟨rfl,(by show 1<=n2+1;lia),(by show n2+1<=x+1;lia)⟩,_,(AD _ _ _ _).trans px,rfl⟩))
     ·rw[if_neg qq];exact pW ⟨⟨rfl,(by show 1<=n2+1;lia),(by show n2+1<=x+1;lia)⟩,_,px,rfl⟩
    |false=>
     refine pO (wf hq px (by lia) (by lia) hκ λb=>?_)
     cases b with
     |true=>exact pW ⟨⟨rfl,hn1,(by show n2<=nrem;lia)⟩,_,px,rfl⟩
     |false=>exact pW ⟨⟨rfl,(by show 1<=n2+1;lia),(by show n2+1<=x+1;lia)⟩,_,px,rfl⟩
   ·rintro c st' ⟨⟨e,hn1,hn2⟩,z⟩;exact⟨⟨e,hn1,by lia⟩,z⟩
   ·rintro⟨r,n2,q2⟩ st' ⟨⟨e,hn1,hn2⟩,xs2,px2,rfl⟩;dsimp only at e hn1 hn2⊢;subst e;dsimp only
    by_cases qq:q2>0
    ·rw[if_pos qq];refine pO (Qv ?_);refine pO (Qv ?_);refine pO (UW (QJ (I:=λx(c:Option (Option Nat)×Nat) st'=>(c.1=none/\1<=c.2/\c.2<=x)/\∃xs,xs.Perm a₀/\st'=AQ st xs) (Q:=λc st'=>(c.1=none/\1<=c.2/\c.2<=nrem)/\∃xs,xs.Perm a₀/\st'=AQ st xs) ?_ ?_ ⟨⟨rfl,(by show 1<=n2;lia),pG _⟩,_,(AD _ _ _ _).trans ((AD _ _ _ _).trans px2),rfl⟩) ?_)
     ·rintro x ⟨r,n3⟩ st' hx1 hx ⟨⟨e,hn1,hn2'⟩,xs,px,rfl⟩;dsimp only at e hn1 hn2'⊢;refine pO (wf hq px (by lia) (by lia) hκ λb=>?_)
      cases b with
      |true=>exact pW ⟨⟨rfl,hn1,(by show n3<=nrem;lia)⟩,_,px,rfl⟩
      |false=>exact pW ⟨⟨rfl,(by show 1<=n3+1;lia),(by show n3+1<=x+1;lia)⟩,_,px,rfl⟩
     ·rintro c st' ⟨⟨e,hn1,hn2'⟩,z⟩;exact⟨⟨e,hn1,by lia⟩,z⟩
     ·rintro⟨r,n3⟩ st' ⟨⟨e,hn1,hn2'⟩,xs,px,rfl⟩;dsimp only at e hn1 hn2'⊢;subst e;exact pW (h n3 xs hn1 hn2' px)
    ·rw[if_neg qq];refine pO (Qv ?_);refine pO (UW (QJ (I:=λx(c:Option (Option Nat)×Nat) st'=>(c.1=none/\1<=c.2/\c.2<=x)/\∃xs,xs.Perm a₀/\st'=AQ st xs) (Q:=λc st'=>(c.1=none/\1<=c.2/\c.2<=nrem)/\∃xs,xs.Perm a₀/\st'=AQ st xs) ?_ ?_ ⟨⟨rfl,(by show 1<=n2;lia),pG _⟩,_,(AD _ _ _ _).trans px2,rfl⟩) ?_)
     ·rintro x ⟨r,n3⟩ st' hx1 hx ⟨⟨e,hn1,hn2'⟩,xs,px,rfl⟩;dsimp only at e hn1 hn2'⊢;refine pO (wf hq px (by lia) (by lia) hκ λb=>?_)
      cases b with
      |true=>exact pW ⟨⟨rfl,hn1,(by show n3<=nrem;lia)⟩,_,px,rfl⟩
      |false=>exact pW ⟨⟨rfl,(by show 1<=n3+1;lia),(by show n3+1<=x+1;lia)⟩,_,px,rfl⟩
     ·rintro c st' ⟨⟨e,hn1,hn2'⟩,z⟩;exact⟨⟨e,hn1,by lia⟩,z⟩
     ·rintro⟨r,n3⟩ st' ⟨⟨e,hn1,hn2'⟩,xs,px,rfl⟩;dsimp only at e hn1 hn2'⊢;subst e;exact pW (h n3 xs hn1 hn2' px)
 ·rw[if_neg c2];refine pO (DE (gC ⟨rfl,?_⟩));refine pO (UW (QJ (I:=λx(c:Option (Option Nat)×Nat×Nat) st'=>(c.1=none/\1<=c.2.1/\c.2.1<=x)/\∃xs,xs.Perm a₀/\st'=AQ st xs) (Q:=λc st'=>(c.1=none/\1<=c.2.1/\c.2.1<=nrem)/\∃xs,xs.Perm a₀/\st'=AQ st xs) ?_ ?_ ⟨⟨rfl,(by show 1<=n+1;lia),pG _⟩,_,hp,rfl⟩) ?_)
  ·rintro x ⟨r,n2,q2⟩ st' hx1 hx ⟨⟨e,hn1,hn2⟩,xs,px,rfl⟩;dsimp only at e hn1 hn2⊢;refine pO (wf hq px (by lia) (by lia) hκ λb=>?_)
   cases b with
   |true=>
    try dsimp only
    rw[if_pos rfl]
    by_cases qq:q2>0
    ·rw[if_pos qq];exact pO (Qv (pW ⟨⟨rfl,(by show 1<=n2+1;lia),(by show n2+1<=x+1;lia)⟩,_,(AD _ _ _ _).trans px,rfl⟩))
    ·rw[if_neg qq];exact pW ⟨⟨rfl,(by show 1<=n2+1;lia),(by show n2+1<=x+1;lia)⟩,_,px,rfl⟩
   |false=>
    refine pO (wf hq px (by lia) (by lia) hκ λb=>?_)
    cases b with
    |true=>exact pW ⟨⟨rfl,hn1,(by show n2<=nrem;lia)⟩,_,px,rfl⟩
    |false=>exact pW ⟨⟨rfl,(by show 1<=n2+1;lia),(by show n2+1<=x+1;lia)⟩,_,px,rfl⟩
  ·rintro c st' ⟨⟨e,hn1,hn2⟩,z⟩;exact⟨⟨e,hn1,by lia⟩,z⟩
  ·rintro⟨r,n2,q2⟩ st' ⟨⟨e,hn1,hn2⟩,xs2,px2,rfl⟩;dsimp only at e hn1 hn2⊢;subst e;dsimp only
   by_cases qq:q2>0
   ·rw[if_pos qq];refine pO (Qv ?_);refine pO (Qv ?_);refine pO (UW (QJ (I:=λx(c:Option (Option Nat)×Nat) st'=>(c.1=none/\1<=c.2/\c.2<=x)/\∃xs,xs.Perm a₀/\st'=AQ st xs) (Q:=λc st'=>(c.1=none/\1<=c.2/\c.2<=nrem)/\∃xs,xs.Perm a₀/\st'=AQ st xs) ?_ ?_ ⟨⟨rfl,(by show 1<=n2;lia),pG _⟩,_,(AD _ _ _ _).trans ((AD _ _ _ _).trans px2),rfl⟩) ?_)
    ·rintro x ⟨r,n3⟩ st' hx1 hx ⟨⟨e,hn1,hn2'⟩,xs,px,rfl⟩;dsimp only at e hn1 hn2'⊢;refine pO (wf hq px (by lia) (by lia) hκ λb=>?_)
     cases b with
     |true=>exact pW ⟨⟨rfl,hn1,(by show n3<=nrem;lia)⟩,_,px,rfl⟩
     |false=>exact pW ⟨⟨rfl,(by show 1<=n3+1;lia),(by show n3+1<=x+1;lia)⟩,_,px,rfl⟩
    ·rintro c st' ⟨⟨e,hn1,hn2'⟩,z⟩;exact⟨⟨e,hn1,by lia⟩,z⟩
    ·rintro⟨r,n3⟩ st' ⟨⟨e,hn1,hn2'⟩,xs,px,rfl⟩;dsimp only at e hn1 hn2'⊢;subst e;exact pW (h n3 xs hn1 hn2' px)
   ·rw[if_neg qq];refine pO (Qv ?_);refine pO (UW (QJ (I:=λx(c:Option (Option Nat)×Nat) st'=>(c.1=none/\1<=c.2/\c.2<=x)/\∃xs,xs.Perm a₀/\st'=AQ st xs) (Q:=λc st'=>(c.1=none/\1<=c.2/\c.2<=nrem)/\∃xs,xs.Perm a₀/\st'=AQ st xs) ?_ ?_ ⟨⟨rfl,(by show 1<=n2;lia),pG _⟩,_,(AD _ _ _ _).trans px2,rfl⟩) ?_)
    ·rintro x ⟨r,n3⟩ st' hx1 hx ⟨⟨e,hn1,hn2'⟩,xs,px,rfl⟩;dsimp only at e hn1 hn2'⊢;refine pO (wf hq px (by lia) (by lia) hκ λb=>?_)
     cases b with
     |true=>exact pW ⟨⟨rfl,hn1,(by show n3<=nrem;lia)⟩,_,px,rfl⟩
     |false=>exact pW ⟨⟨rfl,(by show 1<=n3+1;lia),(by show n3+1<=x+1;lia)⟩,_,px,rfl⟩
    ·rintro c st' ⟨⟨e,hn1,hn2'⟩,z⟩;exact⟨⟨e,hn1,by lia⟩,z⟩
    ·rintro⟨r,n3⟩ st' ⟨⟨e,hn1,hn2'⟩,xs,px,rfl⟩;dsimp only at e hn1 hn2'⊢;subst e;exact pW (h n3 xs hn1 hn2' px)
theorem bin_at(hq:QL prog w A E s κ a₀){lo n ok:Nat}{Q:Bool->Qf->Prop}(hp:(arrOf st).Perm a₀)(hz:lo+n<=a₀.size)(hκ:kindOf st=κ)
  (h:∀xs,xs.Perm a₀->Q true (AQ st xs)):wpS (model prog w) A E s (binarySort' lo n ok) Q st:=by
 refine pO (UW (QJ (I:=λx(c:Option Bool×Unit) st'=>c.1=none/\∃xs,xs.Perm a₀/\st'=AQ st xs) (Q:=λc st'=>c.1=none/\∃xs,xs.Perm a₀/\st'=AQ st xs) ?_ (λ_ _ z=>z) ⟨rfl,_,hp,rfl⟩) ?_)
 ·rintro x ⟨r,u⟩ st' hx1 hx ⟨e,xs,px,rfl⟩;dsimp only at e⊢;refine pO (UW (QJ (I:=λy(c:Option Bool×Nat×Nat) st'=>c.1=none/\c.2.2<=x/\st'=AQ st xs) (Q:=λc st'=>c.1=none/\c.2.2<=x/\st'=AQ st xs) ?_ (λ_ _ z=>z) ⟨rfl,pG _,rfl⟩) ?_)
  ·rintro y ⟨r1,l,r⟩ st' _ _ ⟨e1,hr,rfl⟩;dsimp only at e1 hr⊢
   by_cases c:l≥r
   ·rw[if_pos c];exact pW ⟨rfl,hr,rfl⟩
   ·rw[if_neg c];refine pO (wf hq px (by lia) (by lia) hκ λb=>?_)
    cases b with
    |true=>exact pW ⟨rfl,(by show(l+r)/2<=x;lia),rfl⟩
    |false=>exact pW ⟨rfl,hr,rfl⟩
  ·rintro⟨r1,l,r⟩ st' ⟨e1,hr,rfl⟩;dsimp only at e1 hr⊢;subst e1;exact pO (Qv (pW ⟨rfl,_,(GW _ _ _).trans px,rfl⟩))
 ·rintro⟨r,u⟩ st' ⟨e,xs,px,rfl⟩;dsimp only at e⊢;subst e;exact pW (h xs px)
end
section
variable{prog:uB}{w:uW}{A:uv}{E:pB->pH->Prop}{s:pH}{a₀:Array QR}{κ:AE}
theorem zd1(sa:Nat):∀(l:List QR)(k:Nat)(a:Array QR),sa+k+l.length<=a.size->((l.zipIdx k).foldl (λa(x:QR×Nat)=>match x with|(p,j)=>a.setIfInBounds (sa+j) p) a).toList=a.toList.take (sa+k)++l++a.toList.drop (sa+k+l.length)
 |[],k,a,_=>by simp
 |p::l,k,a,h=>by
  rw[List.zipIdx_cons,List.foldl_cons];have hk:sa+k<a.toList.length:=by simp only[uN] at h;rw[AR];lia
  have:=zd1 sa l (k+1) (a.setIfInBounds (sa+k) p) (by rw[Array.size_setIfInBounds];simp only[uN] at h;lia)
  rw[this,Array.toList_setIfInBounds];have e1:(a.toList.set (sa+k) p).take (sa+(k+1))=a.toList.take (sa+k)++[p]:=by
   rw[show sa+(k+1)=sa+k+1 by lia,uA,List.take_set_of_le (pG _),Bj hk]
   rfl
  have e2:(a.toList.set (sa+k) p).drop (sa+(k+1)+l.length)=a.toList.drop (sa+k+(p::l).length):=by
   rw[List.drop_set_of_lt (by lia),uN]
   congr 1
   lia
  rw[e1,e2]
  simp[uH]
theorem ZW{a m:Array QR}{sa sb:Nat}(h1:sa<=sb)(h2:sb+nb<=a.size)(hm:m.toList.Perm ((a.extract sa sb).toList++(a.extract sb (sb+nb)).toList)):
  (m.toList.zipIdx.foldl (λa(x:QR×Nat)=>match x with|(p,j)=>a.setIfInBounds (sa+j) p) a).Perm a:=by
 have lm:m.toList.length=sb+nb-sa:=by
  rw[hm.length_eq,pK,vg,vg,uI,uI,uK,uK,AR];lia
 apply Array.perm_iff_toList_perm.mpr
 rw[zd1 sa m.toList 0 a (by lia),Fp]
 have e:a.toList=a.toList.take sa++((a.toList.drop sa).take (sb-sa)++(a.toList.drop sb).take nb)++a.toList.drop (sa+m.toList.length):=by
  rw[lm,show sa+(sb+nb-sa)=sb+nb by lia]
  have x1:(a.toList.drop sb).take nb++a.toList.drop (sb+nb)=a.toList.drop sb:=by rw[←BB,Qk]
  have x2:(a.toList.drop sa).take (sb-sa)++a.toList.drop sb=a.toList.drop sa:=by
   have:a.toList.drop sb=(a.toList.drop sa).drop (sb-sa):=by rw[BB,show sa+(sb-sa)=sb by lia]
   rw[this,Qk]
  rw[uH,uH,x1,x2,Qk]
 rw[vg,qJ] at hm;refine Cg ((Qj _ hm).append_right _) ?_;rw[←e]
def YR{a:Array QR}{i j:Nat}{x:QR}(h:x∈a.extract i j):x∈a:=by
 have:x∈(a.extract i j).toList:=Et.mpr h;rw[vg] at this;exact Array.mem_toList_iff.mp (List.mem_of_mem_drop (Eu this))
def wpS_set{st st':Qf}{Q:PUnit->Qf->Prop}(h:Q ⟨⟩ st'):wpS (model prog w) A E s (set st':StateT Qf Sem PUnit) Q st:=by
 unfold wpS;rw[StateT.run_set];exact pM ⟨rfl,h⟩
abbrev pSt(st:Qf)(xs:Array QR)(p:Array (Nat×Nat×Nat))(g:Nat):Qf:=EK (kindOf st) xs p g (BS st)
theorem zgq(hq:QL prog w A E s κ a₀){i sa p1 p2:Nat}{st:Qf}{Q:Bool->Qf->Prop}(hp:(arrOf st).Perm a₀)(hκ:kindOf st=κ)(hf:BS st=none)(e1:(QB st)[i]?=some (sa,na,p1))(e2:(QB st)[i+1]?=some (sa+na,nb,p2))(n1:0<na)(n2:0<nb)(hz:sa+na+nb<=a₀.size)
  (h:∀xs g,xs.Perm a₀->Q true (pSt st xs (((QB st).setIfInBounds i (sa,na+nb,p1)).eraseIdxIfInBounds (i+1)) g)):wpS (model prog w) A E s (mergeAt' i) Q st:=by
 have sz:(arrOf st).size=a₀.size:=hp.size_eq;have mem:∀x,x∈arrOf st->x∈a₀:=λx hx=>hp.mem_iff.mp hx;refine pO (Bb ?_);show wpS _ _ _ _ (match((QB st)[i]?,(QB st)[i+1]?) with|_=>_) _ _
 rw[e1,e2];dsimp only;refine pO (wpS_set ?_);refine pO (yz (show sa+na<(arrOf st).size by lia) ?_)
 refine pO (jU hq (mem _ (Ub _)) mem (by show sa+na<=(arrOf st).size;lia) n1 hκ λk hk=>?_)
 dsimp only
 by_cases c1:(na-k==0)=true
 ·rw[if_pos c1];exact pW (h _ _ hp)
 rw[if_neg c1];have c1':na-k≠0:=λz=>c1 (by rw[z];rfl)
 refine pO (yz (show sa+k+(na-k)-1<(arrOf st).size by lia) ?_)
 refine pO (jU hq (mem _ (Ub _)) mem (by show sa+na+nb<=(arrOf st).size;lia) (by lia) hκ λm hm=>?_)
 dsimp only
 by_cases c2:(m==0)=true
 ·rw[if_pos c2];exact pW (h _ _ hp)
 rw[if_neg c2];have c2':m≠0:=λz=>c2 (by rw[z];rfl)
 have s1:0<((arrOf st).extract (sa+k) (sa+na)).size:=by rw[FR];lia
 have s2:0<((arrOf st).extract (sa+na) (sa+na+m)).size:=by rw[FR];lia
 by_cases c3:na-k<=m
 ·rw[if_pos c3];refine pO (lo_at hq (λx hx=>mem x (YR hx)) (λx hx=>mem x (YR hx)) s1 s2 hκ λr g hr=>?_);refine pO (Qv (pO (Bb (pW ?_))));show Q (BS st).isNone _;rw[hf];exact h _ g ((ZW (by lia) (show sa+na+m<=(arrOf st).size by lia) hr).trans hp)
 ·rw[if_neg c3];refine pO (hi_at hq (λx hx=>mem x (YR hx)) (λx hx=>mem x (YR hx)) s1 s2 hκ λr g hr=>?_);refine pO (Qv (pO (Bb (pW ?_))));show Q (BS st).isNone _;rw[hf];exact h _ g ((ZW (by lia) (show sa+na+m<=(arrOf st).size by lia) hr).trans hp)
end
def Cov:List (Nat×Nat×Nat)->Nat->Nat->Prop
 |[],b,e=>b=e
 |(a,n,_)::r,b,e=>a=b/\0<n/\Cov r (b+n) e
theorem Cov.le:∀{l:List (Nat×Nat×Nat)}{b e:Nat},Cov l b e->b<=e
 |[],b,e,h=>Qi h
 |(a,n,_)::r,b,e,h=>pz (gE _ _) (Cov.le h.2.2)
theorem Cov.push:∀{l:List (Nat×Nat×Nat)}{b e n p:Nat},Cov l b e->0<n->Cov (l++[(e,n,p)]) b (e+n)
 |[],b,e,n,p,h,hn=>by
  have h:b=e:=h;subst h;exact⟨rfl,hn,rfl⟩
 |(a,m,q)::r,b,e,n,p,h,hn=>⟨h.1,h.2.1,Cov.push h.2.2 hn⟩
theorem Cov.at:∀{l:List (Nat×Nat×Nat)}{b e i a n p a' n' p':Nat},Cov l b e->l[i]?=some (a,n,p)->l[i+1]?=some (a',n',p')->a'=a+n/\0<n/\0<n'/\a+n+n'<=e/\Cov ((l.set i (a,n+n',p)).eraseIdx (i+1)) b e
 |(x,m,q)::(x',m',q')::r,b,e,0,a,n,p,a',n',p',h,e1,e2=>by
  cases e1;cases e2;obtain⟨h1,h2,h3,h4,h5⟩:=h;have:=Cov.le h5;refine⟨by lia,h2,h4,by lia,h1,by lia,?_⟩
  rw[←AO];exact h5
 |(x,m,q)::r,b,e,i+1,a,n,p,a',n',p',h,e1,e2=>by
  obtain⟨h1,h2,h3⟩:=h;obtain⟨g1,g2,g3,g4,g5⟩:=Cov.at h3 (by simpa using e1) (by simpa using e2)
  exact⟨g1,g2,g3,g4,h1,h2,g5⟩
 |[],b,e,i,a,n,p,a',n',p',h,e1,e2=>by cases i<;>cases e1
 |[_],b,e,0,a,n,p,a',n',p',h,e1,e2=>by simp at e2
theorem Cov.power(w:Nat):∀{l:List (Nat×Nat×Nat)}{b e i:Nat},Cov l b e->Cov (l.modify i λx=>(x.1,x.2.1,w)) b e
 |[],b,e,i,h=>by cases i<;>exact h
 |(x,m,q)::r,b,e,0,h=>h
 |(x,m,q)::r,b,e,i+1,h=>⟨h.1,h.2.1,Cov.power w h.2.2⟩
section
variable{prog:uB}{w:uW}{A:uv}{E:pB->pH->Prop}{s:pH}{a₀:Array QR}{κ:AE}
def SIv(a₀:Array QR)(κ:AE)(lo:Nat)(st:Qf):Prop:=(arrOf st).Perm a₀/\kindOf st=κ/\BS st=none/\Cov (QB st).toList 0 lo/\lo<=a₀.size
variable{lo:Nat}{st:Qf}
theorem Vm(hq:QL prog w A E s κ a₀){i:Nat}{Q:Bool->Qf->Prop}(iv:SIv a₀ κ lo st)(hi:i+1<(QB st).size)(h:∀st',SIv a₀ κ lo st'->Q true st'):wpS (model prog w) A E s (mergeAt' i) Q st:=by
 obtain⟨h1,h2,h3,h4,h5⟩:=iv;have e1:(QB st)[i]?=some (QB st)[i]:=UD (by lia)
 have e2:(QB st)[i+1]?=some (QB st)[i+1]:=UD hi;generalize (QB st)[i]=u1 at e1;generalize (QB st)[i+1]=u2 at e2;obtain⟨sa,na,p1⟩:=u1;obtain⟨sb,nb,p2⟩:=u2;obtain⟨g1,g2,g3,g4,g5⟩:=h4.at (i:=i) (by rw[Ap];exact e1) (by rw[Ap];exact e2)
 subst g1;refine zgq hq h1 h2 h3 e1 e2 g2 g3 (by lia) λxs g px=>h _ ⟨px,h2,h3,?_,h5⟩
 show Cov (((QB st).setIfInBounds i (sa,na+nb,p1)).eraseIdxIfInBounds (i+1)).toList 0 lo
 have:(((QB st).setIfInBounds i (sa,na+nb,p1)).eraseIdxIfInBounds (i+1)).toList=((QB st).toList.set i (sa,na+nb,p1)).eraseIdx (i+1):=by simp
 rw[this];exact g5
def ite_lt{c:Prop}[Decidable c]{x y z:Nat}(h1:x+1<z)(h2:y+1<z):(if c then x else y)+1<z:=by
 by_cases h:c
 ·rw[if_pos h];exact h1
 ·rw[if_neg h];exact h2
def YS{n:Nat}(iv:SIv a₀ κ lo st)(hn:0<n)(hz:lo+n<=a₀.size):SIv a₀ κ (lo+n) (setPending st ((QB st).push (lo,n,0))):=by
 obtain⟨h1,h2,h3,h4,h5⟩:=iv;refine⟨h1,h2,h3,?_,hz⟩;show Cov ((QB st).push (lo,n,0)).toList 0 (lo+n);rw[Fl];exact h4.push hn
def zcu{j w:Nat}(iv:SIv a₀ κ lo st):SIv a₀ κ lo (setPending st ((QB st).modify j λx=>(x.1,x.2.1,w))):=by
 obtain⟨h1,h2,h3,h4,h5⟩:=iv;refine⟨h1,h2,h3,?_,h5⟩;show Cov ((QB st).modify j λx=>(x.1,x.2.1,w)).toList 0 lo;rw[Array.toList_modify];exact h4.power w
theorem runs_at(hq:QL prog w A E s κ a₀){Q:Unit->Qf->Prop}(iv:SIv a₀ κ 0 st)(h:∀st',(arrOf st').Perm a₀->BS st'=none->Q () st'):wpS (model prog w) A E s sortRuns' Q st:=by
 have sz:(arrOf st).size=a₀.size:=iv.1.size_eq;rw[sortRuns'_eq];refine pO (Bb ?_);dsimp only;rw[sz];refine pO (UW (QJ (I:=λx(c:Option Unit×Nat) st'=>c.1=none/\SIv a₀ κ c.2 st') (Q:=λc st'=>c.1=none/\SIv a₀ κ c.2 st') ?_ (λ_ _ z=>z) ⟨rfl,iv⟩) ?_)
 ·rintro x ⟨r,lo⟩ st' _ hx ⟨e,iv⟩;dsimp only at e iv⊢
  by_cases c1:lo≥a₀.size
  ·rw[if_pos c1];exact pW ⟨rfl,iv⟩
  rw[if_neg c1];refine pO (zf0 hq iv.1 (by omega) (by omega) iv.2.1 λm xs hm1 hm2 px=>?_)
  dsimp only;have iv1:SIv a₀ κ lo (AQ st' xs):=⟨px,iv.2.1,iv.2.2.1,iv.2.2.2.1,iv.2.2.2.2⟩
  by_cases c2:m<minRun' a₀.size a₀.size 0
  ·rw[if_pos c2];generalize minRun' a₀.size a₀.size 0=mr at*;refine pO (DE (gC ⟨rfl,?_⟩));refine pO (bin_at hq px (by omega) iv.2.1 λys py=>?_)
   rw[if_neg (by simp)]
   have iv2:SIv a₀ κ lo (AQ st' ys):=⟨py,iv.2.1,iv.2.2.1,iv.2.2.2.1,iv.2.2.2.2⟩;refine pO (Bb ?_)
   cases eb:(QB (AQ st' ys)).back? with
   |none=>
    dsimp only;exact pO (Qv (pW ⟨rfl,YS iv2 (by omega) (by omega)⟩))
   |some q=>
    obtain⟨s1,n1,p1⟩:=q;dsimp only;refine pO (UW (QJ (I:=λ_(c:Option Unit×Unit) st2=>c.1=none/\SIv a₀ κ lo st2) (Q:=λc st2=>c.1=none/\SIv a₀ κ lo st2) ?_ (λ_ _ z=>z) ⟨rfl,iv2⟩) ?_)
    ·rintro y ⟨r2,u⟩ st2 _ _ ⟨e2,iv2⟩;dsimp only at e2 iv2⊢;refine pO (Bb ?_)
     by_cases c2:(QB st2).size>1
     ·rw[if_pos c2,UD (show(QB st2).size-2<(QB st2).size by omega)]
      generalize (QB st2)[(QB st2).size-2]=q3;obtain⟨q31,q32,q33⟩:=q3;dsimp only
      split
      ·exact pW ⟨rfl,iv2⟩
      ·exact pO (Vm hq iv2 (by omega) λst3 iv3=>pW ⟨rfl,iv3⟩)
     ·rw[if_neg c2];exact pW ⟨rfl,iv2⟩
    ·rintro⟨r2,u⟩ st2 ⟨e2,iv2⟩;dsimp only at e2 iv2⊢;subst e2;exact pO (Qv (pO (Qv (pW ⟨rfl,YS (zcu iv2) (by omega) (by omega)⟩))))
  ·rw[if_neg c2];refine pO (Bb ?_)
   cases eb:(QB (AQ st' xs)).back? with
   |none=>
    dsimp only;exact pO (Qv (pW ⟨rfl,YS iv1 (by omega) (by omega)⟩))
   |some q=>
    obtain⟨s1,n1,p1⟩:=q;dsimp only;refine pO (UW (QJ (I:=λ_(c:Option Unit×Unit) st2=>c.1=none/\SIv a₀ κ lo st2) (Q:=λc st2=>c.1=none/\SIv a₀ κ lo st2) ?_ (λ_ _ z=>z) ⟨rfl,iv1⟩) ?_)
    ·rintro y ⟨r2,u⟩ st2 _ _ ⟨e2,iv2⟩;dsimp only at e2 iv2⊢;refine pO (Bb ?_)
     by_cases c2:(QB st2).size>1
     ·rw[if_pos c2,UD (show(QB st2).size-2<(QB st2).size by omega)]
      generalize (QB st2)[(QB st2).size-2]=q3;obtain⟨q31,q32,q33⟩:=q3;dsimp only
      split
      ·exact pW ⟨rfl,iv2⟩
      ·exact pO (Vm hq iv2 (by omega) λst3 iv3=>pW ⟨rfl,iv3⟩)
     ·rw[if_neg c2];exact pW ⟨rfl,iv2⟩
    ·rintro⟨r2,u⟩ st2 ⟨e2,iv2⟩;dsimp only at e2 iv2⊢;subst e2;exact pO (Qv (pO (Qv (pW ⟨rfl,YS (zcu iv2) (by omega) (by omega)⟩))))
 ·rintro⟨r,lo⟩ st' ⟨e,iv⟩;dsimp only at e iv⊢;subst e;dsimp only;refine pO (UW (QJ (I:=λ_(c:Option Unit×Unit) st2=>c.1=none/\SIv a₀ κ lo st2) (Q:=λc st2=>c.1=none/\SIv a₀ κ lo st2) ?_ (λ_ _ z=>z) ⟨rfl,iv⟩) ?_)
  ·rintro y ⟨r2,u⟩ st2 _ _ ⟨e2,iv2⟩;dsimp only at e2 iv2⊢;refine pO (Bb ?_)
   by_cases c2:(QB st2).size<=1
   ·rw[if_pos c2];exact pW ⟨rfl,iv2⟩
   ·rw[if_neg c2];exact pO (Vm hq iv2 (ite_lt (by omega) (by omega)) λst3 iv3=>pW ⟨rfl,iv3⟩)
  ·rintro⟨r2,u⟩ st2 ⟨e2,iv2⟩;dsimp only at e2 iv2⊢;subst e2;exact pW (h st2 iv2.1 iv2.2.2.1)
end
section
variable{prog:uB}{w:uW}{A:uv}{E:pB->pH->Prop}{s:pH}{vs:List pB}{κ:AE}{g:Heap}
def zd3{x:QR}(h:x∈vs.toArray.zip vs.toArray):x.1∈vs:=by
 have h:x∈(vs.toArray.zip vs.toArray).toList:=Et.mpr h;rw[GP] at h;exact(Cd h).1
def ql_of(hc:∀x y,x∈vs->y∈vs->∀C,(∀b,C b s)->wpAny (model prog w) A (HJ κ x y) C (λ_ _=>False) s):QL prog w A E s κ (vs.toArray.zip vs.toArray):=by
 intro x y st Q hx hy hκ h;rw[lt'_eq];refine pO (Bb ?_);rw[hκ];refine pO (DE (Dh (UX (hc _ _ (zd3 hx) (zd3 hy) (λb s'=>s'=s) λb=>rfl) (λb s' e=>?_) λ_ _ z=>z.elim)));subst e;exact⟨rfl,pW (h b)⟩
theorem zgt{a:Addr}{n:Nat}{P:Be->pH->Prop}(hg:yC g s.heap)(ga:g.objs.size<=a)(ho:s.heap.get? a=some (uV "list" vs.toArray n))(zl:vs.length<=sizeLine)
  (hk:2<=vs.length->∀h',yC g h'->∀Q',Q' κ {s with heap:=h'}->wpAny (model prog w) A (Ek vs.toArray) Q' (λ_ _=>False) {s with heap:=h'})
  (hc:2<=vs.length->∀h',yC g h'->∀x y,x∈vs->y∈vs->∀C,(∀b,C b {s with heap:=h'})->wpAny (model prog w) A (HJ κ x y) C (λ_ _=>False) {s with heap:=h'})
  (q:∀(ys:List pB) h' c,yC g h'->ys.Perm vs->h'.get? a=some (uV "list" ys.toArray c)->P (.done (.ret .none)) {s with heap:=h'}):
  wpAny (model prog w) A (BW.«list.sort» ⟨[.ref a],[]⟩) P E s:=by
 have z0:vs.toArray.size=vs.length:=rfl;have k1:yC g (s.heap.update a (uY λ_=>(#[]:Array pB))):=hg.upd ga;obtain⟨e1,o1⟩:∃e1,(s.heap.update a (uY λ_=>(#[]:Array pB))).get? a=some (uV "list" #[] e1):=⟨_,BX ho _⟩;have k3:=(k1.push (uV "tuple" vs.toArray 0)).push (uV "list" #[] 0);have o3:=pU (uV "list" #[] 0) (pU (uV "tuple" vs.toArray 0) o1);have snds:((vs.toArray.zip vs.toArray).map (·.2)).toList=vs:=by
  rw[Dw,GP];exact GI (pG _)
 have fin:∀(st:Qf),(arrOf st).Perm (vs.toArray.zip vs.toArray)->
   P (.done (.ret .none)) {s with heap:=(((s.heap.update a (uY λ_=>(#[]:Array pB))).push (uV "tuple" vs.toArray 0)).push (uV "list" #[] 0)).update a (uY λ_=>(arrOf st).map (·.2))}:=λst hp=>by
  have e:(((arrOf st).map (·.2)).toList).toArray=(arrOf st).map (·.2):=Array.toArray_toList;obtain⟨c,hc'⟩:∃c,((((s.heap.update a (uY λ_=>(#[]:Array pB))).push (uV "tuple" vs.toArray 0)).push (uV "list" #[] 0)).update a (uY λ_=>(arrOf st).map (·.2))).get? a=some (uV "list" ((arrOf st).map (·.2)) c):=⟨_,BX o3 λ_=>(arrOf st).map (·.2)⟩;refine q ((arrOf st).map (·.2)).toList _ c (k3.upd ga) ?_ ?_
  ·have:=(Cy.mp hp).map (·.2);rw[←Dw,←Dw,snds] at this;exact this
  ·rw[e];exact hc'
 rw[list_sort_plain];refine pA (Uh ho rfl (pA (An ho rfl (pA (DT o1 rfl (pA (wpAny_newTuple (pA (CP (Ue ?_) (uL _))) zl)))) zl (uL _))));dsimp only;have szl:∀st:Qf,(arrOf st).Perm (vs.toArray.zip vs.toArray)->((arrOf st).map (·.2)).size<=sizeLine+1:=λst hp=>by
  rw[Array.size_map,hp.size_eq,Array.size_zip];simp only[uG];lia
 by_cases h2:vs.length<2
 ·rw[z0,if_pos h2,if_pos h2,HH];rw[Gc];refine pA (pM (pA (DT o3 rfl (pA (An o3 rfl ?_ (uL _) (szl (EK general' (vs.toArray.zip vs.toArray) #[] 7 none) (ES _)))))));simp only[show BS (EK general' (vs.toArray.zip vs.toArray) #[] 7 none)=none from rfl,bne_self_eq_false,uD,if_false];exact pM (fin _ (ES _))
 ·have h2':2<=vs.length:=by lia
  rw[z0,if_neg h2,if_neg h2];refine pA (hk h2' _ k3 _ ?_|>λx=>UX x (λ_ _ y=>y) λ_ _ z=>z.elim);have run:=runs_at (E:=E) (ql_of (hc h2' _ k3)) (st:=EK κ (vs.toArray.zip vs.toArray) #[] 7 none) (Q:=λ_ st'=>(arrOf st').Perm (vs.toArray.zip vs.toArray)/\BS st'=none) ⟨ES _,rfl,rfl,rfl,uL _⟩ λst' x y=>⟨x,y⟩;refine pA (UX run ?_ λ_ _ e=>e);rintro⟨⟨⟩,st⟩ s' ⟨rfl,hp,hf⟩;dsimp only at hp hf⊢;refine pA (DT o3 rfl (pA (An o3 rfl ?_ (uL _) (szl st hp))));rw[hf];simp only[bne_self_eq_false,uD,if_false];exact pM (fin st hp)
def zid{l:Addr}{Q:pB->pH->Prop}(hl:s.heap.IsList l vs.toArray)(zl:vs.length<=sizeLine)
  (hk:2<=vs.length->∀h',yC s.heap h'->∀Q',Q' κ {s with heap:=h'}->wpAny (model prog w) A.in1.in1 (Ek vs.toArray) Q' (λ_ _=>False) {s with heap:=h'})
  (hc:2<=vs.length->∀h',yC s.heap h'->∀x y,x∈vs->y∈vs->∀C,(∀b,C b {s with heap:=h'})->wpAny (model prog w) A.in1.in1 (HJ κ x y) C (λ_ _=>False) {s with heap:=h'})
  (q:∀(ys:List pB) h' c,yC s.heap h'->ys.Perm vs->h'.get? (s.heap.objs.size+1)=some (uV "list" ys.toArray c)->Q (.ref (s.heap.objs.size+1)) {s with heap:=h'}):
  wpAny (model prog w) A (call (.builtin "sorted") [.ref l]) Q E s:=by
 have k0:yC s.heap s.heap:=λ_ _ e=>e;have k2:=((k0.push (uV "list" #[] 0)).upd (a:=s.heap.objs.size) (f:=uY (·++vs.toArray)) (pG _)).push (uV "list" vs.toArray 0);have z2:((s.heap.push (uV "list" #[] 0)).update s.heap.objs.size (uY (·++vs.toArray))).objs.size=s.heap.objs.size+1:=by
  rw[GJ,size_push']
 have o2:(((s.heap.push (uV "list" #[] 0)).update s.heap.objs.size (uY (·++vs.toArray))).push (uV "list" vs.toArray 0)).get? (s.heap.objs.size+1)=some (uV "list" vs.toArray 0):=
  z2▸uM _ rfl
 refine Calls.call_function_entry kind_sorted plain_sorted entry_sorted (args_sorted1 _) ?_;unfold BW.«sorted»;refine pA (m:=checkCount _ _ _ _) (pM (pA (collect_list hl (pA (CP ?_ zl)) zl)));rw[show(({s with heap:=(s.heap.push (uV "list" #[] 0)).update s.heap.objs.size (uY (·++vs.toArray))}:pH).heap.objs.size)=s.heap.objs.size+1 from z2];refine pA (Ue (AX slot_list_sort ⟨_,o2,rfl⟩ Gd (zgt (s:={s with heap:=_}) (κ:=κ) k2 (CU _) o2 zl hk hc λys h' c b1 b2 b3=>⟨_,rfl,?_⟩) (args_list_sort _)));exact pM ⟨_,rfl,q ys h' c b1 b2 b3⟩
end
theorem zh7{ws us:List pB}(h:ws.Perm us):∀{vs:List V},zn vs us->∃ys:List V,ys.Perm vs/\zn ys ws:=by
 induction h with
 |nil=>exact λ{vs} t=>⟨vs,.refl _,t⟩
 |cons v _ ih=>
  intro vs t
  cases t with
  |@cons x _ xs _ r t=>
   obtain⟨ys,p,q⟩:=ih t;exact⟨x::ys,p.cons x,.cons r q⟩
 |swap u v l=>
  intro vs t
  cases t with
  |@cons x _ xs _ r t=>
   cases t with
   |@cons y _ zs _ r2 t=>exact⟨y::x::zs,.swap x y zs,.cons r2 (.cons r t)⟩
 |trans _ _ i1 i2=>
  intro vs t;obtain⟨ys,p,q⟩:=i2 t;obtain⟨zs,p',q'⟩:=i1 q;exact⟨zs,p'.trans p,q'⟩
def F22(H:Hp)(v:V):Prop:=∃(p a b:Addr)(x1 y1 x2 y2:Int),v=.ref p/\H p=some (.tup [.ref a,.ref b])/\H a=some (.tup [.int x1,.int y1])/\H b=some (.tup [.int x2,.int y2])
def rSortN:List V->Hp->VK->Prop:=λxs H Q=>∃l vs,xs=[.ref l]/\H l=some (.lst vs)/\(∀v,v∈vs->F22 H v)/\∀D ys,H D=none->ys.Perm vs->Q (.ref D) (upd H D (.lst ys))
section
variable{X:Cx}{pins:List (Addr×Obj)}{σ:St}{H:Hp}{s:pH}
def zf6(I:Inv X pins σ H s){v:V}{u:pB}(h:F22 H v)(r:zm v u):∃d:List Int×List Int,vm s.heap u d.1 d.2/\d.1.length=2/\d.2.length=2:=by
 obtain⟨p,a,b,x1,y1,x2,y2,rfl,hp,ha,hb⟩:=h
 cases r;have ta:=WU I (ns:=[x1,y1]) ha;have tb:=WU I (ns:=[x2,y2]) hb;obtain⟨its,r,⟨⟨cls,dd,data,sl⟩,ho,hc,n,hd⟩,_⟩:=I.tuple (.of hp)
 simp only at hc hd
 subst hc hd;obtain⟨u1,u2,rfl,r1,r2⟩:=vals2 r
 cases r1
 cases r2;exact⟨([x1,y1],[x2,y2]),⟨p,_,_,n,dd,sl,rfl,ho,ta,tb⟩,rfl,rfl⟩
theorem zii(hu:X.A.units+100<cLine):yF X (.builtin "sorted") rSortN:=by
 intro pins s σ H xs us Q I r h;obtain⟨l,vs,rfl,hl,hf,q⟩:=h;obtain⟨u,rfl,ru⟩:=vals1 r
 cases ru;obtain⟨its,rv,pl,hz⟩:=I.list (.of hl);have len:vs.length=its.length:=rv.length;have each:∀u,u∈its->∃d:List Int×List Int,vm s.heap u d.1 d.2/\d.1.length=2/\d.2.length=2:=λu hu'=>by
  obtain⟨i,hi,e⟩:=UC.mp hu';have hv:vs[i]'(by lia)∈vs:=UJ _
  obtain⟨v,hv1,hv2⟩:=vals_get? rv (List.getElem?_eq_some_iff.mpr ⟨hi,e⟩);exact zf6 I (hf v (pX hv1)) hv2
 refine zid (κ:=tuples' false) pl.isList (by lia) (λh2 h' k Q' q'=>?_) (λh2 h' k x y hx hy C c=>?_) λws h' c k pm ho=>?_
 ·refine zez (by lia) (λv hv=>?_) q'
  obtain⟨d,t1,t2,t3⟩:=each v hv;have ne:d.1≠[]:=λz=>by rw[z] at t2;cases t2
  exact⟨_,_,ne,t1.keeps k⟩
 ·obtain⟨d,t1,t2,t3⟩:=each x hx;obtain⟨e,u1,u2,u3⟩:=each y hy;exact lt_tupP (t1.keeps k) (u1.keeps k) (t2.trans u2.symm) (t3.trans u3.symm) (by show X.A.units+1+1+64<_;lia) (c _)
 ·obtain⟨ys,py,vy⟩:=zh7 pm rv;refine⟨.ref _,upd H (s.heap.objs.size+1) (.lst ys),I.laid (t':=s.toks) k (CU _) ⟨?_,_,c,vy,ho⟩,rfl,q _ _ (I.hok.fresh (CU _)) py⟩;rw[py.length_eq];exact hz
end
open PySem.W (kas_sort kas_ask)
open PySem.W (KasT kas_asc kas_desc kas_rev kas_tail3 kas_descPart kas_count kas_place kas_bin kas_sort)
open PySem.W (kla_fn kla_obj envX tabObj CodeHd)
open PySem.W (kla_fn kla_obj envX tabObj CodeHd KasT kas_sort kas_ask)
open PySem.W (kla_fn kla_obj envX tabObj CodeHd KasT kas_sort kas_ask kas_item)
noncomputable def Ite(K:pI)(l:Addr):It:=
 ⟨λi H=>∃xs x,SqL K H l xs/\xs[i]?=some x,
  λi H v H'=>∃T x,H T=none/\v=.ref T/\H'=upd H T (.tup [.int (i:Int),x])/\(∀xs,SqL K H l xs->xs[i]?=some x),
  λi H=>∃xs,SqL K H l xs/\xs.length<=i⟩
def EnuSt(e it l:Addr)(i:Nat)(h:Heap):Prop:=∃old,IsEnum h e it (i:Int) old/\h.IsListIter it l i
variable{elts:List Expr}
theorem zfu{P:uB}{w:uW}{K:pI}{x1:Nat}{pos:Pos}{e it l:Addr}(ne:e≠it):
  Turn P w K (.Tuple elts x1 pos) (Ite K l) [e,it] e (EnuSt e it l) where
 mem:=by simp
 obj:=λi h st b hb=>by
  obtain⟨old,he,h1⟩:=st;simp only[pS,Qe,or_false] at hb;rcases hb with rfl|rfl
  ·exact⟨_,he,λv q=>by cases q⟩
  ·obtain⟨o,q,c,d⟩:=h1;exact⟨o,q,λv r=>by rw[d] at r;cases r⟩
 keep:=λi h h' st k=>by
  obtain⟨old,he,h1⟩:=st;exact⟨old,k e (by simp) _ he,h1.at λo q=>k it (by simp) o q⟩
 item:=by
  intro X hP hw hK hc i pins s σ H E I hf st hg;subst hP hw hK;obtain⟨xs,x,hq1,hx⟩:=hg;obtain⟨old,he,h1⟩:=st;obtain⟨its1,rv1,p1,_⟩:=I.list hq1;obtain⟨u1,hu1,ru1⟩:=rv1.get hx;refine wpAny_pyNext_enum_item he h1 p1.isList (x:=u1) (by simpa using hu1) ne λh₁ z1 j1 pr sz kk=>⟨_,rfl,?_⟩
  refine wpAny_letOwnedTupleGo_enum z1 λh₂ z2 sb=>?_;have lt:∀b∈[e,it],b≠s.heap.objs.size:=λb hb z=>by
   have:∃o,s.heap.get? b=some o:=by
    simp only[pS,Qe,or_false] at hb;rcases hb with rfl|rfl
    ·exact⟨_,he⟩
    ·obtain⟨o,q,_⟩:=h1;exact⟨o,q⟩
   obtain⟨o,q⟩:=this;exact absurd (uC q) (by rw[z];exact Ur _)
  have nz:∀{b:Addr},b≠e->∀{o},h₁.get? b=some o->h₂.get? b=some o:=λ{b} hb{o} q=>(sb.2 b hb).trans q;have zT:s.heap.objs.size≠e:=(lt e (by simp)).symm
  have hnT:H s.heap.objs.size=none:=I.hok.fresh (pG _);have new:yj X.prog X.w (upd H s.heap.objs.size (.tup [.int (i:Int),x])) h₂ s.heap.objs.size (.tup [.int (i:Int),x]):=
   ⟨by show 2<=sizeLine;decide,[.int i s.toks,u1],.cons ⟨_,rfl⟩ (.cons ru1 .nil),⟨_,nz zT pr,rfl,_,rfl⟩⟩
  have I1:=Inv.turnedNew (h':=h₂) (t':=s.toks+1) (ch:=[e,it]) I hf (λb o hb q=>nz (by simp at hb;exact hb.1) (kk b o (by simp at hb;exact hb.1) (by simp at hb;exact hb.2) q)) (pG _) new
  refine⟨.ref s.heap.objs.size,_,I1,rfl,⟨_,x,hnT,rfl,rfl,λys' hy'=>by rw[I.list_inj hy' hq1];exact hx⟩,⟨u1,?_,?_⟩,λb hb=>by rw[zh (lt b hb)];exact(hf b hb).1⟩
  ·exact z2
  ·exact j1.at λo q=>nz (BI ne) q
 done:=by
  intro X hP hw hK hc i pins s σ H E I hf st hg;subst hP hw hK;obtain⟨xs,hq1,hl⟩:=hg;obtain⟨old,he,h1⟩:=st;obtain⟨its1,rv1,p1,_⟩:=I.list hq1;have e1:=rv1.length;refine wpAny_pyNext_enum_end (I.ok.hd hc) he h1 p1.isList (by simp;lia) λh₁ kk=>⟨rfl,?_⟩
  exact I.turnedL (t':=s.toks) (ch:=[e,it]) hf (λb o hb q=>kk b o (by simp at hb;exact hb.2) q)
 self:=λ_ _ _ _ _ st h=>by
  obtain⟨old,he,_⟩:=st;exact Fq he h
section
variable{X:Cx}
def iEnu(ta:TA):TI:=λσ H R=>ta σ H λvs H1=>∃l xs,vs=[.ref l]/\H1 l=some (.lst xs)/\∀K,R (Ite K l) H1
def zh1:Qh "enumerate"=some (.type "enumerate"):=by decide+kernel
theorem pi_enu{a:Expr}{ta:TA}{p pos tpos:Pos}{x1:Nat}(hg:Gl X "enumerate")(hm:X.mg "enumerate"=none)(ha:PA X [a] ta)(hs:QP [a] X.env=[(false,eval a X.env)]:=by rfl):PI X (.Tuple elts x1 tpos) (.Call (.Name "enumerate" p) [a] [] pos) (iEnu ta):=by
 intro pins s σ H R I h;refine Call_ (vR I hg hm zh1 (gX (thn (ha pos pins s σ H _ I h) λus s1⟨vs,H1,I1,r1,q1⟩=>?_) (by rw[hs];rfl) rfl))
 obtain⟨l,xs,e,e1,q⟩:=q1;subst e;obtain⟨u,rfl,ru⟩:=vals1 r1
 cases ru;obtain⟨its1,rv1,p1,_⟩:=I1.list (.of e1);refine call_enumerate_list p1.isList λh' he hi sz kk=>?_;refine Fq he ?_;have I2:Inv X pins σ H1 {s1 with heap:=h'}:=I1.kept (t':=s1.toks) kk;refine⟨_,_,_,_,H1,rfl,I2,zfu (l:=l) (by show s1.heap.objs.size+1≠s1.heap.objs.size;lia),⟨_,he,hi⟩,λb hb=>?_,q _⟩
 have hb':s1.heap.objs.size<=b:=by
  simp only[pS,Qe,or_false] at hb;rcases hb with rfl|rfl
  ·exact gE _ _
  ·exact pG _
 exact I1.fpOk hb' (I1.hok.fresh hb')
end
theorem for_enu{K:pI}{l:Addr}{xs:List V}{g:TG}{tb:TS}{D:Ends}{σ:St}{H:Hp}(Pv:Nat->St->Hp->Prop)(h0:Pv 0 σ H)(hl:∀i σ H,Pv i σ H->H l=some (.lst xs))
  (hs:∀i x T σ H,xs[i]?=some x->Pv i σ H->H T=none->g (.ref T) σ (upd H T (.tup [.int (i:Int),x])) λσ2 H2=>tb {D with nx:=Pv (i+1),ct:=Pv (i+1),bk:=D.nx} σ2 H2)(hd:∀σ H,Pv xs.length σ H->D.nx σ H):
  ∃W:Nat->Nat->St->Hp->Prop,(∃m,W 0 m σ H)/\∀i m σ H,W i m σ H->
   ((Ite K l).stop i H/\D.nx σ H)∨((Ite K l).go i H/\∃N:St->Hp->Prop,(∀σ' H',N σ' H'->∃m',m'<m/\W (i+1) m' σ' H')/\∀x H',(Ite K l).yld i H x H'->g x σ H' λσ2 H2=>tb {D with nx:=N,ct:=N,bk:=D.nx} σ2 H2):=by
 refine⟨λi m σ H=>m=xs.length-i/\i<=xs.length/\Pv i σ H,⟨xs.length,by simp,uL _,h0⟩,?_⟩
 rintro i m σ H ⟨rfl,hi,p⟩;have q1:=hl i σ H p
 by_cases hlt:i<xs.length
 ·refine .inr ⟨⟨xs,xs[i],.of q1,by simp[hlt]⟩,Pv (i+1),λσ' H' p'=>⟨xs.length-(i+1),by lia,rfl,hlt,p'⟩,λv H' y=>?_⟩
  obtain⟨T,x,hT,rfl,rfl,y1⟩:=y;exact hs i x T σ H (y1 xs (.of q1)) p hT
 ·have e:i=xs.length:=by lia
  subst e;exact .inl ⟨⟨xs,.of q1,pG _⟩,hd σ H p⟩
open PySem.W (kla_fn kla_obj envX tabObj CodeHd KasT kas_sort kas_ask kas_item)
section
variable{prog:uB}{w:uW}{A:uv}{E:pB->pH->Prop}{s:pH}{vs ks:List pB}{g:Heap}{a kS:Addr}{e e1:Nat}{f:pB}
open Classical in
noncomputable def kIdx(ks:List pB)(u:pB):Nat:=if h:∃i,i<ks.length/\ks[i]?=some u then GQ h else 0
end
open PySem.W (kla_fn kla_obj envX tabObj CodeHd KasT kas_sort kas_ask kas_item)
def Y5(x y:Int×Int)(xs ys:List (Int×Int)):ltL (x::xs) (y::ys)=if x=y then ltL xs ys else lt2 x y:=by rw[ltL,lex2]
theorem ZF:∀(a b c:List (Int×Int)),ltL a b=true->ltL b c=true->ltL a c=true
 |[],[],[],_,h2=>h2
 |[],_::_,[],_,h2=>by rw[ltL] at h2;cases h2
 |[],_,_::_,_,_=>by rw[ltL];exact decide_eq_true (Fs _)
 |_::_,[],_,h1,_=>by rw[ltL] at h1;cases h1
 |_::_,_::_,[],_,h2=>by rw[ltL] at h2;cases h2
 |x::xs,y::ys,z::zs,h1,h2=>by
  rw[Y5] at*
  by_cases e1:x=y
  ·rw[if_pos e1] at h1
   by_cases e2:y=z
   ·rw[if_pos e2] at h2;rw[if_pos (e1.trans e2)];exact ZF xs ys zs h1 h2
   ·rw[if_neg e2] at h2;rw[e1,if_neg e2];exact h2
  ·rw[if_neg e1] at h1
   by_cases e2:y=z
   ·rw[←e2,if_neg e1];exact h1
   ·rw[if_neg e2] at h2;have t:=sto2.tr _ _ _ h1 h2;rw[if_neg (λe=>by rw[e,sto2.irr] at t;cases t)]
    exact t
theorem zc6:∀(a b:List (Int×Int)),a≠b->ltL a b=true∨ltL b a=true
 |[],[],n=>absurd rfl n
 |[],_::_,_=>.inl (by rw[ltL];exact decide_eq_true (Fs _))
 |_::_,[],_=>.inr (by rw[ltL];exact decide_eq_true (Fs _))
 |x::xs,y::ys,n=>by
  rw[Y5,Y5]
  by_cases e:x=y
  ·rw[if_pos e,if_pos e.symm];exact zc6 xs ys λz=>n (by rw[e,z])
  ·rw[if_neg e,if_neg (λz=>e z.symm)];exact sto2.tot _ _ e
theorem Zr:∀a:List (Int×Int),ltL a a=false
 |[]=>rfl
 |x::xs=>by rw[Y5,if_pos rfl];exact Zr xs
open PySem.W (kas_sort kas_ask)
variable{K':pI}
def zgg{X:Cx}{tg l:Expr}{tl:TE}(hK:X.K=K')(hl:PE X l tl):PI X tg l (zX K' tl):=by
 subst hK;exact yd hl
def zbm(tk tv:TE):TE:=λσ H Q=>∀p,H p=none->tk σ (upd H p (.dT [])) λx H1=>tv σ H1 λy H2=>∃k b,x=.ref b/\H2 b=some (.tup (k.map kV))/\H2 p=some (.dT [])/\Q (.ref p) (upd H2 p (.dT (putK [] k y)))
theorem zeq{X:Cx}{pos:Pos}{e f:Expr}{tk tv:TE}(hu:X.A.units+1<cLine)(hk:PE X e tk)(hv:PE X f tv):PE X (.Dict [some e] [f] pos) (zbm tk tv):=by
 intro pins s σ H Q I q;have hn:=I.hok.fresh (pG s.heap.objs.size);have I1:=I.laid (a:=s.heap.objs.size) (o:=.dT []) (h':=s.heap.push {cls:=.type "dict",data:=.dict #[]}) (t':=s.toks) (λ_ _ q=>pU _ q) (pG _) (ze4 s.heap I.big);rw[arm_eval_Dict,zip_pairTrees [some e] [f] X.env pos rfl rfl,dictDisplay_pairs (pairTrees [some e] [f] X.env pos) (by intro z;cases z) (by rw[GR _ _ _ _ rfl rfl];show 1<17;decide)]
 refine pA (CO (pA ?_));unfold subDict;refine pA (wpAny_alloc ?_);refine pA (Ue ?_);rw[if_pos (by rw[GR _ _ _ _ rfl rfl];show 1<=15;decide)]
 refine pA (pairTrees_cons_walk (thn (hk pins _ σ _ _ I1 (q _ hn)) λu s1⟨x,H1,I2,rx,q1⟩=>thn (hv pins s1 σ H1 _ I2 q1) λw2 s2⟨y,H2,I3,ry,k,b,ex,hb,hp,q2⟩=>pairTrees_nil_walk ?_));subst ex
 cases(show u=um b from rx);refine Ue ?_;rw[EM];obtain⟨z,hd,xs,rel,dd⟩:=Xg I3.hok hp;have hz:xs.length<=sizeLine:=by rw[←Am rel];exact z
 have hl:(putK ([]:List (List Key×V)) k y).length<=sizeLine:=by have:=vk ([]:List (List Key×V)) k y;exact pz this (by decide)
 refine pA (pA (pA (m:=dictSet s.heap.objs.size (um b) w2) (wpAny_dictSet_heap (hsz:=hz) (show X.A.units<cLine by lia) (wH I3.hok hb) dd λh' dd' hs=>pM ?_)))
 show wpAny _ _ (forIn [] He _) _ _ _
 rw[Go];refine pM (pM (pM (pM ?_)));obtain⟨o,es,ep,ho,h2,h3,h4,_,h5⟩:=dd';refine⟨.ref s.heap.objs.size,upd H2 s.heap.objs.size (.dT (putK [] k y)),jy I3 (by rw[hp];exact BC) hs ⟨o,ho⟩ ⟨hl,hd,_,(rel.put k hb ry).keeps λc ys ec=>?_,o,es,ep,ho,h2,h3,h4,h5⟩,rfl,q2⟩
 rw[zh (qR ec hp λz=>nomatch z)];exact ec
theorem Jx{α β:Type}(f:α->β):∀(l:List α)(i:Nat),(l.map f).eraseIdx i=(l.eraseIdx i).map f
 |[],_=>rfl
 |_::_,0=>rfl
 |x::l,i+1=>by
  show f x::(l.map f).eraseIdx i=f x::(l.eraseIdx i).map f
  rw[Jx f l i]
section
variable{prog:uB}{w:uW}{K:Type}[DecidableEq K]{knd:HeapKind prog w K}{A:uv}{E:pB->pH->Prop}{s:pH}
theorem zfl{a:Addr}{xs:List (K×Addr×pB)}{k:K}{p:Addr×pB}{j:Nat}{Q:Option Dq->pH->Prop}(hu:knd.room A)(hkey:knd.is s.heap k a)(hm:s.heap.DictOfH knd d xs)(hz:xs.length<=sizeLine)(hj:xs[j]?=some (k,p))
  (q:∀e h',e.val=p.2->h'.DictOfH knd d (xs.eraseIdx j)->gz d s.heap h'->Q (some e) {s with heap:=h',toks:=s.toks+knd.draws k}):
  wpAny (model prog w) A (Ev d (.ref a)) Q E s:=by
 obtain⟨o,es,ep,ho,hc,hd,he,his,hn⟩:=hm;have hsz:es.size=xs.length:=EQ he;unfold Ev;refine Ue (pA (knd.pyHash hu hkey (pA (FD (s:={s with toks:=s.toks+knd.draws k}) hu hkey ho hd he his hn (λhno=>?_) λi p' hi=>?_))))
 ·exact absurd hj (hno j p)
 ·have ij:i=j:=by
   have h1:=pF.mp hi;have h2:=pF.mp hj;have e:(xs.map (·.1))[i]?=(xs.map (·.1))[j]?:=by rw[pT,pT,hi,hj];rfl
   exact(List.getElem?_inj (by rw[pC];exact h1.1) hn).mp e
  subst ij;rw[hj] at hi
  cases hi;refine pA (AG (s:={s with toks:=s.toks+knd.draws k}) ho hd ?_);rw[entry_at he i,hj];refine pA (Eo (hz:=by lia) (s:={s with toks:=s.toks+knd.draws k}) ho hd (pM (q _ _ rfl ⟨_,_,ep+1,gr _ ho (FE (BE hd _)),hc.mapDictKeys _,BE hd _,?_,?_,?_⟩ (hU ..))))
  ·have hi:i<es.size:=by rw[hsz];exact(pF.mp hj).1
   rw[Array.eraseIdxIfInBounds,dif_pos hi,Array.toList_eraseIdx,he,Jx]
  ·intro x hx;exact knd.keeps (his x (List.mem_of_mem_eraseIdx hx)) ho hd (hU ..)
  ·rw[←Jx];exact hn.sublist (List.eraseIdx_sublist _ _)
theorem zhg{a:Addr}:MeetsIn prog w (BW.«dict.pop» ⟨[.ref d,.ref a],[]⟩) (λA R s=>knd.room A.in1/\∃k xs j p,knd.is s.heap k a/\s.heap.DictOfH knd d xs/\xs.length<=sizeLine/\xs[j]?=some (k,p)/\
  ∀h',h'.DictOfH knd d (xs.eraseIdx j)->gz d s.heap h'->R (.ok (.ret p.2)) {s with heap:=h',toks:=s.toks+knd.draws k}):=
 .of_wp λA R s⟨hu,k,xs,j,p,hkey,hm,hz,hj,h⟩=>by
  unfold BW.«dict.pop» Cz;refine pA (pA (CH hm.typeIs ?_));show wpAny _ _ (pure (d,um a,none)) _ _ s;refine pM ?_;obtain⟨o,es,ep,ho,hc,hd,he,his,hn⟩:=id hm;have hsz:es.size=xs.length:=EQ he;have ne:es.isEmpty=false:=by
   have:=(pF.mp hj).1;rw[Array.isEmpty];exact decide_eq_false (by lia)
  simp only[keyPart,Option.isSome_none,uD,if_false];refine pA (AG ho hd (pA (pM ?_)));rw[ne];simp only[uD,if_false];refine pA (zfl hu hkey hm hz hj λe h' ev hm' hs'=>?_);simp only[Option.isNone_some,uD,if_false];exact pA (CV (pM ⟨e.val,rfl,by rw[ev];exact h h' hm' hs'⟩))
end
theorem Paired.split{α β:Type}{F:α->β->Prop}{x:α}{r:List α}:∀{l:List α}{ys:List β},Bi F (l++x::r) ys->∃l' y r',ys=l'++y::r'/\l'.length=l.length/\Bi F l l'/\F x y/\Bi F r r'
 |[],_,.cons h t=>⟨[],_,_,rfl,rfl,.nil,h,t⟩
 |a::l,_,.cons h t=>by
  obtain⟨l',y,r',rfl,e,p1,p2,p3⟩:=Paired.split (l:=l) t;exact⟨_::l',y,r',rfl,by rw[uN,e,uN],.cons h p1,p2,p3⟩
theorem Paired.app{α β:Type}{F:α->β->Prop}{r:List α}{r':List β}(h:Bi F r r'):∀{l:List α}{l':List β},Bi F l l'->Bi F (l++r) (l'++r')
 |_,_,.nil=>h
 |_,_,.cons a t=>.cons a (Paired.app h t)
def zfq{α:Type}(l:List α)(y:α)(r:List α):(l++y::r).eraseIdx l.length=l++r:=by
 rw[List.eraseIdx_append_of_length_le (pG _),Bw];rfl
def V7(td ty:TE):TE:=λσ H Q=>td σ H λx H1=>∃a,x=.ref a/\IsD H1 a/\ty σ H1 λy H2=>∃l r k v b,H2 a=some (.dT (l++(k,v)::r))/\y=.ref b/\H2 b=some (.tup (k.map kV))/\Q v (upd H2 a (.dT (l++r)))
section
variable{X:Cx}{o e:Expr}{apos cpos:Pos}{td ty:TE}
theorem zj3(hu:X.A.units+1<cLine)(ho:PE X o td)(he:PE X e ty)(m:M1 X o "pop" apos e cpos):PE X (.Call (.Attribute o "pop" apos) [e] [] cpos) (V7 td ty):=by
 intro pins s σ H Q I h;refine DU m.base m.few m.line Bf EZ PySem.F.type_dict_pop (thn (ho pins s σ H _ I h) λu s1⟨x,H1,I1,rx,a,ex,d,q1⟩=>?_);subst ex;obtain rfl:u=um a:=rx;obtain⟨t1,t2,_⟩:=WP I1 d;refine⟨t1,t2,?_⟩;rw[m.trees];refine gY rfl (BA (ge (thn (he pins s1 σ H1 _ I1 q1) λiv s2⟨y,H2,I2,ry,l,r,k,v,b,ea,ey,eb,q2⟩=>Bl ?_)));subst ey
 cases(show iv=um b from ry);obtain⟨z,hd,xs,rel,dd⟩:=Xg I2.hok ea;have hz:xs.length<=sizeLine:=by rw[←Am rel];exact z
 obtain⟨l',p,r',rfl,el,p1,p2,p3⟩:=Paired.split rel;obtain⟨pk,pa,pv⟩:=p;obtain⟨e1,e2,e3⟩:=p2
 cases(show k=pk from e1);refine EH EZ dd.typeIs PySem.F.entry_dict_pop (PySem.F.args_dict_pop_2 _ _) (zhg (knd:=Qd (zH X.prog X.w))) ⟨UR hu,k,_,l'.length,(pa,pv),wH I2.hok eb,dd,hz,by rw[uJ (pG _),Bw];rfl,λh' dd' hs=>?_⟩
 rw[zfq] at dd';obtain⟨q,es,ep,hq,h2,h3,h4,_,h5⟩:=dd';refine⟨v,upd H2 a (.dT (l++r)),jy I2 (by rw[ea];exact BC) hs ⟨q,hq⟩ ⟨?_,hd,_,KT.keeps (Paired.app p3 p1) λc ys ec=>?_,q,es,ep,hq,h2,h3,h4,h5⟩,e3,q2⟩
 ·rw[pK] at z⊢;rw[uN] at z;lia
 ·rw[zh (qR ec ea λz=>nomatch z)];exact ec
end
def TupQ(h:Heap)(v:pB)(a b c d:List Int):Prop:=∃(p:Addr)(x y z t:pB)(n:Nat)(dd:Option Addr)(sl:Array (Option pB)),v=.ref p/\h.get? p=some {cls:=.type "tuple",dict:=dd,data:=.seq #[x,y,z,t] n,slots:=sl}/\yc h x a/\yc h y b/\yc h z c/\yc h t d
open PySem.W (KatTups) in
theorem ktupsQ{h:Heap}:∀vs:List pB,(∀v,v∈vs->∃a b c d,TupQ h v a b c d)->∃fs,fs.length=vs.length/\KatTups h vs fs/\∀f,f∈fs->∃ns,yc h f ns
 |[],_=>⟨[],rfl,.nil,λf hf=>by cases hf⟩
 |v::vs,hv=>by
  obtain⟨fs,l,t,r⟩:=ktupsQ vs λu hu=>hv u (pE _ hu);obtain⟨a,b,c,d,p,x,y,z,u,n,dd,sl,rfl,o,i,j⟩:=hv v (pj ..);refine⟨x::fs,by simp[l],.cons o rfl rfl rfl t,λf hf=>?_⟩
  rcases pS.mp hf with rfl|hf
  ·exact⟨_,i⟩
  ·exact r f hf
section
variable{X:Cx}{pins:List (Addr×Obj)}{σ:St}{H:Hp}{s:pH}
def rInL(K:pI):R2:=λx y H Q=>∃d es,RdD K H d x/\RdD K H (.list es) y/\d.canLay0=true/\uU es=true/\d.depth<=60/\Q (.bl (es.any λe=>ut e d)) H
theorem op_inL(hK:X.K=K')(hu:X.A.units+64<cLine):OpR X (Qy .In) (rInL K'):=by
 subst hK;intro pins s σ H x y v u Q I rx ry h;obtain⟨d,es,hd,he,c1,c2,c3,q⟩:=h;obtain⟨as,ra⟩:=wZ I d x v hd rx;obtain⟨bs,rb⟩:=wZ I _ y u he ry;exact SeqAt.in_list_reads rb ra c2 c1 (by lia) ⟨.bl _,H,I,rfl,q⟩
end
def tSlR(te ts:TE):TE:=λσ H Q=>te σ H λx H1=>ts σ H1 λy H2=>y=.int (-1)/\∃a xs,x=.ref a/\H2 a=some (.lst xs)/\∀p,H2 p=none->Q (.ref p) (upd H2 p (.lst xs.reverse))
theorem zff(n:Nat):sliceRange ((n:Int)-1) (-1) (-1)=(pP n).map λk=>n-1-k:=by
 unfold sliceRange;have c:(if(-1:Int)>0 then(if(n:Int)-1< -1 then(-1-((n:Int)-1)+ -1-1)/ -1 else 0) else(if(n:Int)-1> -1 then((n:Int)-1- -1- -1-1)/(- -1) else 0))=(n:Int):=by
  rw[if_neg (by decide)]
  by_cases h:(n:Int)-1> -1
  ·rw[if_pos h,show(- -1:Int)=1 from rfl,Int.ediv_one];lia
  ·rw[if_neg h];lia
 dsimp only;rw[c,Ua];refine Qx λk hk=>?_;have:=pQ.mp hk;lia
theorem zbq{α β:Type}{f:α->Option β}{g:α->β}:∀{l:List α},(∀x,x∈l->f x=some (g x))->l.filterMap f=l.map g
 |[],_=>rfl
 |x::l,h=>by rw[BP,h x (by simp),pR,zbq λy hy=>h y (pE _ hy)]
theorem zfc(its:List pB):GC its.toArray none none (some (-1))=its.reverse.toArray:=by
 have b:Az none none (some (-1)) its.toArray.size=((its.length:Int)-1,-1,-1):=rfl;unfold GC;rw[b];dsimp only;rw[zff]
 congr 1
 refine Ft λi=>?_;have e:((pP its.length).map λk=>its.length-1-k).filterMap (λj=>its.toArray[j]?)=(pP its.length).map λk=>its.getD (its.length-1-k) .none:=by
  rw[List.filterMap_map];refine zbq λk hk=>?_;have:=pQ.mp hk;show its.toArray[its.length-1-k]?=some (its.getD (its.length-1-k) .none);rw[gt,pD,pJ (by omega)]
  rfl
 rw[e,pT]
 by_cases h:i<its.length
 ·rw[gQ h,Ar h];show some (its.getD (its.length-1-i) .none)=_;rw[pD,pJ (by omega)]
  rfl
 ·rw[gB (by rw[uS];omega),gB (by rw[UZ];omega)]
  rfl
section
variable{X:Cx}{e st:Expr}{te ts:TE}{pos p2:Pos}
theorem pe_rev(he:PE X e te)(hs:PE X st ts):PE X (.Subscript e (.Slice none none (some st) p2) pos) (tSlR te ts):=by
 intro pins s σ H Q I h;refine FI (thn (he pins s σ H _ I h) λv s1⟨x,H1,I1,r1,q1⟩=>?_);refine wpAny_Slice ?_;rw[FG];refine pM ?_;refine pM ?_;rw[evalPart_some];refine thn (hs pins s1 σ H1 _ I1 q1) λvs s3⟨y,H3,I3,rs,q3⟩=>?_;obtain⟨rfl,a,xs,rfl,hx,q⟩:=q3;obtain⟨t,rfl⟩:=rs
 cases r1;have I4:Inv X pins σ H3 {s3 with heap:=s3.heap.push {cls:=.type "slice",data:=.fields #[.none,.none,.int (-1) t]}}:=I3.kept (t':=s3.toks) λb ob q=>pU _ q;obtain⟨its,r,ht,hz⟩:=I4.list (.of hx);have hlen:=r.length;show wpAny (model X.prog X.w) X.A (DZ e (.Slice none none (some st) p2) (.ref a) (.ref s3.heap.objs.size)) (EP X pins σ Q) X.xe {s3 with heap:=s3.heap.push {cls:=.type "slice",data:=.fields #[.none,.none,.int (-1) t]}};refine tail_any (ops:=[.ref a,.ref s3.heap.objs.size]) ht.isList.typeIs DS.lookup ?_ (by with_unfolding_all rfl)
 refine Da ht.isList (FJ ..) .none .none (.int (-1) t) (by simp) ?_ (by rw[uG]<;>lia)
 rw[zfc];refine⟨.ref _,_,I4.laid (t':=s3.toks) (o:=.lst xs.reverse) (λb ob q=>pU _ q) (pG _) ?_,rfl,q _ (I4.hok.fresh (pG _))⟩;exact⟨by rw[UZ];exact hz,_,0,r.reverse,uM _ rfl⟩
end
def op_neDK{X:Cx}(hK:X.K=K')(hu:X.A.units+64<cLine):OpR X (Qy .NotEq) (rNeD K'):=by
 subst hK;exact vS hu
structure zy(K:pI)(mg:Str->Option pB)(x:Str)(st:Stmt)(ps:List Str)(f:Addr)(fd:UM):Prop where
 fn:Fun K x x st f fd
 bn:Binds K fd ps []
 mg:mg x=some (.ref f)
def zu{X:Cx}{k':Nat}{f:Addr}{fd:UM}{ps:List Str}{sp:Sp}{x:Str}{st:Stmt}{p pos:Pos}{e:Expr}{es:List Expr}{t:TA}(ok:zv X.prog X.w X.K X.mg X.base CX0 k f fd ps sp)(F:zy X.K X.mg x st ps f fd)(hr:yb k' X.A)(ha:PA X (e::es) t)(hk:k<=k':=by decide)(hg:Gl X x:=by rfl)(hdb:(x==("__debug__":Str))=false:=by decide)(he:QP (e::es) X.env=(false,eval e X.env)::QP es X.env:=by rfl)(hpl:(Ao pos (QP es X.env)).any (·.1)=false:=by rfl):
  PE X (.Call (.Name x p) (e::es) [] pos) (jL sp [] E0 t):=zc0 ok (hr.mono hk) hg F.mg F.fn.kp F.bn .nil pass0 ha hdb he hpl
variable{pos':Pos}
section
variable{X:Cx}{pos:Pos}
variable{x:Str}
theorem zk(i:Nat){e:Expr}{te:TE}(hN:X.N.Nodup)(he:PE X e te)(hi:X.N[i]?=some x:=by rfl)(hx:Loc X.env.scope x:=by first|exact .inl rfl|exact .inr rfl)(hs:Cp e (some (.Name x pos')) pos.line X.env=pure false:=by rfl)(hf:X.fn x=true∨X.env.scope.names.lookup x=some .local:=by first|exact .inl rfl|exact .inr rfl|assumption):
  PS X (.Assign [.Name x pos'] e pos) (w6 te (gName i)):=Vg hN hi hx he hs hf
theorem zD(i:Nat)(hN:X.N.Nodup)(hi:X.N[i]?=some x:=by rfl)(hx:Loc X.env.scope x:=by first|exact .inl rfl|exact .inr rfl)(hf:X.fn x=true∨X.env.scope.names.lookup x=some .local:=by first|exact .inl rfl|exact .inr rfl|assumption):PG X (.Name x pos) (gName i):=qg hN hi hx hf
def zd{a b:Expr}{ta tb:TE}{r:R2}(h:IxR X r)(ha:PE X a ta)(hb:PE X b tb)(hp:zc7 b:=by exact λ_ _=>rfl):PE X (.Subscript a b pos) (tOp r ta tb):=pe_ix h ha hb hp
def zC{N P:List Str}{sc:Scope}(k:sc.kind=.function)(h:sc.isCoroutine=false/\sc.isGenerator=false/\N.Nodup/\N.take P.length=P/\(∀x∈P,sc.names.lookup x=some .local∨sc.names.lookup x=some .cell)/\∀y∈sc.names,y.2≠.free):zw N P sc:=⟨k,h.1,h.2.1,h.2.2.1,h.2.2.2.1,h.2.2.2.2.1,h.2.2.2.2.2⟩
def cs_mk{dsc:Scope}{N:List Str}{scope:Scope}{own:List Str}{ix:List Nat}(k:scope.kind=.function)(h:(∀y∈scope.names,y.2≠Dd)/\(∀y∈scope.names,y.2=NameKind.local->scope.names.lookup y.1=some .local)/\(∀y∈scope.names,y.2=Qu->dsc.names.lookup y.1=some .cell∨dsc.names.lookup y.1=some .free)/\∀i∈ix,i<N.length/\scope.names.lookup (N.getD i "")=some .free):vj dsc N scope own ix:=⟨k,h.1,h.2.1,h.2.2.1,h.2.2.2⟩
variable{scope dsc:Scope}{tg iter elt:Expr}{ifs:List Expr}{wi:TI}{g:TG}{ti:TT}{te:TE}{N P:List Str}
def xT(S:zw N P dsc)(own:List Str)(ix:List Nat)(hi:PI X tg iter wi)(hb:CompBody X scope own ix tg ifs elt g ti te)(S':vj dsc N scope own ix:=by exact cs_mk rfl (by decide+kernel))(hc:X.calm=true:=by rfl)(hd:X.env.scope=dsc:=by rfl)(hN:X.N=N:=by rfl)
  (hs:∀x,AB iter X.env x=pure x:=by intro _;rfl):PE X (.ListComp elt [⟨tg,iter,ifs,0⟩] scope pos) (j9 own.length ix wi g ti te):=ZU hc hd hN S' hi hb hs
theorem XC(i:Nat){pos1:Pos}(S:zw N P dsc)(own:List Str)(ix:List Nat)(hi:PI X tg iter wi)(hb:CompBody X scope own ix tg ifs elt g ti te)(S':vj dsc N scope own ix:=by exact cs_mk rfl (by decide+kernel))(hc:X.calm=true:=by rfl)(hd:X.env.scope=dsc:=by rfl)(hN':X.N=N:=by rfl)(hx0:X.N[i]?=some x:=by rfl)(hx:Loc X.env.scope x:=by first|exact .inl rfl|exact .inr rfl)
  (hsw:Cp (.ListComp elt [⟨tg,iter,ifs,0⟩] scope pos) (some (.Name x pos')) pos1.line X.env=pure true:=by rfl) (hf:X.fn x=true∨X.env.scope.names.lookup x=some .local:=by first|exact .inl rfl|exact .inr rfl|assumption)
  (hs:∀x,AB iter X.env x=pure x:=by intro _;rfl):PS X (.Assign [.Name x pos'] (.ListComp elt [⟨tg,iter,ifs,0⟩] scope pos) pos1) (w6 (j9 own.length ix wi g ti te) (gName i)):=ps_setC (by rw[hN'];exact S.nd) hx0 hx hc hd hN' S' hi hb hsw hf hs
end
def ym{t u:TS}{D:Ends}{σ:St}{H:Hp}(h:∀f:St->Hp->Prop,(∀σ H,u D σ H->f σ H)->t {D with nx:=f} σ H):zG t u D σ H:=h _ λ_ _ z=>z
def ifG{c:TT}{t u:TS}{D:Ends}{σ:St}{H:Hp}(h:∀f g:Hp->Prop,(∀H,t D σ H->f H)->(∀H,u D σ H->g H)->c σ H λb H1=>if b=true then f H1 else g H1):j7 c t u D σ H:=h _ _ (λ_ z=>z) λ_ z=>z
def tVM(i:Nat):TE:=λσ H Q=>match σ[i]? with|some (some v)=>Q v H|_=>False
theorem tVM_le{i:Nat}{σ:St}{H:Hp}{Q:VK}(h:tVM i σ H Q):tVar i σ H Q:=by
 unfold tVM at h
 split at h
 ·exact⟨_,‹_›,h⟩
 ·exact h.elim
def pm{X:Cx}(i:Nat){x:Str}{pos:Pos}(hN:X.N[i]?=some x:=by rfl)(hv:Vis X.env.scope x:=by first|exact Ef rfl|exact Dc (Ef rfl)|exact Dc (Dc rfl))(hd:(x==("__debug__":Str))=false:=by decide)
  (hcd:(x==("__classdict__":Str))=false:=by decide):PE X (.Name x pos) (tVM i):=λpins s σ H Q I h=>Z9 hN hv hd hcd pins s σ H Q I (tVM_le h)
variable{a1 a2 a3 a4 a5 a6 a7 a8 a9 a10 a11:Option V}
section
variable{v:V}{σ:St}{H:Hp}{Q:VK}
def z_v0:tVM 0 (some v::σ) H Q=Q v H:=rfl
def z_v1{a0:Option V}:tVM 1 (a0::some v::σ) H Q=Q v H:=rfl
def z_v2{a0:Option V}:tVM 2 (a0::a1::some v::σ) H Q=Q v H:=rfl
def z_v3{a0:Option V}:tVM 3 (a0::a1::a2::some v::σ) H Q=Q v H:=rfl
def z_v4{a0:Option V}:tVM 4 (a0::a1::a2::a3::some v::σ) H Q=Q v H:=rfl
def z_v5{a0:Option V}:tVM 5 (a0::a1::a2::a3::a4::some v::σ) H Q=Q v H:=rfl
def z_v6{a0:Option V}:tVM 6 (a0::a1::a2::a3::a4::a5::some v::σ) H Q=Q v H:=rfl
def z_v7{a0:Option V}:tVM 7 (a0::a1::a2::a3::a4::a5::a6::some v::σ) H Q=Q v H:=rfl
def z_v8{a0:Option V}:tVM 8 (a0::a1::a2::a3::a4::a5::a6::a7::some v::σ) H Q=Q v H:=rfl
def z_v9{a0:Option V}:tVM 9 (a0::a1::a2::a3::a4::a5::a6::a7::a8::some v::σ) H Q=Q v H:=rfl
def z_v10{a0:Option V}:tVM 10 (a0::a1::a2::a3::a4::a5::a6::a7::a8::a9::some v::σ) H Q=Q v H:=rfl
def z_v11{a0:Option V}:tVM 11 (a0::a1::a2::a3::a4::a5::a6::a7::a8::a9::a10::some v::σ) H Q=Q v H:=rfl
def z_v12{a0:Option V}:tVM 12 (a0::a1::a2::a3::a4::a5::a6::a7::a8::a9::a10::a11::some v::σ) H Q=Q v H:=rfl
def z_v13{a0 a12:Option V}:tVM 13 (a0::a1::a2::a3::a4::a5::a6::a7::a8::a9::a10::a11::a12::some v::σ) H Q=Q v H:=rfl
end
section
variable{t u:TS}{te ta tb:TE}{c c':TT}{D:Ends}{σ:St}{H:Hp}{Q:VK}{g:TG}{gs:TGs}{a:TA}{v w x y:V}{xs l:List V}{p:Addr}{i j k:Int}{b:Bool}
def yB(v:V)(Q:Bool->Prop):Prop:=∃k,v=.bl k/\Q k
def yI(v:V)(Q:Int->Prop):Prop:=∃k,v=.int k/\Q k
def yTw(vs:List V)(Q:V->V->Prop):Prop:=∃v w,vs=[v,w]/\Q v w
def yX(xs:List V)(i:Int)(Q:V->Prop):Prop:=∃v,atI xs i=some v/\Q v
def yJ(o:Option Nat)(Q:Nat->Prop):Prop:=∃j,o=some j/\Q j
def yB_bl{Q:Bool->Prop}:yB (.bl b) Q=Q b:=propext ⟨λ⟨k,e,q⟩=>by cases e;exact q,λq=>⟨_,rfl,q⟩⟩
def yI_int{Q:Int->Prop}:yI (.int i) Q=Q i:=propext ⟨λ⟨k,e,q⟩=>by cases e;exact q,λq=>⟨_,rfl,q⟩⟩
def yTw_two{Q:V->V->Prop}:yTw [v,w] Q=Q v w:=propext ⟨λ⟨k,e,f,q⟩=>by cases f;exact q,λq=>⟨_,_,rfl,q⟩⟩
def VT{Q:V->Prop}{v:V}(h:atI xs i=some v):yX xs i Q=Q v:=propext ⟨λ⟨k,e,q⟩=>by rw[h] at e;cases e;exact q,λq=>⟨_,h,q⟩⟩
def yX_0{Q:V->Prop}{x0:V}:yX (x0::l) 0 Q=Q x0:=VT at0
def yX_1{Q:V->Prop}{x0 x1:V}:yX (x0::x1::l) 1 Q=Q x1:=VT at1
def yX_2{Q:V->Prop}{x0 x1 x2:V}:yX (x0::x1::x2::l) 2 Q=Q x2:=VT at2
def y_next:Yj D σ H=D.nx σ H:=rfl
def y_seq:zG t u D σ H=t {D with nx:=u D} σ H:=rfl
def y_ret:jW te D σ H=te σ H D.rt:=rfl
def y_ifS:j7 c t u D σ H=c σ H λb H1=>if b=true then t D σ H1 else u D σ H1:=rfl
def y_asg:w6 te g D σ H=te σ H λx H1=>g x σ H1 D.nx:=rfl
def y_drop:qX te D σ H=te σ H λ_ H1=>D.nx σ H1:=rfl
def y_par{i j:Nat}:tPar i j a D σ H=a σ H λvs H1=>yTw vs λv w=>gName i v σ H1 λσ' H'=>gName j w σ' H' D.nx:=rfl
def y_c:tC v σ H Q=Q v H:=rfl
def y_op{r:R2}:tOp r ta tb σ H Q=ta σ H λx H1=>tb σ H1 λy H2=>r x y H2 Q:=rfl
def y_un{r:V->Hp->VK->Prop}:tUn r ta σ H Q=ta σ H λx H1=>r x H1 Q:=rfl
def y_rI{C:Int->Int->Prop}{g:Int->Int->V}:rI C g (.int i) (.int j) H Q=(C i j/\Q (g i j) H):=propext ⟨λ⟨a,b,e,f,q⟩=>by cases e;cases f;exact q,λq=>⟨_,_,rfl,rfl,q⟩⟩
def y_rI0{g:Int->Int->V}:rI0 g (.int i) (.int j) H Q=Q (g i j) H:=propext ⟨λ⟨a,b,e,f,q⟩=>by cases e;cases f;exact q,λq=>⟨_,_,rfl,rfl,q⟩⟩
def y_rU{g:Int->V}:rU g (.int i) H Q=Q (g i) H:=propext ⟨λ⟨a,e,q⟩=>by cases e;exact q,λq=>⟨_,rfl,q⟩⟩
def y_eq:rEq x y H Q=(scal x y=true/\Q (.bl (decide (x=y))) H):=rfl
def y_ne:rNe x y H Q=(scal x y=true/\Q (.bl (!decide (x=y))) H):=rfl
section
variable{Q:Bool->Hp->Prop}
def y_test:Yd te σ H Q=te σ H λx H'=>yB x λk=>Q k H':=rfl
def y_B:tB te σ H Q=te σ H λx H'=>yB x λk=>Q k H':=rfl
def y_not:qY c σ H Q=c σ H λc H1=>Q (!c) H1:=rfl
def y_and:qM c c' σ H Q=c σ H λb H1=>if b=true then c' σ H1 Q else Q false H1:=rfl
def y_or:tOr c c' σ H Q=c σ H λb H1=>if b=true then Q true H1 else c' σ H1 Q:=rfl
def y_yes:tYes σ H Q=Q true H:=rfl
end
def y_andV:qA ta tb σ H Q=ta σ H λx H1=>yB x λc=>if c=true then tb σ H1 Q else Q (.bl false) H1:=rfl
def y_orV:qQ ta tb σ H Q=ta σ H λx H1=>yB x λc=>if c=true then Q (.bl true) H1 else tb σ H1 Q:=rfl
def y_notV:qH ta σ H Q=ta σ H λx H1=>yB x λc=>Q (.bl (!c)) H1:=rfl
def y_cb{r:List V->Hp->VK->Prop}:tCB r a σ H Q=a σ H λvs H1=>r vs H1 Q:=rfl
def y_call{sp:Sp}{dvs:List V}{E:XK}:jL sp dvs E a σ H Q=a σ H λvs H1=>sp (vs++dvs) H1 Q E:=rfl
section
variable{Q:List V->Hp->Prop}
def y_nil:xy σ H Q=Q [] H:=rfl
def y_cons:zU te a σ H Q=te σ H λx H1=>a σ H1 λxs H2=>Q (x::xs) H2:=rfl
end
def y_tup:qP a σ H Q=a σ H λxs H1=>xs.length<=sizeLine/\∀p,H1 p=none->Q (.ref p) (upd H1 p (.tup xs)):=rfl
def y_lst:qr a σ H Q=a σ H λxs H1=>xs.length<=sizeLine/\∀p,H1 p=none->Q (.ref p) (upd H1 p (.lst xs)):=rfl
section
variable{Q:St->Hp->Prop}
def y_gnil:gNil [] σ H Q=Q σ H:=propext ⟨λh=>h.2,λh=>⟨rfl,h⟩⟩
def y_gcons:gCons g gs (v::l) σ H Q=g v σ H λσ' H'=>gs l σ' H' Q:=propext ⟨λ⟨a,b,e,q⟩=>by cases e;exact q,λq=>⟨_,_,rfl,q⟩⟩
theorem y_gtup{n:Nat}:gTupH n gs (.ref p) σ H Q=match H p with|some (.tup xs)=>(xs.length=n/\gs xs σ H Q)|_=>False:=by
 refine propext ⟨λ⟨a,xs,e,h,q⟩=>?_,λq=>?_⟩
 ·cases e;rw[h];exact q
 ·split at q
  ·exact⟨_,_,rfl,‹_›,q⟩
  ·exact q.elim
end
theorem y_ixT:rIxTH (.ref p) (.int i) H Q=match H p with|some (.tup xs)=>yX xs i λv=>Q v H|_=>False:=by
 refine propext ⟨λ⟨a,xs,k,v,e,f,h,g,q⟩=>?_,λq=>?_⟩
 ·cases e;cases f;rw[h];exact⟨v,g,q⟩
 ·split at q
  ·obtain⟨v,g,q⟩:=q;exact⟨_,_,_,v,rfl,rfl,‹_›,g,q⟩
  ·exact q.elim
theorem y_ixL:rIxLH (.ref p) (.int i) H Q=match H p with|some (.lst xs)=>yX xs i λv=>Q v H|_=>False:=by
 refine propext ⟨λ⟨a,xs,k,v,e,f,h,g,q⟩=>?_,λq=>?_⟩
 ·cases e;cases f;rw[h];exact⟨v,g,q⟩
 ·split at q
  ·obtain⟨v,g,q⟩:=q;exact⟨_,_,_,v,rfl,rfl,‹_›,g,q⟩
  ·exact q.elim
theorem y_len:rLenH [.ref p] H Q=match H p with|some (.lst ys)=>Q (.int ys.length) H|some (.tup ys)=>Q (.int ys.length) H|_=>False:=by
 refine propext ⟨λ⟨a,xs,e,h,q⟩=>?_,λq=>?_⟩
 ·cases e;rcases h with h|h<;>(rw[h];exact q)
 ·split at q
  ·exact⟨_,_,rfl,.inl ‹_›,q⟩
  ·exact⟨_,_,rfl,.inr ‹_›,q⟩
  ·exact q.elim
theorem y_list:rListH [.ref p] H Q=match H p with|some (.lst ys)=>(∀l,H l=none->Q (.ref l) (upd H l (.lst ys)))|some (.tup ys)=>(∀l,H l=none->Q (.ref l) (upd H l (.lst ys)))|_=>False:=by
 refine propext ⟨λ⟨a,xs,e,h,q⟩=>?_,λq=>?_⟩
 ·cases e;rcases h with h|h<;>(rw[h];exact q)
 ·split at q
  ·exact⟨_,_,rfl,.inl ‹_›,q⟩
  ·exact⟨_,_,rfl,.inr ‹_›,q⟩
  ·exact q.elim
theorem y_slH{lo hi:Option Int}:rSlH (.ref p) lo hi H Q=match H p with|some (.lst xs)=>(∀q,H q=none->Q (.ref q) (upd H q (.lst (xH xs lo hi))))|_=>False:=by
 refine propext ⟨λ⟨a,xs,e,h,q⟩=>?_,λq=>?_⟩
 ·cases e;rw[h];exact q
 ·split at q
  ·exact⟨_,_,rfl,‹_›,q⟩
  ·exact q.elim
variable{T:String}
theorem y_isi:rIsiF T [x,.ty T] H Q=match tyF H x with|some S=>Q (.bl (yq S T)) H|none=>False:=by
 refine propext ⟨λ⟨a,S,e,h,q⟩=>?_,λq=>?_⟩
 ·cases e;rw[h];exact q
 ·split at q
  ·exact⟨_,_,rfl,‹_›,q⟩
  ·exact q.elim
def y_intB:rIntB [.bl b] H Q=Q (.int (if b=true then 1 else 0)) H:=propext ⟨λ⟨k,e,q⟩=>by cases e;exact q,λq=>⟨_,rfl,q⟩⟩
theorem y_append:rAppend (.ref p) [y] H Q=match H p with|some (.lst xs)=>(xs.length<sizeLine/\Q .non (upd H p (.lst (xs++[y]))))|_=>False:=by
 refine propext ⟨λ⟨a,xs,z,e,f,h,q⟩=>?_,λq=>?_⟩
 ·cases e;cases f;rw[h];exact q
 ·split at q
  ·exact⟨_,_,_,rfl,rfl,‹_›,q⟩
  ·exact q.elim
theorem y_clear:rClear (.ref p) [] H Q=match H p with|some (.lst xs)=>Q .non (upd H p (.lst []))|_=>False:=by
 refine propext ⟨λ⟨a,xs,e,f,h,q⟩=>?_,λq=>?_⟩
 ·cases e;rw[h];exact q
 ·split at q
  ·exact⟨_,_,rfl,rfl,‹_›,q⟩
  ·exact q.elim
variable{o:Option HO}
def ym_tup{Q:List V->Prop}:(match o with|some (.tup xs)=>Q xs|_=>False)=∃xs,o=some (.tup xs)/\Q xs:=by
 refine propext ⟨λq=>?_,λ⟨xs,e,q⟩=>by subst e;exact q⟩
 split at q
 ·exact⟨_,rfl,q⟩
 ·exact q.elim
def ym_lst{Q:List V->Prop}:(match o with|some (.lst xs)=>Q xs|_=>False)=∃xs,o=some (.lst xs)/\Q xs:=by
 refine propext ⟨λq=>?_,λ⟨xs,e,q⟩=>by subst e;exact q⟩
 split at q
 ·exact⟨_,rfl,q⟩
 ·exact q.elim
def ym_two{Q:List V->Prop}:(match o with|some (.lst xs)=>Q xs|some (.tup xs)=>Q xs|_=>False)=∃xs,(o=some (.lst xs)∨o=some (.tup xs))/\Q xs:=by
 refine propext ⟨λq=>?_,λ⟨xs,e,q⟩=>by rcases e with e|e<;>(subst e;exact q)⟩
 split at q
 ·exact⟨_,.inl rfl,q⟩
 ·exact⟨_,.inr rfl,q⟩
 ·exact q.elim
def ym_ty{o:Option String}{Q:String->Prop}:(match o with|some S=>Q S|none=>False)=∃S,o=some S/\Q S:=by
 refine propext ⟨λq=>?_,λ⟨xs,e,q⟩=>by subst e;exact q⟩
 split at q
 ·exact⟨_,rfl,q⟩
 ·exact q.elim
section
variable{Q:Option Int->Hp->Prop}
def y_nopart:ZS σ H Q=Q none H:=rfl
def y_part:tPart te σ H Q=te σ H λx H1=>yI x λi=>Q (some i) H1:=rfl
end
def y_sl{r:V->Option Int->Option Int->Hp->VK->Prop}{tl th:TO}:tSl r te tl th σ H Q=te σ H λx H1=>tl σ H1 λl H2=>th σ H2 λu H3=>r x l u H3 Q:=rfl
variable{r:V->List V->Hp->VK->Prop}
def y_bm0{K:pI}:tBM0 K T r te σ H Q=te σ H λx H1=>tyV K T x H1/\r x [] H1 Q:=rfl
def y_bm{K:pI}:tBM K T r te a σ H Q=te σ H λx H1=>tyV K T x H1/\a σ H1 λxs H2=>r x xs H2 Q:=rfl
def y_v0:tVar 0 (some v::σ) H Q=Q v H:=propext ⟨λ⟨_,e,q⟩=>by cases e;exact q,λq=>⟨v,rfl,q⟩⟩
def y_n0{a0:Option V}{Q:St->Hp->Prop}:gName 0 v (a0::σ) H Q=Q (some v::σ) H:=rfl
def y_v1{a0:Option V}:tVar 1 (a0::some v::σ) H Q=Q v H:=propext ⟨λ⟨_,e,q⟩=>by cases e;exact q,λq=>⟨v,rfl,q⟩⟩
variable{a1:Option V}
def y_n1{a0:Option V}{Q:St->Hp->Prop}:gName 1 v (a0::a1::σ) H Q=Q (a0::some v::σ) H:=rfl
def y_v2{a0:Option V}:tVar 2 (a0::a1::some v::σ) H Q=Q v H:=propext ⟨λ⟨_,e,q⟩=>by cases e;exact q,λq=>⟨v,rfl,q⟩⟩
variable{a2:Option V}
def y_n2{a0:Option V}{Q:St->Hp->Prop}:gName 2 v (a0::a1::a2::σ) H Q=Q (a0::a1::some v::σ) H:=rfl
def y_v3{a0:Option V}:tVar 3 (a0::a1::a2::some v::σ) H Q=Q v H:=propext ⟨λ⟨_,e,q⟩=>by cases e;exact q,λq=>⟨v,rfl,q⟩⟩
variable{a3:Option V}
def y_n3{a0:Option V}{Q:St->Hp->Prop}:gName 3 v (a0::a1::a2::a3::σ) H Q=Q (a0::a1::a2::some v::σ) H:=rfl
def y_v4{a0:Option V}:tVar 4 (a0::a1::a2::a3::some v::σ) H Q=Q v H:=propext ⟨λ⟨_,e,q⟩=>by cases e;exact q,λq=>⟨v,rfl,q⟩⟩
variable{Q:St->Hp->Prop}{a4:Option V}
def y_n4{a0:Option V}:gName 4 v (a0::a1::a2::a3::a4::σ) H Q=Q (a0::a1::a2::a3::some v::σ) H:=rfl
variable{a5:Option V}
def y_n5{a0:Option V}:gName 5 v (a0::a1::a2::a3::a4::a5::σ) H Q=Q (a0::a1::a2::a3::a4::some v::σ) H:=rfl
variable{a6:Option V}
def y_n6{a0:Option V}:gName 6 v (a0::a1::a2::a3::a4::a5::a6::σ) H Q=Q (a0::a1::a2::a3::a4::a5::some v::σ) H:=rfl
variable{a7:Option V}
def y_n7{a0:Option V}:gName 7 v (a0::a1::a2::a3::a4::a5::a6::a7::σ) H Q=Q (a0::a1::a2::a3::a4::a5::a6::some v::σ) H:=rfl
variable{a8:Option V}
def y_n8{a0:Option V}:gName 8 v (a0::a1::a2::a3::a4::a5::a6::a7::a8::σ) H Q=Q (a0::a1::a2::a3::a4::a5::a6::a7::some v::σ) H:=rfl
variable{a9:Option V}
def y_n9{a0:Option V}:gName 9 v (a0::a1::a2::a3::a4::a5::a6::a7::a8::a9::σ) H Q=Q (a0::a1::a2::a3::a4::a5::a6::a7::a8::some v::σ) H:=rfl
variable{a10:Option V}
def y_n10{a0:Option V}:gName 10 v (a0::a1::a2::a3::a4::a5::a6::a7::a8::a9::a10::σ) H Q=Q (a0::a1::a2::a3::a4::a5::a6::a7::a8::a9::some v::σ) H:=rfl
variable{a11:Option V}
def y_n11{a0:Option V}:gName 11 v (a0::a1::a2::a3::a4::a5::a6::a7::a8::a9::a10::a11::σ) H Q=Q (a0::a1::a2::a3::a4::a5::a6::a7::a8::a9::a10::some v::σ) H:=rfl
variable{a12:Option V}
def y_n12{a0:Option V}:gName 12 v (a0::a1::a2::a3::a4::a5::a6::a7::a8::a9::a10::a11::a12::σ) H Q=Q (a0::a1::a2::a3::a4::a5::a6::a7::a8::a9::a10::a11::some v::σ) H:=rfl
def y_n13{a0 a13:Option V}:gName 13 v (a0::a1::a2::a3::a4::a5::a6::a7::a8::a9::a10::a11::a12::a13::σ) H Q=Q (a0::a1::a2::a3::a4::a5::a6::a7::a8::a9::a10::a11::a12::some v::σ) H:=rfl
end
section
variable{K:pI}{a l l1 l2:Addr}{xs ys:List V}{lo:Int}{n:Nat}{g:TG}{tb:TS}{D:Ends}{σ:St}{H:Hp}
def xz(Pv:Nat->St->Hp->Prop)(h0:Pv 0 σ H)(hl:∀i σ H,i<=xs.length->Pv i σ H->SqL K H a xs)(hs:∀bk ct i x σ H,xs[i]?=some x->Pv i σ H->g x σ H λσ2 H2=>tb {D with nx:=Pv (i+1),ct:=ct,bk:=bk} σ2 H2)(hd:∀σ H,Pv xs.length σ H->D.nx σ H):ForW (Itl K a) g tb D σ H:=zew Pv h0 hl (λi=>hs D.nx (Pv (i+1)) i) hd
def vH(Pv:Nat->St->Hp->Prop)(h0:Pv 0 σ H)(hs:∀bk ct i σ H,i<n->Pv i σ H->g (.int (lo+i)) σ H λσ2 H2=>tb {D with nx:=Pv (i+1),ct:=ct,bk:=bk} σ2 H2)(hd:∀σ H,Pv n σ H->D.nx σ H):ForW (Itr lo n) g tb D σ H:=zej Pv h0 (λi=>hs D.nx (Pv (i+1)) i) hd
def zhv(Pv:Nat->St->Hp->Prop)(h0:Pv 0 σ H)(hl:∀i σ H,Pv i σ H->H l=some (.lst xs))(hs:∀bk ct i x T σ H,xs[i]?=some x->Pv i σ H->H T=none->g (.ref T) σ (upd H T (.tup [.int (i:Int),x])) λσ2 H2=>tb {D with nx:=Pv (i+1),ct:=ct,bk:=bk} σ2 H2)(hd:∀σ H,Pv xs.length σ H->D.nx σ H):ForW (Ite K l) g tb D σ H:=for_enu Pv h0 hl (λi=>hs D.nx (Pv (i+1)) i) hd
end
def Jr:R2:=λx y H Q=>match x,y with
 |.ref p,.int i=>(match H p with|some (.tup xs)=>yX xs i λv=>Q v H|_=>False)
 |_,_=>False
def Wr:R2:=λx y H Q=>match x,y with
 |.ref p,.int i=>(match H p with|some (.lst xs)=>yX xs i λv=>Q v H|_=>False)
 |_,_=>False
section
variable{X:Cx}{H:Hp}{Q:VK}{p:Addr}{i:Int}
def z_ixT:Jr (.ref p) (.int i) H Q=match H p with|some (.tup xs)=>yX xs i λv=>Q v H|_=>False:=rfl
def z_ixL:Wr (.ref p) (.int i) H Q=match H p with|some (.lst xs)=>yX xs i λv=>Q v H|_=>False:=rfl
def zf:IxR X Jr:=yP.imp λx y H Q h=>by
 unfold Jr at h
 split at h
 ·rw[ym_tup] at h;obtain⟨xs,h,v,e,q⟩:=h;exact⟨_,xs,_,v,rfl,rfl,h,e,q⟩
 ·exact h.elim
def yg:IxR X Wr:=y6.imp λx y H Q h=>by
 unfold Wr at h
 split at h
 ·rw[ym_lst] at h;obtain⟨xs,h,v,e,q⟩:=h;exact⟨_,xs,_,v,rfl,rfl,h,e,q⟩
 ·exact h.elim
end
end L2
namespace My
noncomputable def G(a b:Int):Int:=(Int.gcd a b:Nat)
def zhl(a b:Int):0<=G a b:=Int.natCast_nonneg _
def G_abs(a b:Int):G (if a<0 then-a else a) (if b<0 then-b else b)=G a b:=by
 unfold G
 split<;>split<;>simp[Int.gcd_neg,Int.neg_gcd]
variable{a b:Int}
theorem G_zero(h:0<=a)(hb:b=0):a=G a b:=by
 subst hb;unfold G;rw[FS];lia
def G_mod(a b:Int)(hb:0<b):G b (Gp a b)=G a b:=by
 unfold G;rw[Us a (Uk hb),HN a b];have e:a%b+a/b*b=a:=by rw[UO];exact Int.emod_add_mul_ediv a b
 rw[←Cm b (a%b) (a/b),e]
def turn{c:Int}(h:G a b=c)(hb:0<b):0<=b/\0<=Gp a b/\G b (Gp a b)=c:=
 ⟨Uk hb,By a hb,by rw[G_mod a b hb,h]⟩
theorem less(hb:0<b):(Gp a b).toNat<b.toNat:=by
 have h0:=By a hb;have h1:=FT a hb;omega
end My
namespace My
variable{a b:Int}
theorem vn(h:b ∣ a):a.fdiv b*b=a:=by
 have e:=Ea a b;have z:a.fmod b=0:=Int.fmod_eq_zero_of_dvd h;rw[z] at e;rw[UO];omega
theorem V2{x f y:Int}(e:x*f=y)(hf:f≠0):x.natAbs<=y.natAbs:=by
 rw[←e,Aa];exact Nat.le_mul_of_pos_right _ (by lia)
theorem Vs{x f y:Int}(e:x*f=y)(h:(0<f/\0<y)∨(f<0/\y<0)):0<x:=by
 rcases(by lia:0<x∨x=0∨x<0) with hx|hx|hx
 ·exact hx
 ·rw[hx,UU] at e;lia
 ·exfalso
  rcases h with⟨h1,h2⟩|⟨h1,h2⟩
  ·have:=BO hx h1;lia
  ·have:=Int.mul_pos_of_neg_of_neg hx h1;lia
variable{m:Nat}
def xJ{n:Nat}(h1:a.natAbs<2^m)(h2:b.natAbs<2^n):(a*b).natAbs<2^(m+n):=by
 rw[Aa,HY];exact GS h1 h2
theorem zbl(h1:a.natAbs<2^m)(h2:b.natAbs<2^m):(a+b).natAbs<2^(m+1):=by
 rw[HP];omega
theorem W9(h1:a.natAbs<2^m)(h2:b.natAbs<2^m):(a-b).natAbs<2^(m+1):=by
 rw[HP];omega
def yT{n:Nat}(h:a.natAbs<2^m)(hm:m<=n):a.natAbs<2^n:=pf h (AC (by decide) hm)
end My
namespace My
end My
namespace My
end My
namespace My
noncomputable def g3(a b c:Int):Nat:=Hg (Hg a.natAbs b.natAbs) c.natAbs
def G_nat(a b:Int):(G a b).natAbs=Hg a.natAbs b.natAbs:=by unfold G;rw[Int.natAbs_natCast];rfl
theorem G3(a b c:Int):G (G a b) c=(g3 a b c:Int):=by
 have h:(G (G a b) c).natAbs=g3 a b c:=by rw[G_nat,G_nat];rfl
 have h0:=zhl (G a b) c;lia
def Zj(a b c:Int):g3 c a b=g3 a b c:=by
 unfold g3;rw[Nat.gcd_assoc,Nat.gcd_comm]
def Jl(a b c f:Int):g3 (a*f) (b*f) (c*f)=g3 a b c*f.natAbs:=by
 unfold g3;rw[Aa,Aa,Aa,Fu,Fu]
theorem V3{a b c:Int}(h:c≠0):0<g3 a b c:=by
 unfold g3;exact Nat.gcd_pos_of_pos_right _ (by lia)
def X9(a b c:Int):((g3 a b c:Nat):Int) ∣ a:=DF.mpr (Gy (Dx _ _) (Dx _ _))
def Jm(a b c:Int):((g3 a b c:Nat):Int) ∣ b:=DF.mpr (Gy (Dx _ _) (Bz _ _))
def VO(a b c:Int):((g3 a b c:Nat):Int) ∣ c:=DF.mpr (Bz _ _)
structure Pt(n:Nat)(x y w:Int):Prop where
 pos:0<w
 one:g3 x y w=1
 lx:x.natAbs<2^n
 ly:y.natAbs<2^n
 lw:w.natAbs<2^n
variable{n:Nat}{x y w:Int}
theorem Pt.ne(h:Pt n x y w):w≠0:=by have:=h.pos;omega
def Pt.mono{m:Nat}(h:Pt m x y w)(hm:m<=n):Pt n x y w:=⟨h.pos,h.one,yT h.lx hm,yT h.ly hm,yT h.lw hm⟩
theorem pt_of{f:Int}(hf:f.natAbs=g3 x y w)(hs:(0<f/\0<w)∨(f<0/\w<0))(lx:x.natAbs<2^n)(ly:y.natAbs<2^n)(lw:w.natAbs<2^n):Pt n (x.fdiv f) (y.fdiv f) (w.fdiv f):=by
 have hd:∀z:Int,((g3 x y w:Nat):Int) ∣ z->f ∣ z:=λz h=>by
  rw[←hf] at h;exact Gq.mp h
 have ex:=vn (hd x (X9 x y w));have ey:=vn (hd y (Jm x y w));have ew:=vn (hd w (VO x y w));have hw:w≠0:=by lia
 have fn:f≠0:=by lia
 refine⟨Vs ew hs,?_,QN (V2 ex fn) lx,QN (V2 ey fn) ly,QN (V2 ew fn) lw⟩;have e:=Jl (x.fdiv f) (y.fdiv f) (w.fdiv f) f;rw[ex,ey,ew,hf] at e;have hp:=V3 (a:=x) (b:=y) hw;have e':1*g3 x y w=g3 (x.fdiv f) (y.fdiv f) (w.fdiv f)*g3 x y w:=by omega
 exact(Nat.eq_of_mul_eq_mul_right hp e').symm
noncomputable def fac3(x y w:Int):Int:=if w<0 then-G (G w x) y else G (G w x) y
def Vi(x y w:Int):(fac3 x y w).natAbs=g3 x y w:=by
 unfold fac3;rw[G3,Zj]
 split<;>simp
theorem XU(h:w≠0):(0<fac3 x y w/\0<w)∨(fac3 x y w<0/\w<0):=by
 unfold fac3;have hp:=V3 (a:=x) (b:=y) h;rw[G3,Zj]
 split
 ·exact .inr ⟨by lia,by lia⟩
 ·exact .inl ⟨by lia,by lia⟩
theorem fac3_ne(h:w≠0):fac3 x y w≠0:=by rcases XU (x:=x) (y:=y) h with z|z<;>omega
def Jz(x y w z:Int)(h:((g3 x y w:Nat):Int) ∣ z):fac3 x y w ∣ z:=by
 rw[←Vi] at h;exact Gq.mp h
theorem fac3_le(h:w≠0):(fac3 x y w).natAbs<=w.natAbs:=by
 rw[Vi];exact Gz (by lia) (Bz _ _)
noncomputable def ptX(x y w:Int):Int:=x.fdiv (fac3 x y w)
noncomputable def ptY(x y w:Int):Int:=y.fdiv (fac3 x y w)
noncomputable def ptW(x y w:Int):Int:=w.fdiv (fac3 x y w)
def pt_mk(h:w≠0)(lx:x.natAbs<2^n)(ly:y.natAbs<2^n)(lw:w.natAbs<2^n):Pt n (ptX x y w) (ptY x y w) (ptW x y w):=pt_of (Vi x y w) (XU h) lx ly lw
def ptX_mul(x y w:Int):ptX x y w*fac3 x y w=x:=vn (Jz _ _ _ _ (X9 x y w))
def ptY_mul(x y w:Int):ptY x y w*fac3 x y w=y:=vn (Jz _ _ _ _ (Jm x y w))
def ptW_mul(x y w:Int):ptW x y w*fac3 x y w=w:=vn (Jz _ _ _ _ (VO x y w))
end My
namespace My
variable{x y w:Int}
theorem Jn(hw:0<w):0<G (G x y) w:=by
 rw[G3];have:=V3 (a:=x) (b:=y) (c:=w) (by omega)
 omega
theorem V8(hw:0<w):G (G x y) w≠0:=by have:=Jn (x:=x) (y:=y) hw;lia
def Z3(x y w:Int):(G (G x y) w).natAbs=g3 x y w:=by rw[G3];simp
theorem g3_lt{n:Nat}(hw:0<w)(lw:w.natAbs<2^n):(G (G x y) w).natAbs<2^n:=by
 rw[Z3];exact QN (Gz (by lia) (Bz _ _)) lw
def g3_pt{n:Nat}(hw:0<w)(lx:x.natAbs<2^n)(ly:y.natAbs<2^n)(lw:w.natAbs<2^n):Pt n (x.fdiv (G (G x y) w)) (y.fdiv (G (G x y) w)) (w.fdiv (G (G x y) w)):=
 pt_of (Z3 x y w) (.inl ⟨Jn hw,hw⟩) lx ly lw
end My
namespace My
end My
namespace My
noncomputable def sgn(z:Int):Int:=if 0<z then 1 else if z<0 then-1 else 0
def sgn_pos{z:Int}(h:0<z):sgn z=1:=if_pos h
theorem sgn_neg{z:Int}(h:z<0):sgn z= -1:=by unfold sgn;rw[if_neg (by lia),if_pos h]
theorem zit(z:Int):(0<z/\sgn z=1)∨(z<0/\sgn z= -1)∨(z=0/\sgn z=0):=by
 rcases(by omega:0<z∨z<0∨z=0) with h|h|h
 ·exact .inl ⟨h,sgn_pos h⟩
 ·exact .inr (.inl ⟨h,sgn_neg h⟩)
 ·exact .inr (.inr ⟨h,by rw[h];rfl⟩)
noncomputable def bef(x1 y1 w1 x2 y2 w2:Int):Bool:=if x1*w2=x2*w1 then decide (y1*w2<y2*w1) else decide (x1*w2<x2*w1)
theorem Vc{a b c u v w:Int}(hu:0<u)(hv:0<v)(hw:0<w)(h1:a*v<=b*u)(h2:b*w<=c*v):a*w<=c*u/\((a*v<b*u∨b*w<c*v)->a*w<c*u):=by
 have e1:(a*v)*w<=(b*u)*w:=Ab h1 (Uk hw);have e2:(b*w)*u<=(c*v)*u:=Ab h2 (Uk hu);have i1:v*(a*w)=(a*v)*w:=by grind
 have i2:v*(c*u)=(c*v)*u:=by grind
 have i3:(b*u)*w=(b*w)*u:=by grind
 refine⟨Int.le_of_mul_le_mul_left (by lia) hv,λh=>DL (a:=v) ?_ (Uk hv)⟩
 rcases h with h|h
 ·have:=Co h hw;lia
 ·have:=Co h hu;lia
theorem bef_irr(x y w:Int):bef x y w x y w=false:=by
 unfold bef;rw[if_pos rfl];exact decide_eq_false (by lia)
variable{x1 y1 w1 x2 y2 w2:Int}
theorem Yh:bef x1 y1 w1 x2 y2 w2=true↔(x1*w2<x2*w1∨(x1*w2=x2*w1/\y1*w2<y2*w1)):=by
 unfold bef
 split
 ·rename_i h
  rw[decide_eq_true_iff];omega
 ·rename_i h
  rw[decide_eq_true_iff];omega
theorem zgr:bef x1 y1 w1 x2 y2 w2=false↔(x2*w1<x1*w2∨(x1*w2=x2*w1/\y2*w1<=y1*w2)):=by
 rw[←Bool.not_eq_true,Yh];omega
theorem zi8{x3 y3 w3:Int}(h1:0<w1)(h2:0<w2)(h3:0<w3)(a:bef x1 y1 w1 x2 y2 w2=true)(b:bef x2 y2 w2 x3 y3 w3=true):bef x1 y1 w1 x3 y3 w3=true:=by
 rw[Yh] at a b⊢;have X:=Vc (a:=x1) (b:=x2) (c:=x3) h1 h2 h3 (by lia) (by lia)
 rcases a with a|⟨a,a'⟩
 ·exact .inl (X.2 (.inl a))
 ·rcases b with b|⟨b,b'⟩
  ·exact .inl (X.2 (.inr b))
  ·have X':=Vc (a:=x3) (b:=x2) (c:=x1) h3 h2 h1 (by lia) (by lia)
   have Y:=Vc (a:=y1) (b:=y2) (c:=y3) h1 h2 h3 (by lia) (by lia)
   exact .inr ⟨Int.le_antisymm X.1 X'.1,Y.2 (.inl a')⟩
theorem pt_uniq{n:Nat}(p:Pt n x1 y1 w1)(q:Pt n x2 y2 w2)(ex:x1*w2=x2*w1)(ey:y1*w2=y2*w1):x1=x2/\y1=y2/\w1=w2:=by
 have a:=Jl x1 y1 w1 w2;have b:=Jl x2 y2 w2 w1;rw[p.one,HZ] at a;rw[q.one,HZ] at b;rw[ex,ey,UO w1 w2] at a;have hw:w1=w2:=by
  have:=p.pos;have:=q.pos;lia
 subst hw;exact⟨gh p.ne ex,gh p.ne ey,rfl⟩
theorem bef_tri{n:Nat}(p:Pt n x1 y1 w1)(q:Pt n x2 y2 w2)(h:bef x1 y1 w1 x2 y2 w2=bef x2 y2 w2 x1 y1 w1):x1=x2/\y1=y2/\w1=w2:=by
 cases e:bef x1 y1 w1 x2 y2 w2 with
 |true=>
  have e':=h.symm.trans e;rw[Yh] at e e';exact (e.elim (fun x=>e'.elim (fun y=>Int.lt_asymm x y) fun y=>by rw[y.1] at x;exact Int.lt_irrefl _ x) fun x=>e'.elim (fun y=>by rw[x.1] at y;exact Int.lt_irrefl _ y) fun y=>Int.lt_asymm x.2 y.2).elim
 |false=>
  have e':=h.symm.trans e;rw[zgr] at e e';exact pt_uniq p q (by omega) (by omega)
noncomputable def lnA(x1 y1 w1 x2 y2 w2:Int):Int:=y1*w2-w1*y2
noncomputable def lnB(x1 y1 w1 x2 y2 w2:Int):Int:=w1*x2-x1*w2
noncomputable def lnC(x1 y1 w1 x2 y2 w2:Int):Int:=x1*y2-y1*x2
noncomputable def det3(x1 y1 w1 x2 y2 w2 x3 y3 w3:Int):Int:=lnA x1 y1 w1 x2 y2 w2*x3+lnB x1 y1 w1 x2 y2 w2*y3+lnC x1 y1 w1 x2 y2 w2*w3
end My
namespace My
end My
namespace My
structure S6 where
 x1:Int
 y1:Int
 w1:Int
 x2:Int
 y2:Int
 w2:Int
noncomputable def YD(d:S6)(x w:Int):Bool:=if x*d.w1<d.x1*w then false else decide (x*d.w2<d.x2*w)
noncomputable def abv(x y w:Int)(d:S6):Bool:=YD d x w&&decide (det3 d.x1 d.y1 d.w1 d.x2 d.y2 d.w2 x y w<0)
noncomputable def cntAb(ds:List S6)(x y w:Int):Nat:=(ds.filter (abv x y w)).length
def zg0{ds:List S6}{i:Nat}{d:S6}(x y w:Int)(h:ds[i]?=some d):cntAb (ds.take (i+1)) x y w=cntAb (ds.take i) x y w+if abv x y w d=true then 1 else 0:=by
 unfold cntAb;rw[uA,h,uZ,pK]
 cases e:abv x y w d<;>simp[e]
def zgo(ds:List S6)(d:S6)(x y w:Int):cntAb (ds++[d]) x y w=cntAb ds x y w+if abv x y w d=true then 1 else 0:=by
 unfold cntAb;rw[uZ,pK]
 cases e:abv x y w d<;>simp[e]
theorem zco{l:Int}:sgn l<0↔l<0:=by
 rcases zit l with⟨h,e⟩|⟨h,e⟩|⟨h,e⟩<;>rw[e]<;>lia
end My
namespace My
def abv_iff{x y w:Int}{d:S6}:abv x y w d=true↔(¬x*d.w1<d.x1*w/\x*d.w2<d.x2*w/\det3 d.x1 d.y1 d.w1 d.x2 d.y2 d.w2 x y w<0):=by
 unfold abv YD
 by_cases h:x*d.w1<d.x1*w
 ·rw[if_pos h]
  simp[h]
 ·rw[if_neg h]
  simp[h]
end My
namespace My
def G_fmod(x y:Int):G y (x.fmod y)=G x y:=by
 unfold G;rw[HN x y];have e:x.fmod y+x.fdiv y*y=x:=by rw[UO];exact Ea x y
 rw[←Cm y (x.fmod y) (x.fdiv y),e]
theorem zgn{x y:Int}(h:y≠0):(x.fmod y).natAbs<y.natAbs:=by
 have h0:=ET x h;have h1:=Int.emod_lt x h;rw[Int.fmod_eq_emod]
 split
 ·lia
 ·rename_i c
  have hn:x%y≠0:=λz=>c (.inr (UP z));have hy:¬0<=y:=λz=>c (.inl z);lia
theorem G_end(x:Int):(if x<0 then-x else x)=G x 0:=by
 unfold G;rw[FS]
 split<;>omega
end My
namespace My
structure Q3 where
 x:Int
 y:Int
 w:Int
deriving DecidableEq
noncomputable def dt(a b c:Q3):Int:=det3 a.x a.y a.w b.x b.y b.w c.x c.y c.w
noncomputable def dX(a b:Q3):Int:=b.x*a.w-a.x*b.w
noncomputable def dY(a b:Q3):Int:=b.y*a.w-a.y*b.w
def LP(u v:Int):Prop:=0<u∨(u=0/\0<v)
def Lt(s:Int)(a b:Q3):Prop:=LP (s*dX a b) (s*dY a b)
theorem lex_nn{A B C u1 u2 v1 v2 w1 w2:Int}(e1:A*u1=B*v1+C*w1)(e2:A*u2=B*v2+C*w2)(hu:LP u1 u2)(hv:LP v1 v2)(hw:LP w1 w2)(hB:0<=B)(hC:0<=C):0<=A:=by
 have nn:∀{K a b:Int},0<=K->LP a b->0<=K*a/\(K*a=0->0<=K*b):=λ{K a b} hK h=>by
  rcases h with h|⟨h,h'⟩
  ·refine⟨Uf hK (by lia),λe=>?_⟩
   rcases EU.mp e with e|e
   ·rw[e,UU];exact QU _
   ·lia
  ·exact⟨by rw[h,Uy];exact QU _,λ_=>Uf hK (by lia)⟩
 have nB:=nn hB hv;have nC:=nn hC hw;rcases hu with h|⟨h,h'⟩
 ·refine FU.mp λz=>?_;have:=BO z h;lia
 ·rw[h,Uy] at e1;have b0:B*v1=0:=by lia
  have c0:C*w1=0:=by lia
  have:=nB.2 b0;have:=nC.2 c0;refine FU.mp λz=>?_;have:=BO z h';lia
theorem thiX(a b p q:Q3):dt b p q*dX a b=dt a b q*dX b p+dt a b p*dX q b:=by unfold dt dX det3 lnA lnB lnC;grind
theorem thiY(a b p q:Q3):dt b p q*dY a b=dt a b q*dY b p+dt a b p*dY q b:=by unfold dt dY det3 lnA lnB lnC;grind
theorem sc{s A B C u v w:Int}(e:A*u=B*v+C*w):A*(s*u)=B*(s*v)+C*(s*w):=by
 have:A*(s*u)=s*(A*u):=by grind
 rw[this,e]
 grind
def mid{s:Int}{a b p q:Q3}(ha:Lt s a b)(hp:Lt s b p)(hq:Lt s q b)(h1:0<=dt a b q)(h2:0<=dt a b p):0<=dt b p q:=
 lex_nn (sc (s:=s) (thiX a b p q)) (sc (s:=s) (thiY a b p q)) ha hp hq h1 h2
end My
namespace My
structure Chn(s:Int)(os L:List Q3)(f l:Q3):Prop where
 sub:L.Sublist os
 fst:L[0]?=some f
 lst:L[L.length-1]?=some l
 edge:∀i a b,L[i]?=some a->L[i+1]?=some b->Lt s a b/\∀q,q∈os->0<=dt a b q
 tri:∀i a b c,L[i]?=some a->L[i+1]?=some b->L[i+2]?=some c->0<dt a b c
theorem fl_lt{a b c d G:Int}(hb:0<b)(hd:0<d)(h:a*d<c*b)(hG:b*d<=G):a*G/b<c*G/d:=by
 have g0:0<=G:=CA (Uk (QV hb hd)) hG;have h0:a*G/b*b<=a*G:=Int.ediv_mul_le _ (by lia)
 have h1:=Ab h0 (Uk hd);have h2:G*(a*d+1)<=G*(c*b):=Ac (by lia) g0
 refine FV (Int.lt_succ _) (Int.le_ediv_of_mul_le hd (Int.le_of_mul_le_mul_right ?_ hb));generalize a*G/b=A at*
 calc (A+1)*d*b=A*b*d+b*d:=by grind
  _<=a*G*d+G:=Int.add_le_add h1 hG
  _=G*(a*d+1):=by grind
  _<=G*(c*b):=h2
  _=c*G*b:=by grind
theorem fl_eq{a b c d G:Int}(hb:0<b)(hd:0<d)(h:a*d=c*b):a*G/b=c*G/d:=by
 have e1:a*G/b=(a*G*d)/(b*d):=(Ch (a*G) b hd).symm;have e2:c*G/d=(c*G*b)/(d*b):=(Ch (c*G) d hb).symm;rw[e1,e2,UO d b]
 congr 1
 have:a*G*d=G*(a*d):=by grind
 rw[this,h]
 grind
noncomputable def bq(a b:Q3):Bool:=bef a.x a.y a.w b.x b.y b.w
def PQ(n:Nat)(a:Q3):Prop:=Pt n a.x a.y a.w
def pq_tri{n:Nat}{a b:Q3}(ha:PQ n a)(hb:PQ n b)(h1:bq a b=false)(h2:bq b a=false):a=b:=by
 obtain⟨e1,e2,e3⟩:=bef_tri ha hb (h1.trans h2.symm);obtain⟨x,y,w⟩:=a;obtain⟨x',y',w'⟩:=b
 simp only at e1 e2 e3
 rw[e1,e2,e3]
noncomputable def kyQ(g:Int)(r:Q3):Int×Int:=(r.x*(g*g)/r.w,r.y*(g*g)/r.w)
theorem ky_lt{a b:Q3}{g:Int}(ha:0<a.w)(hb:0<b.w)(ga:a.w<=g)(gb:b.w<=g)(h:bq a b=true):L2.lt2 (kyQ g a) (kyQ g b)=true:=by
 have hG:a.w*b.w<=g*g:=Gr ga gb (Uk hb) (CA (Uk ha) ga);unfold bq at h;rw[Yh] at h;unfold L2.lt2 L2.lexB kyQ;rcases h with h|⟨h,h'⟩
 ·have:=fl_lt ha hb h hG;rw[if_neg (by lia)]
  exact decide_eq_true this
 ·rw[if_pos (fl_eq ha hb h)];exact decide_eq_true (fl_lt ha hb h' hG)
end My
namespace Mine
open PySem L2 My
local macro_rules
  | `(tactic| simp! [$xs,*]) => do let f := fun (s : String) => (s.splitOn " ").toArray.map fun x => Lean.mkIdent x.toName; let p := f "y_next y_seq y_ret y_ifS y_asg y_drop y_par y_c y_op y_un y_rI y_rI0 y_rU y_eq y_ne y_test y_B y_not y_and y_or y_yes y_andV y_orV y_notV y_cb y_call y_nil y_cons y_tup y_lst y_gnil y_gcons y_gtup y_ixT y_ixL y_len y_list y_slH y_isi y_intB y_append y_clear y_nopart y_part y_sl y_bm0 y_bm yB_bl yI_int yTw_two yX_0 yX_1 yX_2 y_v0 y_v1 y_v2 y_v3 y_v4 y_n0 y_n1 y_n2 y_n3 y_n4 y_n5 y_n6 y_n7 y_n8 y_n9 y_n10 y_n11 y_n12 y_n13 z_v0 z_v1 z_v2 z_v3 z_v4 z_v5 z_v6 z_v7 z_v8 z_v9 z_v10 z_v11 z_v12 z_v13 z_ixT z_ixL"; let q := f "yB yI yTw yX yJ ym_tup ym_lst ym_two ym_ty gName tVar rI rI0 rU rEq rNe gTup gCons gNil L2.start rIsi rIxT rIxL cx_K tyN_non tyN_bl tyN_int tyN_str isi_ii isi_ib isi_ll scal_ii scal_bb sz0 sz1 sz2 sz3 List.map_cons List.map_nil List.length_cons List.length_nil List.replicate List.cons_append List.nil_append List.append_nil List.getElem?_cons_zero List.getElem?_cons_succ List.set_cons_zero List.set_cons_succ Option.some.injEq V.int.injEq V.bl.injEq V.ref.injEq V.ty.injEq List.cons.injEq and_true true_and exists_eq_left exists_eq_left' exists_and_left exists_and_right exists_eq exists_eq' and_assoc Nat.reduceAdd Nat.reduceSub Bool.not_true Bool.not_false Bool.false_eq_true if_true if_false reduceIte Nat.zero_add decide_true decide_false selC comp_K Option.join_some rIxTH rIxLH rLenH rIsiF at0 at1 at2 at3 at4 HO.tup.injEq HO.lst.injEq reduceCtorEq false_or or_false tyF_non tyF_bl tyF_int tyF_str exists_const Int.reduceAdd Int.reduceMul Int.reduceSub rSlH upd_same upd_upd rIntB rListH rAppend rClear gTupH"; `(tactic| simp only [$[↓$p:term],*, $[$q:term],*, $xs,*])
local macro_rules
  | `(tactic| dsimp! [$xs,*]) => `(tactic| simp only [List.map_cons, List.map_nil, List.length_cons, List.length_nil, List.replicate, List.cons_append, List.nil_append, Nat.reduceAdd, Nat.reduceSub, Nat.zero_add, $xs,*])
noncomputable def top(i:Nat):Stmt:=PySem.Challenge.pw_acre_k44_nest_told.main.body.getD i (.Pass ⟨0,0,0,0⟩)
abbrev Vl:Stmt:=top 5
def zi7:zw ["thing"] ["thing"] (zo Vl):=zC rfl (by decide+kernel)
abbrev Wc:Stmt:=top 6
def ju:zw ["one","other","great","small","rest"] ["one","other"] (zo Wc):=zC rfl (by decide+kernel)
abbrev W4:Stmt:=top 8
def X5:zw ["x","y","w","factor"] ["x","y","w"] (zo W4):=zC rfl (by decide+kernel)
abbrev Jo:Stmt:=top 9
def Ve:zw ["P","Q","left","right"] ["P","Q"] (zo Jo):=zC rfl (by decide+kernel)
abbrev VA:Stmt:=top 10
def zgx:zw ["number"] ["number"] (zo VA):=zC rfl (by decide+kernel)
abbrev X4:Stmt:=top 11
def zhy:zw ["P","Q"] ["P","Q"] (zo X4):=zC rfl (by decide+kernel)
abbrev Je:Stmt:=top 12
def zgs:zw ["line","P"] ["line","P"] (zo Je):=zC rfl (by decide+kernel)
abbrev JE:Stmt:=top 13
def sc_turn:zw ["P","Q","R"] ["P","Q","R"] (zo JE):=zC rfl (by decide+kernel)
abbrev WA:Stmt:=top 14
def sc_amid:zw ["P","Q"] ["P","Q"] (zo WA):=zC rfl (by decide+kernel)
abbrev Vy:Stmt:=top 15
def jN:zw ["points","greatest","scale","keys","P"] ["points"] (zo Vy):=zC rfl (by decide+kernel)
abbrev xN:Stmt:=top 16
def YA:zw ["things","points","thing","keys"] ["things"] (zo xN):=zC rfl (by decide+kernel)
abbrev Vb:Stmt:=top 18
def zg8:zw ["P","Q"] ["P","Q"] (zo Vb):=zC rfl (by decide+kernel)
abbrev Wq:Stmt:=top 20
def zb5:zw ["stretches","P"] ["stretches","P"] (zo Wq):=zC rfl (by decide+kernel)
abbrev V0:Stmt:=top 21
def zht:zw ["S","P"] ["S","P"] (zo V0):=zC rfl (by decide+kernel)
abbrev WY:Stmt:=top 23
def qS:zw ["rings","sides","ring","P","Q"] ["rings"] (zo WY):=zC rfl (by decide+kernel)
abbrev VF:Stmt:=top 25
def zeo:zw ["sides","P"] ["sides","P"] (zo VF):=zC rfl (by decide+kernel)
abbrev VY:Stmt:=top 26
def wS:zw ["some","sides","middles","holders","number","middle","others"] ["some"] (zo VY):=zC rfl (by decide+kernel)
abbrev JH:Stmt:=top 27
def Jh:zw ["row","holders","number"] ["row","holders"] (zo JH):=zC rfl (by decide+kernel)
abbrev VL:Stmt:=top 29
def jw:zw ["land","leaving","gone","rings","fence"] ["land"] (zo VL):=zC rfl (by decide+kernel)
abbrev XQ:Stmt:=top 30
def XL:zw ["land","leaving","P","Q"] ["land"] (zo XQ):=zC rfl (by decide+kernel)
abbrev WX:Stmt:=top 31
def wR:zw ["start","leaving","gone","rings","way","places","fence","P","ring","Q"] ["start","leaving","gone"] (zo WX):=zC rfl (by decide+kernel)
abbrev Jq:Stmt:=top 32
def Xf:zw ["P","Q","tips","best","tip"] ["P","Q","tips"] (zo Jq):=zC rfl (by decide+kernel)
abbrev VH:Stmt:=top 33
def V4:zw ["P","Q","one","other","side","other_side"] ["P","Q","one","other"] (zo VH):=zC rfl (by decide+kernel)
abbrev Vt:Stmt:=top 34
def XB:zw ["ring","least","k"] ["ring"] (zo Vt):=zC rfl (by decide+kernel)
abbrev Wm:Stmt:=top 36
def Jd:zw ["_law_script","_law_k","_law_number"] ["_law_script","_law_k"] (zo Wm):=zC rfl (by decide+kernel)
abbrev WQ:Stmt:=top 37
def zdq:zw ["_law_one","_law_other"] ["_law_one","_law_other"] (zo WQ):=zC rfl (by decide+kernel)
abbrev VE:Stmt:=top 38
def zcl:zw ["_law_east","_law_north","_law_share","_law_many"] ["_law_east","_law_north","_law_share"] (zo VE):=zC rfl (by decide+kernel)
abbrev Vf:Stmt:=top 39
def W0:zw ["_law_script","_law_wide","_law_high","_law_cells_here","_law_k"] ["_law_script","_law_wide","_law_high"] (zo Vf):=zC rfl (by decide+kernel)
abbrev Jv:Stmt:=top 40
def YM:zw ["_law_cell_here","_law_x","_law_y","_law_rim"] ["_law_cell_here"] (zo Jv):=zC rfl (by decide+kernel)
abbrev VB:Stmt:=top 41
def jR:zw ["_law_cells_here","_law_sides","_law_cell_here","_law_ends_here","_law_k"] ["_law_cells_here"] (zo VB):=zC rfl (by decide+kernel)
abbrev JD:Stmt:=top 42
def ze7:zw ["_law_starts","_law_begin","_law_end","_law_behind"] ["_law_starts","_law_begin","_law_end"] (zo JD):=zC rfl (by decide+kernel)
abbrev qD:Stmt:=top 43
def wk:zw ["_law_edges_here","_law_starts","_law_first","_law_last","_law_ways","_law_back_here","_law_begin","_law_end"] ["_law_edges_here"] (zo qD):=zC rfl (by decide+kernel)
abbrev WZ:Stmt:=top 44
def vL:zw ["_law_script","_law_cell_here","_law_p","_law_q","_law_r","_law_far","_law_share"] ["_law_script"] (zo WZ):=zC rfl (by decide+kernel)
abbrev WI:Stmt:=top 45
def zec:zw ["_law_place_here","_law_frame_here","_law_east"] ["_law_place_here","_law_frame_here"] (zo WI):=zC rfl (by decide+kernel)
abbrev WN:Stmt:=top 46
def J6:zw ["_law_cells_here","_law_frame_here","_law_ways"] ["_law_cells_here","_law_frame_here"] (zo WN):=zC rfl (by decide+kernel)
abbrev Jt:Stmt:=top 47
def zb2:zw ["_law_ways","_law_share"] ["_law_ways","_law_share"] (zo Jt):=zC rfl (by decide+kernel)
abbrev Vx:Stmt:=top 48
def Y1:zw ["_law_ways","_law_share","_law_back_here","_law_first","_law_last"] ["_law_ways","_law_share"] (zo Vx):=zC rfl (by decide+kernel)
abbrev JB:Stmt:=top 49
def Yo:zw ["_law_found","_law_back_here","_law_turned","_law_ring","_law_one"] ["_law_found","_law_back_here"] (zo JB):=zC rfl (by decide+kernel)
abbrev W2:Stmt:=top 50
def Yu:zw ["_law_ring","_law_total","_law_k","_law_other"] ["_law_ring"] (zo W2):=zC rfl (by decide+kernel)
abbrev Yr:Stmt:=top 51
def Xw:zw ["_law_spot","_law_first","_law_last","_law_wide","_law_high"] ["_law_spot","_law_first","_law_last"] (zo Yr):=zC rfl (by decide+kernel)
abbrev XV:Stmt:=top 52
def jI:zw ["_law_spot","_law_ring","_law_count","_law_k","_law_other","_law_first"] ["_law_spot","_law_ring"] (zo XV):=zC rfl (by decide+kernel)
abbrev XO:Stmt:=top 53
def vW:zw ["_law_script","_law_cells_here","_law_k","_law_x","_law_y","_law_ring","_law_gone"] ["_law_script"] (zo XO):=zC rfl (by decide+kernel)
abbrev JF:Stmt:=top 54
def zis:zw ["_law_one","_law_many"] ["_law_one","_law_many"] (zo JF):=zC rfl (by decide+kernel)
abbrev Wz:Stmt:=top 55
def Jg:zw ["_law_found","_law_ring","_law_spot"] ["_law_found","_law_ring"] (zo Wz):=zC rfl (by decide+kernel)
abbrev Jj:Stmt:=top 56
def Yq:zw ["_law_found","_law_told_here","_law_k","_law_mine","_law_right_here"] ["_law_found","_law_told_here"] (zo Jj):=zC rfl (by decide+kernel)
abbrev qO:Stmt:=top 57
def xv:zw ["_law_script","_law_cells_here","_law_frame_here","_law_ways","_law_some","_law_found","_law_handed","_law_told_here","_law_one","_law_kept","_law_other","_law_turned","_law_k","_law_here"] ["_law_script"] (zo qO):=zC rfl (by decide+kernel)
def Fd(K:pI)(x:Str)(st:Stmt)(f:Addr)(fd:UM):Prop:=UF K ul x=some (some (.ref f))/\Fun K x x st f fd
def fd_mk{K:pI}{x:Str}{st:Stmt}{f:Addr}{oc:pB}{od an:Option Addr}{sl:Array (Option pB)}{kV dc pm cd ct:pB}(a:UF K ul x=some (some (.ref f)))(l:K.lookup f=some ⟨oc,od,.func (Ut x x (wV st) (xw st) (zo st) .none kV dc pm an cd ct),sl⟩)(c:Ay K cd x=true)(k:Bm K (.ref f)=true):Fd K x st f (Ut x x (wV st) (xw st) (zo st) .none kV dc pm an cd ct):=⟨a,zb8 l c k⟩
def Fd.at{K:pI}{h:Heap}{mg:Str->Option pB}{x:Str}{st:Stmt}{f:Addr}{d:UM}{ps:List Str}(q:Fd K x st f d)(X:K.In h)(G:h.Ns ul mg)(b:∀(kV doc pm:pB)(an:Option Addr)(cdv ct:pB)(us:List pB),us.length=ps.length->AS (Ut x x (wV st) (xw st) (zo st) .none kV doc pm an cdv ct) ⟨us,[]⟩=pure (ps.zip us)):zy K mg x st ps f d:=⟨q.2,q.2.binds b,HC X G q.1⟩
structure Txt(K:pI)(mg:Str->Option pB)(ad:Nat->Addr)(fd:Nat->UM):Prop where
 is_whole:zy K mg "is_whole" Vl ["thing"] (ad 0) (fd 0)
 divisor:zy K mg "divisor" Wc ["one","other"] (ad 1) (fd 1)
 point:zy K mg "point" W4 ["x","y","w"] (ad 2) (fd 2)
 before:zy K mg "before" Jo ["P","Q"] (ad 3) (fd 3)
 sign_of:zy K mg "sign_of" VA ["number"] (ad 4) (fd 4)
 line_of:zy K mg "line_of" X4 ["P","Q"] (ad 5) (fd 5)
 side_of:zy K mg "side_of" Je ["line","P"] (ad 6) (fd 6)
 turn:zy K mg "turn" JE ["P","Q","R"] (ad 7) (fd 7)
 amid:zy K mg "amid" WA ["P","Q"] (ad 8) (fd 8)
 order_keys:zy K mg "order_keys" Vy ["points"] (ad 9) (fd 9)
 by_points:zy K mg "by_points" xN ["things"] (ad 10) (fd 10)
 by_points_c:FunC K "by_points" "by_points" xN (ad 10) (fd 10) (ad 46) (ad 47)
 stretch:zy K mg "stretch" Vb ["P","Q"] (ad 11) (fd 11)
 above:zy K mg "above" Wq ["stretches","P"] (ad 12) (fd 12)
 spans:zy K mg "spans" V0 ["S","P"] (ad 13) (fd 13)
 sides_of:zy K mg "sides_of" WY ["rings"] (ad 14) (fd 14)
 is_round:zy K mg "is_round" VF ["sides","P"] (ad 15) (fd 15)
 nest:zy K mg "nest" VY ["some"] (ad 16) (fd 16)
 innermost:zy K mg "innermost" JH ["row","holders"] (ad 17) (fd 17)
 rings_of:zy K mg "rings_of" VL ["land"] (ad 18) (fd 18)
 leaving_of:zy K mg "leaving_of" XQ ["land"] (ad 19) (fd 19)
 way_round:zy K mg "way_round" WX ["start","leaving","gone"] (ad 20) (fd 20)
 first_right:zy K mg "first_right" Jq ["P","Q","tips"] (ad 21) (fd 21)
 is_met_sooner:zy K mg "is_met_sooner" VH ["P","Q","one","other"] (ad 22) (fd 22)
 from_least:zy K mg "from_least" Vt ["ring"] (ad 23) (fd 23)
 law_cell:zy K mg "_law_cell" Wm ["_law_script","_law_k"] (ad 24) (fd 24)
 law_divisor:zy K mg "_law_divisor" WQ ["_law_one","_law_other"] (ad 25) (fd 25)
 law_point:zy K mg "_law_point" VE ["_law_east","_law_north","_law_share"] (ad 26) (fd 26)
 law_cells:zy K mg "_law_cells" Vf ["_law_script","_law_wide","_law_high"] (ad 27) (fd 27)
 law_ends:zy K mg "_law_ends" Jv ["_law_cell_here"] (ad 28) (fd 28)
 law_edges:zy K mg "_law_edges" VB ["_law_cells_here"] (ad 29) (fd 29)
 law_straight:zy K mg "_law_straight" JD ["_law_starts","_law_begin","_law_end"] (ad 30) (fd 30)
 law_long:zy K mg "_law_long" qD ["_law_edges_here"] (ad 31) (fd 31)
 law_frame:zy K mg "_law_frame" WZ ["_law_script"] (ad 32) (fd 32)
 law_moved:zy K mg "_law_moved" WI ["_law_place_here","_law_frame_here"] (ad 33) (fd 33)
 law_land:zy K mg "_law_land" WN ["_law_cells_here","_law_frame_here"] (ad 34) (fd 34)
 law_told:zy K mg "_law_told" Jt ["_law_ways","_law_share"] (ad 35) (fd 35)
 law_back:zy K mg "_law_back" Vx ["_law_ways","_law_share"] (ad 36) (fd 36)
 law_rings:zy K mg "_law_rings" JB ["_law_found","_law_back_here"] (ad 37) (fd 37)
 law_twice:zy K mg "_law_twice" W2 ["_law_ring"] (ad 38) (fd 38)
 law_over:zy K mg "_law_over" Yr ["_law_spot","_law_first","_law_last"] (ad 39) (fd 39)
 law_within:zy K mg "_law_within" XV ["_law_spot","_law_ring"] (ad 40) (fd 40)
 law_deep:zy K mg "_law_deep" XO ["_law_script"] (ad 41) (fd 41)
 law_place:zy K mg "_law_place" JF ["_law_one","_law_many"] (ad 42) (fd 42)
 law_round:zy K mg "_law_round" Wz ["_law_found","_law_ring"] (ad 43) (fd 43)
 law_right:zy K mg "_law_right" Jj ["_law_found","_law_told_here"] (ad 44) (fd 44)
 law:zy K mg "law" qO ["_law_script"] (ad 45) (fd 45)
 b_abs:mg "abs"=none
 b_all:mg "all"=none
 b_bool:mg "bool"=none
 b_enumerate:mg "enumerate"=none
 b_int:mg "int"=none
 b_isinstance:mg "isinstance"=none
 b_len:mg "len"=none
 b_list:mg "list"=none
 b_max:mg "max"=none
 b_min:mg "min"=none
 b_range:mg "range"=none
 b_sorted:mg "sorted"=none
 b_zip:mg "zip"=none
def Zb:Sp:=λvs H Q _=>∃i:Int,vs=[.int i]/\Q (.bl true) H
def Xj:Sp:=λvs H Q _=>∃a b:Int,vs=[.int a,.int b]/\Q (.int (G a b)) H
def zj2(a b:Int)(H₀:Hp):St->Hp->Prop:=λσ H'=>H'=H₀/\∃(x y:Int)(r:Option V),σ=[some (.int a),some (.int b),some (.int x),some (.int y),r]/\0<=x/\0<=y/\G x y=G a b
def Bd3(n:Nat)(a b c:Int):Prop:=a.natAbs<2^n/\b.natAbs<2^n/\c.natAbs<2^n
def TB(n:Nat)(H:Hp)(p:Addr)(x y w:Int):Prop:=H p=some (.tup [.int x,.int y,.int w])/\Bd3 n x y w
def TB.same{n:Nat}{H H':Hp}{p:Addr}{x y w:Int}(h:TB n H p x y w)(g:ze H H'):TB n H' p x y w:=⟨g _ _ h.1,h.2⟩
def Bd3.mono{m n:Nat}{x y w:Int}(h:Bd3 m x y w)(hm:m<=n):Bd3 n x y w:=⟨yT h.1 hm,yT h.2.1 hm,yT h.2.2 hm⟩
def TB.mono{m n:Nat}{H:Hp}{p:Addr}{x y w:Int}(h:TB m H p x y w)(hm:m<=n:=by decide):TB n H p x y w:=⟨h.1,h.2.mono hm⟩
def Pt.bd{m n:Nat}{x y w:Int}(h:Pt m x y w)(hm:m<=n:=by decide):Bd3 n x y w:=⟨yT h.lx hm,yT h.ly hm,yT h.lw hm⟩
def ze3:Sp:=λvs H Q _=>∃a b w:Int,vs=[.int a,.int b,.int w]/\w≠0/\w.natAbs<2^8000/\∀p H',ze H H'->H' p=some (.tup [.int (ptX a b w),.int (ptY a b w),.int (ptW a b w)])->Q (.ref p) H'
inductive zdv (vs:List V) (H:Hp) (Q:VK) (E:XK):Prop
 |mk (p q:Addr) (x1 y1 w1 x2 y2 w2:Int) (_:vs=[.ref p,.ref q]) (_:TB 1000 H p x1 y1 w1) (_:TB 1000 H q x2 y2 w2) (_:Q (.bl (bef x1 y1 w1 x2 y2 w2)) H):zdv vs H Q E
inductive zag (vs:List V) (H:Hp) (Q:VK) (E:XK):Prop
 |mk (p q:Addr) (x1 y1 w1 x2 y2 w2:Int) (_:vs=[.ref p,.ref q]) (_:TB 1000 H p x1 y1 w1) (_:TB 1000 H q x2 y2 w2) (_:w1≠0) (_:w2≠0) (_:∀(r:Addr)(H':Hp),ze H H'->H' r=some (.tup [.int (ptX (x1*w2+x2*w1) (y1*w2+y2*w1) (2*w1*w2)),.int (ptY (x1*w2+x2*w1) (y1*w2+y2*w1) (2*w1*w2)),.int (ptW (x1*w2+x2*w1) (y1*w2+y2*w1) (2*w1*w2))])->Q (.ref r) H'):zag vs H Q E
def zav:Sp:=λvs H Q _=>∃z:Int,vs=[.int z]/\Q (.int (sgn z)) H
def zdi:Sp:=λvs H Q _=>∃(p q:Addr)(x1 y1 w1 x2 y2 w2:Int),vs=[.ref p,.ref q]/\TB 1000 H p x1 y1 w1/\TB 1000 H q x2 y2 w2/\∀(r:Addr)(H':Hp),ze H H'->H' r=some (.tup [.int (lnA x1 y1 w1 x2 y2 w2),.int (lnB x1 y1 w1 x2 y2 w2),.int (lnC x1 y1 w1 x2 y2 w2)])->Q (.ref r) H'
def ln_bd{x1 y1 w1 x2 y2 w2:Int}(p:Bd3 1000 x1 y1 w1)(q:Bd3 1000 x2 y2 w2):Bd3 2001 (lnA x1 y1 w1 x2 y2 w2) (lnB x1 y1 w1 x2 y2 w2) (lnC x1 y1 w1 x2 y2 w2):=
 ⟨W9 (xJ p.2.1 q.2.2) (xJ p.2.2 q.2.1),W9 (xJ p.2.2 q.1) (xJ p.1 q.2.2),W9 (xJ p.1 q.2.1) (xJ p.2.1 q.1)⟩
def zbg:Sp:=λvs H Q _=>∃(l p:Addr)(a b c x y w:Int),vs=[.ref l,.ref p]/\H l=some (.tup [.int a,.int b,.int c])/\Bd3 2001 a b c/\H p=some (.tup [.int x,.int y,.int w])/\Bd3 5000 x y w/\Q (.int (sgn (a*x+b*y+c*w))) H
inductive Z4 (vs:List V) (H:Hp) (Q:VK) (E:XK):Prop
 |mk (p q r:Addr) (x1 y1 w1 x2 y2 w2 x3 y3 w3:Int) (_:vs=[.ref p,.ref q,.ref r]) (_:TB 1000 H p x1 y1 w1) (_:TB 1000 H q x2 y2 w2) (_:TB 5000 H r x3 y3 w3) (_:∀H',ze H H'->Q (.int (sgn (det3 x1 y1 w1 x2 y2 w2 x3 y3 w3))) H'):Z4 vs H Q E
def zJ(H H':Hp):Prop:=∀b xs,H b=some (.tup xs)->H' b=some (.tup xs)
def zI{H H':Hp}(g:ze H H'):zJ H H':=λb xs h=>g b _ h
def yS{H:Hp}{D:Addr}{ys:List V}{o:HO}(h:H D=some (.lst ys)):zJ H (upd H D o):=λb xs q=>by
 rw[zh (qR q h (by intro z;cases z))]
 exact q
def StV(H:Hp)(p:Addr)(d:S6):Prop:=∃a b,H p=some (.tup [.ref a,.ref b])/\TB 1000 H a d.x1 d.y1 d.w1/\TB 1000 H b d.x2 d.y2 d.w2
def TB.ts{n:Nat}{H H':Hp}{p:Addr}{x y w:Int}(h:TB n H p x y w)(g:zJ H H'):TB n H' p x y w:=⟨g _ _ h.1,h.2⟩
def StV.ts{H H':Hp}{p:Addr}{d:S6}(h:StV H p d)(g:zJ H H'):StV H' p d:=by
 obtain⟨a,b,h1,h2,h3⟩:=h;exact⟨a,b,g _ _ h1,h2.ts g,h3.ts g⟩
def StL(H:Hp)(ys:List V)(ds:List S6):Prop:=ys.length=ds.length/\∀(j:Nat)(v:V),ys[j]?=some v->∃(p:Addr)(d:S6),v=.ref p/\ds[j]?=some d/\StV H p d
def StL.ts{H H':Hp}{ys:List V}{ds:List S6}(h:StL H ys ds)(g:zJ H H'):StL H' ys ds:=⟨h.1,λj v z=>by
 obtain⟨p,d,e,f,s⟩:=h.2 j v z;exact⟨p,d,e,f,s.ts g⟩⟩
def StL.nil{H:Hp}:StL H [] []:=⟨rfl,λj v z=>by cases z⟩
theorem StL.snoc{H:Hp}{ys:List V}{ds:List S6}{p:Addr}{d:S6}(h:StL H ys ds)(s:StV H p d):StL H (ys++[.ref p]) (ds++[d]):=by
 refine⟨by rw[pK,pK,h.1];rfl,λj v z=>?_⟩
 by_cases hj:j<ys.length
 ·rw[uX hj] at z;obtain⟨q,e,f,g,t⟩:=h.2 j v z;exact⟨q,e,f,by rw[uX (by rw[←h.1];exact hj)];exact g,t⟩
 ·rw[uJ (by lia)] at z
  cases e:j-ys.length with
  |zero=>
   rw[e] at z
   cases z;exact⟨p,d,rfl,by rw[uJ (by rw[←h.1];lia),←h.1,e];rfl,s⟩
  |succ n=>rw[e] at z;cases z
inductive zb0 (vs:List V) (H:Hp) (Q:VK) (E:XK):Prop
 |mk (p q:Addr) (d:S6) (x y w:Int) (_:vs=[.ref p,.ref q]) (_:StV H p d) (_:TB 1000 H q x y w) (_:Q (.bl (YD d x w)) H):zb0 vs H Q E
inductive Zu (vs:List V) (H:Hp) (Q:VK) (E:XK):Prop
 |mk (l q:Addr) (ys:List V) (ds:List S6) (x y w:Int) (_:vs=[.ref l,.ref q]) (_:H l=some (.lst ys)) (_:ys.length<100000) (_:StL H ys ds) (_:TB 1000 H q x y w) (_:∀H',ze H H'->Q (.int (cntAb ds x y w)) H'):Zu vs H Q E
def iv_ldiv(a b:Int)(H₀:Hp):St->Hp->Prop:=λσ H'=>H'=H₀/\∃x y:Int,σ=[some (.int x),some (.int y)]/\G x y=G a b
structure P3 where
 x:Int
 y:Int
 w:Int
noncomputable def sd1(p q:P3):S6:=if bef p.x p.y p.w q.x q.y q.w=true then⟨p.x,p.y,p.w,q.x,q.y,q.w⟩ else⟨q.x,q.y,q.w,p.x,p.y,p.w⟩
noncomputable def sd(p q:P3):List S6:=if p.x=q.x/\p.y=q.y/\p.w=q.w then[] else[sd1 p q]
noncomputable def sdK(r:List P3)(k:Nat):List S6:=match r[k]?,r[(k+1)%r.length]? with
 |some p,some q=>sd p q
 |_,_=>[]
noncomputable def sdR(r:List P3)(j:Nat):List S6:=(pP j).flatMap (sdK r)
noncomputable def sdA(rs:List (List P3))(i:Nat):List S6:=(rs.take i).flatMap λr=>sdR r r.length
def zex(r:List P3)(j:Nat):sdR r (j+1)=sdR r j++sdK r j:=by
 unfold sdR;rw[QQ,gT]
 simp
def ziw{rs:List (List P3)}{i:Nat}{r:List P3}(h:rs[i]?=some r):sdA rs (i+1)=sdA rs i++sdR r r.length:=by
 unfold sdA;rw[List.take_succ,h,gT]
 simp
def JJ{r:List P3}{k:Nat}{p q:P3}(h1:r[k]?=some p)(h2:r[(k+1)%r.length]?=some q):sdK r k=sd p q:=by
 unfold sdK;rw[h1,h2]
theorem zhu{α:Type}(r:List α)(k:Nat)(hk:k<r.length):(r.drop 1++r.take 1)[k]?=r[(k+1)%r.length]?:=by
 by_cases h:k+1<r.length
 ·rw[uX (by rw[uK];lia),gf,gL h,HK]
 ·have e:k+1=r.length:=by lia
  rw[uJ (by rw[uK];omega),uK,e,HQ,show k-(r.length-1)=0 by omega,AM (by lia)]
theorem WT(xs:List V):xH xs (some 1) none=xs.drop 1:=by
 unfold xH;rw[show(1:Int)=((1:Nat):Int) from rfl,HT.sIx_nat,HT.sIx_none];rcases xs with _|⟨x,xs⟩
 ·rfl
 ·rw[hV (by rw[uN];lia),pV (by rw[uK];lia)]
theorem ze0(xs:List V):xH xs none (some 1)=xs.take 1:=by
 unfold xH;rw[show(1:Int)=((1:Nat):Int) from rfl,HT.sIx_nat,HT.sIx_none,Bo,Fo];rcases xs with _|⟨x,xs⟩
 ·rfl
 ·rw[hV (by rw[uN];lia)]
inductive sp_sd (vs:List V) (H:Hp) (Q:VK) (E:XK):Prop
 |mk (p q:Addr) (a b:P3) (_:vs=[.ref p,.ref q]) (_:TB 1000 H p a.x a.y a.w) (_:TB 1000 H q b.x b.y b.w) (_:¬(a.x=b.x/\a.y=b.y/\a.w=b.w)) (_:∀r H',ze H H'->StV H' r (sd1 a b)->Q (.ref r) H'):sp_sd vs H Q E
def RgH(H:Hp)(p:Addr)(r:List P3):Prop:=∃zs,H p=some (.lst zs)/\zs.length=r.length/\r.length<=200/\∀(k:Nat)(v:V),zs[k]?=some v->∃(a:Addr)(c:P3),v=.ref a/\r[k]?=some c/\TB 1000 H a c.x c.y c.w
def RgL(H:Hp)(ys:List V)(rs:List (List P3)):Prop:=ys.length=rs.length/\∀(j:Nat)(v:V),ys[j]?=some v->∃(p:Addr)(r:List P3),v=.ref p/\rs[j]?=some r/\RgH H p r
inductive ZL (vs:List V) (H:Hp) (Q:VK) (E:XK):Prop
 |mk (l:Addr) (ys:List V) (rs:List (List P3)) (_:vs=[.ref l]) (_:H l=some (.lst ys)) (_:ys.length<=200) (_:RgL H ys rs) (_:∀(D:Addr)(zs:List V)(H':Hp),H D=none->ze H H'->H' D=some (.lst zs)->zs.length<=40000->StL H' zs (sdA rs rs.length)->Q (.ref D) H'):ZL vs H Q E
structure I2 where
 x:Int
 y:Int
noncomputable def lw(s:Int)(a:I2):P3:=⟨a.x.fdiv (G (G a.x a.y) s),a.y.fdiv (G (G a.x a.y) s),s.fdiv (G (G a.x a.y) s)⟩
def vp{s:Int}(hs:0<s)(a:I2):∃g:Int,0<g/\(lw s a).x*g=a.x/\(lw s a).y*g=a.y/\(lw s a).w*g=s:=by
 refine⟨G (G a.x a.y) s,Jn hs,?_,?_,?_⟩
 ·exact vn (by rw[G3];exact X9 _ _ _)
 ·exact vn (by rw[G3];exact Jm _ _ _)
 ·exact vn (by rw[G3];exact VO _ _ _)
def wB{k a b:Int}(hk:0<k):k*a<k*b↔a<b:=⟨λh=>DL h (Uk hk),λh=>Int.mul_lt_mul_of_pos_left h hk⟩
theorem qC{x w x' w' g h X W X' W':Int}(hg:0<g)(hh:0<h)(e1:x*g=X)(e2:w*g=W)(e3:x'*h=X')(e4:w'*h=W'):(x*w'<x'*w)↔(X*W'<X'*W):=by
 rw[←wB (k:=g*h) (QV hg hh),←e1,←e2,←e3,←e4];have a1:g*h*(x*w')=x*g*(w'*h):=by grind
 have a2:g*h*(x'*w)=x'*h*(w*g):=by grind
 rw[a1,a2]
theorem JI(g1 g2 g3 x1 y1 w1 x2 y2 w2 x3 y3 w3:Int):det3 (x1*g1) (y1*g1) (w1*g1) (x2*g2) (y2*g2) (w2*g2) (x3*g3) (y3*g3) (w3*g3)=g1*g2*g3*det3 x1 y1 w1 x2 y2 w2 x3 y3 w3:=by
 unfold det3 lnA lnB lnC;grind
theorem zeh(k s ax ay bx by_ sx sy:Int):det3 ax ay s bx by_ s (k*sx) (k*sy) (k*(2*s))=k*s*((bx-ax)*(sy-2*ay)-(by_-ay)*(sx-2*ax)):=by
 unfold det3 lnA lnB lnC;grind
structure Spot(s X Y W sx sy:Int):Prop where
 mk'::
 ex:∃h k:Int,0<h/\0<k/\X*h=k*sx/\Y*h=k*sy/\W*h=k*(2*s)
variable{sx sy:Int}
theorem zia{s X Y W:Int}(hs:0<s)(sp:Spot s X Y W sx sy)(a b:I2):abv X Y W ⟨(lw s a).x,(lw s a).y,(lw s a).w,(lw s b).x,(lw s b).y,(lw s b).w⟩=true↔(¬sx<2*a.x/\sx<2*b.x/\(2*b.x-2*a.x)*(sy-2*a.y)<(2*b.y-2*a.y)*(sx-2*a.x)):=by
 obtain⟨h,k,hh,hk,e1,e2,e3⟩:=sp.ex;obtain⟨g1,hg1,a1,a2,a3⟩:=vp hs a;obtain⟨g2,hg2,b1,b2,b3⟩:=vp hs b;have ks:=QV hk hs;have c1:=qC (x:=X) (w:=W) (x':=(lw s a).x) (w':=(lw s a).w) hh hg1 e1 e3 a1 a3;have c2:=qC (x:=X) (w:=W) (x':=(lw s b).x) (w':=(lw s b).w) hh hg2 e1 e3 b1 b3;have m:∀z:Int,(k*sx*s<z*(k*(2*s)))↔sx<2*z:=λz=>by
  rw[←wB (a:=sx) ks];have d1:k*sx*s=k*s*sx:=by grind
  have d2:z*(k*(2*s))=k*s*(2*z):=by grind
  rw[d1,d2]
 have d:=JI g1 g2 h (lw s a).x (lw s a).y (lw s a).w (lw s b).x (lw s b).y (lw s b).w X Y W;rw[a1,a2,a3,b1,b2,b3,e1,e2,e3,zeh] at d;have gg:=QV (QV hg1 hg2) hh;have dn:det3 (lw s a).x (lw s a).y (lw s a).w (lw s b).x (lw s b).y (lw s b).w X Y W<0↔(2*b.x-2*a.x)*(sy-2*a.y)<(2*b.y-2*a.y)*(sx-2*a.x):=by
  rw[←wB (b:=0) gg,←d,Uy];have f1:(2*b.x-2*a.x)*(sy-2*a.y)=2*((b.x-a.x)*(sy-2*a.y)):=by grind
  have f2:(2*b.y-2*a.y)*(sx-2*a.x)=2*((b.y-a.y)*(sx-2*a.x)):=by grind
  rw[f1,f2];generalize (b.x-a.x)*(sy-2*a.y)=u;generalize (b.y-a.y)*(sx-2*a.x)=v;have z:=wB (a:=u-v) (b:=0) ks;rw[Uy] at z;rw[z];lia
 rw[abv_iff,c1,c2,m,m,dn]
theorem za7{s:Int}(hs:0<s){a b:I2}(e1:(lw s a).x=(lw s b).x)(e2:(lw s a).y=(lw s b).y)(e3:(lw s a).w=(lw s b).w):a.x=b.x/\a.y=b.y:=by
 obtain⟨g1,hg1,a1,a2,a3⟩:=vp hs a;obtain⟨g2,hg2,b1,b2,b3⟩:=vp hs b;rw[e1] at a1;rw[e2] at a2;rw[e3] at a3;have wn:(lw s b).w≠0:=λz=>by rw[z,UU] at b3;lia
 have g:g1=g2:=Int.eq_of_mul_eq_mul_left wn (a3.trans b3.symm);subst g;exact⟨a1.symm.trans b1,a2.symm.trans b2⟩
theorem bef_lw{s:Int}(hs:0<s)(a b:I2):bef (lw s a).x (lw s a).y (lw s a).w (lw s b).x (lw s b).y (lw s b).w=true↔(a.x<b.x∨(a.x=b.x/\a.y<b.y)):=by
 obtain⟨g1,hg1,a1,a2,a3⟩:=vp hs a;obtain⟨g2,hg2,b1,b2,b3⟩:=vp hs b;have c1:=qC hg1 hg2 a1 a3 b1 b3;have c2:=qC hg2 hg1 b1 b3 a1 a3;have c3:=qC hg1 hg2 a2 a3 b2 b3;have m:∀u v:Int,u*s<v*s↔u<v:=λu v=>by rw[UO u,UO v];exact wB hs
 rw[m] at c1 c2 c3;rw[Yh];clear m a1 a2 a3 b1 b2 b3 hg1 hg2;exact or_congr c1 (and_congr (by omega) c3)
noncomputable def gt2(i1 i2 j1 j2:Int):Bool:=if i1=j1 then decide (j2<i2) else decide (j1<i1)
noncomputable def ov1(s1 s2 f1 f2 l1 l2:Int):Int:=if f1=l1∨s1<f1∨l1<=s1 then 0 else if(l1-f1)*(s2-f2)<(l2-f2)*(s1-f1) then 1 else 0
noncomputable def ovr(s1 s2 f1 f2 l1 l2:Int):Int:=if gt2 f1 f2 l1 l2=true then ov1 s1 s2 l1 l2 f1 f2 else ov1 s1 s2 f1 f2 l1 l2
theorem W6{i1 i2 j1 j2:Int}:gt2 i1 i2 j1 j2=true↔(j1<i1∨(i1=j1/\j2<i2)):=by
 unfold gt2
 split
 ·rw[decide_eq_true_iff];lia
 ·rw[decide_eq_true_iff];omega
def cnt_one{X Y W:Int}{d:S6}:cntAb [d] X Y W=if abv X Y W d=true then 1 else 0:=by
 have:=zgo [] d X Y W;rw[Al] at this;rw[this];exact AJ _
theorem zaa{s X Y W:Int}(hs:0<s)(sp:Spot s X Y W sx sy)(a b:I2)(hle:a.x<=b.x):(((if abv X Y W ⟨(lw s a).x,(lw s a).y,(lw s a).w,(lw s b).x,(lw s b).y,(lw s b).w⟩=true then 1 else 0:Nat)):Int)=ov1 sx sy (2*a.x) (2*a.y) (2*b.x) (2*b.y):=by
 have z:=zia hs sp a b;unfold ov1
 by_cases c:abv X Y W ⟨(lw s a).x,(lw s a).y,(lw s a).w,(lw s b).x,(lw s b).y,(lw s b).w⟩=true
 ·rw[if_pos c];rw[z] at c;rw[if_neg (by omega),if_pos c.2.2]
  rfl
 ·rw[if_neg c];rw[z] at c
  by_cases d:2*a.x=2*b.x∨sx<2*a.x∨2*b.x<=sx
  ·rw[if_pos d];rfl
  ·rw[if_neg d,if_neg (λe=>c ⟨by lia,by omega,e⟩)]
   rfl
def zc3(s1 s2 f1 f2 l2:Int):ov1 s1 s2 f1 f2 f1 l2=0:=by unfold ov1;rw[if_pos (.inl rfl)]
theorem cnt_sd{s X Y W:Int}(hs:0<s)(sp:Spot s X Y W sx sy)(a b:I2):(cntAb (sd (lw s a) (lw s b)) X Y W:Int)=ovr sx sy (2*a.x) (2*a.y) (2*b.x) (2*b.y):=by
 unfold sd ovr
 by_cases e:(lw s a).x=(lw s b).x/\(lw s a).y=(lw s b).y/\(lw s a).w=(lw s b).w
 ·rw[if_pos e];obtain⟨ex,ey⟩:=za7 hs e.1 e.2.1 e.2.2;rw[ex,zc3,zc3]
  split<;>rfl
 ·rw[if_neg e,cnt_one];have bl:=bef_lw hs a b;unfold sd1
  by_cases c:gt2 (2*a.x) (2*a.y) (2*b.x) (2*b.y)=true
  ·rw[if_pos c];rw[W6] at c;have nb:¬bef (lw s a).x (lw s a).y (lw s a).w (lw s b).x (lw s b).y (lw s b).w=true:=λz=>by rw[bl] at z;lia
   rw[if_neg nb];exact zaa hs sp b a (by lia)
  ·rw[if_neg c];rw[W6] at c
   by_cases bt:bef (lw s a).x (lw s a).y (lw s a).w (lw s b).x (lw s b).y (lw s b).w=true
   ·rw[if_pos bt];exact zaa hs sp a b (by omega)
   ·exfalso
    rw[bl] at bt;have ex:a.x=b.x:=by omega
    have ey:a.y=b.y:=by lia
    have eab:a=b:=by
     cases a;cases b;cases ex;cases ey;rfl
    subst eab;exact e ⟨rfl,rfl,rfl⟩
def zha(xs ys:List S6)(X Y W:Int):cntAb (xs++ys) X Y W=cntAb xs X Y W+cntAb ys X Y W:=by
 unfold cntAb;rw[uZ,pK]
theorem zer{s:Int}(hs:0<s)(a b:I2):Spot s
  (ptX ((lw s a).x*(lw s b).w+(lw s b).x*(lw s a).w) ((lw s a).y*(lw s b).w+(lw s b).y*(lw s a).w) (2*(lw s a).w*(lw s b).w))
  (ptY ((lw s a).x*(lw s b).w+(lw s b).x*(lw s a).w) ((lw s a).y*(lw s b).w+(lw s b).y*(lw s a).w) (2*(lw s a).w*(lw s b).w))
  (ptW ((lw s a).x*(lw s b).w+(lw s b).x*(lw s a).w) ((lw s a).y*(lw s b).w+(lw s b).y*(lw s a).w) (2*(lw s a).w*(lw s b).w)) (a.x+b.x) (a.y+b.y):=by
 obtain⟨g1,hg1,a1,a2,a3⟩:=vp hs a;obtain⟨g2,hg2,b1,b2,b3⟩:=vp hs b;have w1:0<(lw s a).w:=Vs a3 (.inl ⟨hg1,hs⟩);have w2:0<(lw s b).w:=Vs b3 (.inl ⟨hg2,hs⟩);have hw:0<2*(lw s a).w*(lw s b).w:=QV (QV (by decide) w1) w2
 have px:=ptX_mul ((lw s a).x*(lw s b).w+(lw s b).x*(lw s a).w) ((lw s a).y*(lw s b).w+(lw s b).y*(lw s a).w) (2*(lw s a).w*(lw s b).w);have py:=ptY_mul ((lw s a).x*(lw s b).w+(lw s b).x*(lw s a).w) ((lw s a).y*(lw s b).w+(lw s b).y*(lw s a).w) (2*(lw s a).w*(lw s b).w);have pw:=ptW_mul ((lw s a).x*(lw s b).w+(lw s b).x*(lw s a).w) ((lw s a).y*(lw s b).w+(lw s b).y*(lw s a).w) (2*(lw s a).w*(lw s b).w);have fs:=XU (x:=(lw s a).x*(lw s b).w+(lw s b).x*(lw s a).w) (y:=(lw s a).y*(lw s b).w+(lw s b).y*(lw s a).w) (w:=2*(lw s a).w*(lw s b).w) (by lia)
 generalize fac3 ((lw s a).x*(lw s b).w+(lw s b).x*(lw s a).w) ((lw s a).y*(lw s b).w+(lw s b).y*(lw s a).w) (2*(lw s a).w*(lw s b).w)=f at*;have fp:0<f:=by lia
 refine⟨⟨f*(g1*g2),s,QV fp (QV hg1 hg2),hs,?_,?_,?_⟩⟩
 ·rw[←BV,px,←a1,←b1]
  calc _=((lw s a).x*g1)*((lw s b).w*g2)+((lw s b).x*g2)*((lw s a).w*g1):=by grind
   _=_:=by rw[a3,b3];grind
 ·rw[←BV,py,←a2,←b2]
  calc _=((lw s a).y*g1)*((lw s b).w*g2)+((lw s b).y*g2)*((lw s a).w*g1):=by grind
   _=_:=by rw[a3,b3];grind
 ·rw[←BV,pw]
  calc _=2*((lw s a).w*g1)*((lw s b).w*g2):=by grind
   _=_:=by rw[a3,b3];grind
def LR{α:Type}(R:Hp->Addr->α->Prop)(H:Hp)(ys:List V)(as:List α):Prop:=ys.length=as.length/\∀(j:Nat)(v:V),ys[j]?=some v->∃(p:Addr)(a:α),v=.ref p/\as[j]?=some a/\R H p a
section
variable{α:Type}{R:Hp->Addr->α->Prop}
def LR.ts(hR:∀H H' p a,zJ H H'->R H p a->R H' p a){H H':Hp}{ys:List V}{as:List α}(h:LR R H ys as)(g:zJ H H'):LR R H' ys as:=⟨h.1,λj v z=>by
 obtain⟨p,d,e,f,s⟩:=h.2 j v z;exact⟨p,d,e,f,hR _ _ _ _ g s⟩⟩
variable{H:Hp}
def LR.nil:LR R H [] []:=⟨rfl,λj v z=>by cases z⟩
variable{ys:List V}
theorem LR.app{zs:List V}{as bs:List α}(h:LR R H ys as)(h':LR R H zs bs):LR R H (ys++zs) (as++bs):=by
 refine⟨by rw[pK,pK,h.1,h'.1],λj v z=>?_⟩
 by_cases hj:j<ys.length
 ·rw[uX hj] at z;obtain⟨q,e,f,g,t⟩:=h.2 j v z;exact⟨q,e,f,by rw[uX (by rw[←h.1];exact hj)];exact g,t⟩
 ·rw[uJ (by lia)] at z
  obtain⟨q,e,f,g,t⟩:=h'.2 _ v z;exact⟨q,e,f,by rw[uJ (by rw[←h.1];lia),←h.1];exact g,t⟩
theorem LR.one{p:Addr}{a:α}(s:R H p a):LR R H [.ref p] [a]:=⟨rfl,λj v z=>by
 cases j with
 |zero=>cases z;exact⟨p,a,rfl,rfl,s⟩
 |succ n=>cases z⟩
def LR.snoc{as:List α}{p:Addr}{a:α}(h:LR R H ys as)(s:R H p a):LR R H (ys++[.ref p]) (as++[a]):=h.app (.one s)
def LR.drop{as:List α}(h:LR R H ys as)(n:Nat):LR R H (ys.drop n) (as.drop n):=by
 refine⟨by rw[uK,uK,h.1],λj v z=>?_⟩
 rw[gf] at z;obtain⟨q,e,f,g,t⟩:=h.2 _ v z;exact⟨q,e,f,by rw[gf];exact g,t⟩
def LR.at{as:List α}(h:LR R H ys as){j:Nat}(hj:j<ys.length):∃(p:Addr)(a:α),ys[j]?=some (.ref p)/\as[j]?=some a/\R H p a:=by
 obtain⟨p,a,e,f,r⟩:=h.2 j ys[j] (pJ hj);exact⟨p,a,by rw[pJ hj,e],f,r⟩
def LR.map{β:Type}{f:β->α}{bs:List β}(h:LR (λH p b=>R H p (f b)) H ys bs):LR R H ys (bs.map f):=by
 refine⟨by rw[pC,h.1],λj v z=>?_⟩
 obtain⟨q,e,g,k,t⟩:=h.2 _ v z;exact⟨q,f e,g,by rw[pT,k];rfl,t⟩
variable{vs:List V}
theorem LR.cons_inv{v:V}{as:List α}(h:LR R H (v::vs) as):∃a as',as=a::as'/\(∃p,v=.ref p/\R H p a)/\LR R H vs as':=by
 cases as with
 |nil=>cases h.1
 |cons a as'=>
  refine⟨a,as',rfl,?_,HR h.1,λj u z=>h.2 (j+1) u z⟩;obtain⟨p,b,e,f,r⟩:=h.2 0 v rfl
  cases f;exact⟨p,e,r⟩
def LR.cons{v:V}{a:α}{as:List α}(h:∃p,v=.ref p/\R H p a)(t:LR R H vs as):LR R H (v::vs) (a::as):=by
 obtain⟨p,rfl,r⟩:=h;exact(LR.one r).app t
theorem LR.perm(h:vs.Perm ys):∀{as:List α},LR R H vs as->∃as',as.Perm as'/\LR R H ys as':=by
 induction h with
 |nil=>exact λ{as} t=>⟨as,.refl _,t⟩
 |cons v _ ih=>
  intro as t;obtain⟨a,as',rfl,hp,t'⟩:=t.cons_inv;obtain⟨bs,pb,tb⟩:=ih t';exact⟨a::bs,pb.cons a,.cons hp tb⟩
 |swap u v l=>
  intro as t;obtain⟨a,as',rfl,hp,t'⟩:=t.cons_inv;obtain⟨b,as2,rfl,hq,t2⟩:=t'.cons_inv;exact⟨b::a::as2,.swap b a as2,.cons hq (.cons hp t2)⟩
 |trans _ _ i1 i2=>
  intro as t;obtain⟨bs,p1,t1⟩:=i1 t;obtain⟨cs,p2,t2⟩:=i2 t1;exact⟨cs,p1.trans p2,t2⟩
def vB(R:Hp->Addr->α->Prop)(as:List α)(H2:Hp)(D:Addr):Nat->List V->Hp->Prop:=λi ys H'=>ze H2 H'/\H' D=some (.lst ys)/\ys.length=i/\LR R H' ys (as.take i)
def qp{as:List α}{H2:Hp}{D:Addr}(hD:H2 D=none):vB R as H2 D 0 [] (upd H2 D (.lst [])):=⟨zg hD _,upd_same,rfl,by rw[Qs];exact .nil⟩
def qh(hR:∀H H' p a,zJ H H'->R H p a->R H' p a){m:Nat}{H2 H3 H4:Hp}{D:Addr}{i:Nat}{ys:List V}{p:Addr}{as:List α}{a:α}(hD:H2 D=none)(hm:m<100000)(iv:vB R as H2 D i ys H3)(hi:i<m)(ha:as[i]?=some a)(g4:ze H3 H4)(hp:R H4 p a):jl m (vB R as H2 D) D i (.ref p) H4:=by
 obtain⟨g3',hD3,hy,hall⟩:=iv;have hD4:=g4 _ _ hD3;refine cw_put hi hD4 (by rw[hy];exact Cj hi (Cj hm (by decide))) ⟨zW (g3'.trans g4) hD,upd_same,by rw[pK,hy];rfl,?_⟩
 rw[uA,ha];exact((hall.ts hR (zI g4)).snoc hp).ts hR (yS hD4)
end
def zax{X:Cx}{K':pI}(hK:X.K=K')(hu:X.A.units+64<cLine):OpR X (Qy .NotIn) (X1 K'):=by subst hK;exact zeg hu
def XX{H H' H'':Hp}(a:zJ H H')(b:zJ H' H''):zJ H H'':=λp xs h=>b _ _ (a _ _ h)
def QH(H:Hp)(p:Addr)(r:Q3):Prop:=H p=some (.tup [.int r.x,.int r.y,.int r.w])/\PQ 700 r
def yi:∀(H H':Hp)(p:Addr)(r:Q3),zJ H H'->QH H p r->QH H' p r:=λ_ _ _ _ g h=>⟨g _ _ h.1,h.2⟩
def QH.same{H H':Hp}{p:Addr}{r:Q3}(h:QH H p r)(g:ze H H'):QH H' p r:=⟨g _ _ h.1,h.2⟩
def QH.tb{H:Hp}{p:Addr}{r:Q3}(h:QH H p r){n:Nat}(hn:700<=n:=by decide):TB n H p r.x r.y r.w:=⟨h.1,Pt.bd h.2 hn⟩
def LR.same{H H':Hp}{ys:List V}{ps:List Q3}(h:LR QH H ys ps)(g:ze H H'):LR QH H' ys ps:=h.ts yi (zI g)
def LR.take{α:Type}{R:Hp->Addr->α->Prop}{H:Hp}{ys:List V}{as:List α}(h:LR R H ys as)(n:Nat):LR R H (ys.take n) (as.take n):=by
 refine⟨by rw[uI,uI,h.1],λj v z=>?_⟩
 rw[FW] at z
 by_cases c:j<n
 ·rw[if_pos c] at z;obtain⟨q,e,f,g,t⟩:=h.2 _ v z;exact⟨q,e,f,by rw[FW,if_pos c];exact g,t⟩
 ·rw[if_neg c] at z
  cases z
section
variable{P:uB}{w:uW}{K:pI}{mg:Str->Option pB}{base:Heap}{ad:Nat->Addr}{fd:Nat->UM}
def small10k{n:Nat}(h:n<=20000):n<sizeLine:=QN h (by decide)
noncomputable def kQ(r:Q3):List Key:=[.inl r.x,.inl r.y,.inl r.w]
def wP{p q:Q3}(h:kQ p=kQ q):p=q:=by
 obtain⟨x,y,w⟩:=p;obtain⟨x',y',w'⟩:=q;unfold kQ at h
 cases h;rfl
def q5(H:Hp)(kvs:List (List Key×V))(g:Int)(ps:List Q3):Prop:=∀p,p∈ps->∃b,zr kvs (kQ p)=some (.ref b)/\H b=some (.tup [.int (kyQ g p).1,.int (kyQ g p).2])
def q5.ts{H H':Hp}{kvs:List (List Key×V)}{g:Int}{ps:List Q3}(h:q5 H kvs g ps)(t:zJ H H'):q5 H' kvs g ps:=λp hp=>by
 obtain⟨b,e,hb⟩:=h p hp;exact⟨b,e,t _ _ hb⟩
inductive ze8 (vs:List V) (H:Hp) (Q:VK) (E:XK):Prop
 |mk (l:Addr) (ys:List V) (ps:List Q3) (_:vs=[.ref l]) (_:H l=some (.lst ys)) (_:ys.length<=20000) (_:LR QH H ys ps) (_:∀d kvs g(qs:List Q3) H',ze H H'->H' d=some (.dT kvs)->0<g->(∀p,p∈ps->p.w<=g)->q5 H' kvs g ps->kvs.map CB=qs.map kQ->qs.Nodup->(∀p,p∈qs↔p∈ps)->qs.length<=ps.length->Q (.ref d) H'):ze8 vs H Q E
def Jb{H:Hp}{D:Addr}{kvs:List (List Key×V)}{o:HO}(h:H D=some (.dT kvs)):zJ H (upd H D o):=λb xs q=>by
 rw[zh (λz=>by rw[z,h] at q;cases q)]
 exact q
theorem zj1(T:Txt K mg ad fd):zv P w K mg base CX0 1 (ad 9) (fd 9) ["points"] ze8:=by
 refine T.order_keys.fn.ok jN (λvs H Q E h=>?_) (λcdv A outer s H vs Q E hr h=>?_)
 ·obtain⟨l,ys,ps,rfl,_⟩:=h;rfl
 obtain⟨l,ys,ps,rfl,hl,hn,hp,k⟩:=h;have hs:∀p,p∈ps->0<p.w/\p.x.natAbs<2^720/\p.y.natAbs<2^720/\p.w.natAbs<2^720:=λp hp'=>by
  obtain⟨j,hj⟩:=Ql.mp hp';have hj':j<ys.length:=by rw[hp.1];exact(pF.mp hj).1
  obtain⟨b,r,_,e2,hr⟩:=hp.at hj';rw[hj] at e2
  cases e2;exact⟨hr.2.pos,yT hr.2.lx (by decide),yT hr.2.ly (by decide),yT hr.2.lw (by decide)⟩
 refine⟨_,
  (pss5
   (zk 1 jN.nd (zi4 (zi3 rfl) rfl T.b_max bt_max (pa1 (xT jN ["P"] [] (yd (pm 0)) (λcl C fp s2 H2 xe=>⟨(zD 0 (show UG (["P"]:List Str) from by decide+kernel)),wI,(zd zf (pm 0) za)⟩)) v7) (pk_cons za pk_nil)))
   (zk 2 jN.nd (zc zN (pm 1) (pm 1)))
   (zk 3 jN.nd Xz)
   (yv uE rfl (yd (pm 0)) (zD 4 jN.nd) (zp (zL (Yn (Zk (xj hr) (pm 4) (pm 3))) (zp (Xb (xj hr) (pm 3) (pm 4) (ye (pa2 (zc wW (zc zN (zd zf (pm 4) za) (pm 2)) (zd zf (pm 4) za)) zx (zc wW (zc zN (zd zf (pm 4) za) (pm 2)) (zd zf (pm 4) za)) zx)) rfl)) zR)))
   (zq (pm 3)))
  ,?_⟩
 dsimp! [L2.start]
 simp! [tCBK];refine y9 ?_;simp! [zX];refine⟨⟨_,.of hl⟩,λD hD=>?_⟩;refine xG (xs:=ys) (λi zs H'=>ze H H'/\H' D=some (.lst zs)/\zs=((ps.take i).map λp=>V.int p.w)) ⟨zg hD _,upd_same,by rw[Qs];rfl⟩ (λi zs H' p=>.of (p.1 _ _ hl)) ?_ ?_
 ·rintro i zs H1 v hi hv ⟨g1,hD1,ez⟩;obtain⟨p,r,rfl,hr',hq⟩:=hp.2 i v hv;have hq1:H1 p=some (.tup [.int r.x,.int r.y,.int r.w]):=g1 _ _ hq.1;simp! [hq1];refine cw_put hi hD1 ?_ ⟨zW g1 hD,upd_same,?_⟩
  ·rw[ez,pC,uI];exact small10k (by have:=Ga i ps.length;lia)
  ·rw[uA,hr',ez,uF];rfl
 ·rintro zs H1 ⟨g1,hD1,ez⟩;rw[pV (by rw[hp.1];exact pG _)] at ez
  refine⟨D,ps.map λp=>p.w,1,rfl,rfl,by rw[hD1,ez,gM];rfl,λg gm gi=>?_⟩
  have g0:0<g:=by
   rcases gi with gi|gi
   ·obtain⟨p,hp',e⟩:=pL.mp gi;have:=(hs p hp').1;lia
   ·lia
  have gs:g.natAbs<2^720:=by
   rcases gi with gi|gi
   ·obtain⟨p,hp',e⟩:=pL.mp gi;rw[←e];exact(hs p hp').2.2.2
   ·rw[gi.2];decide
  refine⟨g,rfl,g,rfl,cbig gs gs,λd hd=>?_⟩;have gg:(g*g).natAbs<2^1440:=by
   rw[Aa];exact pf (GS gs gs) (by rw[←HY];exact AC (by decide) (by decide))
  refine yo ?_;simp! [zX];have g2:=zg hd (HO.dT []);refine⟨⟨_,.of (g2 _ _ (g1 _ _ hl))⟩,?_⟩;refine xz (K:=K) (a:=l) (xs:=ys) (λi σ H'=>ze H1 H'/\∃(kvs:List (List Key×V))(o:Option V),σ=[some (.ref l),some (.int g),some (.int (g*g)),some (.ref d),o]/\H' d=some (.dT kvs)/\kvs.length<=i/\q5 H' kvs g (ps.take i)/\(∀p,(zr kvs (kQ p)).isSome=true->p∈ps.take i)/\∃qs:List Q3,kvs.map CB=qs.map kQ/\qs.Nodup/\(∀p,p∈qs↔p∈ps.take i)/\qs.length<=i)
   ⟨g2,[],none,rfl,upd_same,pG _,λp hp'=>(by rw[Qs] at hp';cases hp'),λp z=>(by cases z),[],rfl,.nil,λp=>(by rw[Qs]),pG _⟩ (λi σ H' _ iv=>.of (iv.1 _ _ (g1 _ _ hl))) ?_ ?_
  ·intro _ _;rintro i v σ H2 hi ⟨g3,kvs,o,rfl,hd2,hk,ky,kb,qs,q1,q2,q3,q4⟩;obtain⟨p,r,rfl,hr',hq⟩:=hp.2 i v hi;have hq2:H2 p=some (.tup [.int r.x,.int r.y,.int r.w]):=g3 _ _ (g1 _ _ hq.1);simp! [Vz,YC,hq2];obtain⟨r0,rx,ry,rw'⟩:=hs r (pX hr');have wn:r.w≠0:=by lia
   rw[uA,hr'];refine⟨_,.t (k:=kQ r) hd2 hq2,ite2 (λc=>⟨cbig rx gg,cdivb wn rw',cbig ry gg,cdivb wn rw',λt ht=>?_⟩) λc=>?_⟩
   ·rw[UQ _ (by lia),UQ _ (by lia)]
    have nv:zr kvs (kQ r)=none:=by
     cases e:zr kvs (kQ r) with
     |none=>rfl
     |some u=>rw[e] at c;cases c
    have g4:=zg ht (HO.tup [V.int (r.x*(g*g)/r.w),V.int (r.y*(g*g)/r.w)]);have ht4:upd H2 t (HO.tup [V.int (r.x*(g*g)/r.w),V.int (r.y*(g*g)/r.w)]) t=some (HO.tup [V.int (r.x*(g*g)/r.w),V.int (r.y*(g*g)/r.w)]):=upd_same;generalize upd H2 t (HO.tup [V.int (r.x*(g*g)/r.w),V.int (r.y*(g*g)/r.w)])=H4 at*;have hd4:=g4 _ _ hd2;refine⟨_,.t (k:=kQ r) hd4 (g4 _ _ hq2) (small10k (by have:=(pF.mp hi).1;lia)),zW (g3.trans g4) hd,_,upd_same,pz (vk _ _ _) (by lia),λp' hp'=>?_,λp' z=>?_,qs++[r],?_,?_,λp'=>?_,by rw[pK];exact gK q4⟩
    ·rw[vf]
     by_cases e:kQ p'=kQ r
     ·rw[if_pos e];have e':=wP e;subst e';exact⟨t,rfl,Jb hd4 _ _ ht4⟩
     ·rw[if_neg e];rcases pd.mp hp' with hp'|hp'
      ·obtain⟨b,e1,e2⟩:=ky p' hp';exact⟨b,e1,Jb hd4 _ _ (g4 _ _ e2)⟩
      ·have e':p'=r:=by simpa using hp'
       exact absurd (by rw[e']) e
    ·rw[vf] at z
     by_cases e:kQ p'=kQ r
     ·rw[wP e];exact pY _ (by simp)
     ·rw[if_neg e] at z;exact Qp _ (kb p' z)
    ·rw[zab _ nv,uF,uF,q1];rfl
    ·exact UB.mpr ⟨q2,gP _ _,λa ha b hb e=>by
      rw[pZ.mp hb] at e;subst e;obtain⟨b',e1,_⟩:=ky a ((q3 a).mp ha);rw[nv] at e1
      cases e1⟩
    ·rw[pd,pd,q3]
     simp
   ·have z:(zr kvs (kQ r)).isSome=true:=by
     cases e:(zr kvs (kQ r)).isSome with
     |true=>rfl
     |false=>exact absurd (by rw[e];rfl) c
    refine⟨g3,kvs,hd2,by lia,λp' hp'=>?_,λp' z'=>Qp _ (kb p' z'),qs,q1,q2,λp'=>?_,by lia⟩
    rcases pd.mp hp' with hp'|hp'
    ·exact ky p' hp'
    ·have e':p'=r:=by simpa using hp'
     rw[e'];exact ky r (kb r z)
    ·rw[pd,q3];refine⟨.inl,λh=>h.elim id λh=>?_⟩;have e':p'=r:=by simpa using h
     rw[e'];exact kb r z
  ·rintro σ H2 ⟨g3,kvs,o,rfl,hd2,hk,ky,kb,qs,q1,q2,q3,q4⟩;rw[pV (by rw[hp.1];exact pG _)] at ky q3
   simp! [];exact k d kvs g qs H2 (g1.trans g3) hd2 g0 (λp hp'=>gm _ (pL.mpr ⟨p,hp',rfl⟩)) ky q1 q2 q3 (by rw[←hp.1];exact q4)
def zac(T:Txt K mg ad fd):zv P w K mg base CX0 1 (ad 3) (fd 3) ["P","Q"] zdv:=by
 refine T.before.fn.ok Ve (λvs H Q E h=>?_) (λcdv A outer s H vs Q E hr h=>?_)
 ·obtain⟨p,q,x1,y1,w1,x2,y2,w2,rfl,_⟩:=h;rfl
 obtain⟨p,q,x1,y1,w1,x2,y2,w2,rfl,⟨hp,pp⟩,⟨hq,pq⟩,k⟩:=h;refine⟨_,
  (pss4
   (zk 2 Ve.nd (zc zN (zd zf (pm 0) za) (zd zf (pm 1) za)))
   (zk 3 Ve.nd (zc zN (zd zf (pm 1) za) (zd zf (pm 0) za)))
   (zL (zM vt (pm 2) (pm 3) (nomark _)) (zp (zq (xq xF (pm 2) (pm 3) (nomark _)))) zR)
   (zq (xq xF (zc zN (zd zf (pm 0) za) (zd zf (pm 1) za)) (zc zN (zd zf (pm 1) za) (zd zf (pm 0) za)) (nomark _))))
  ,?_⟩
 dsimp! [L2.start]
 simp! [hp,hq];refine⟨cbig pp.1 pq.2.2,cbig pq.1 pp.2.2,?_⟩;unfold bef at k;refine ite2 (λc=>?_) (λc=>⟨cbig pp.2.1 pq.2.2,cbig pq.2.1 pp.2.2,?_⟩)
 ·have c':¬x1*w2=x2*w1:=by simpa using c
  rw[if_neg c'] at k;exact k
 ·have c':x1*w2=x2*w1:=by simpa using c
  rw[if_pos c'] at k;exact k
def zg7(T:Txt K mg ad fd):zv P w K mg base CX0 1 (ad 4) (fd 4) ["number"] zav:=by
 refine T.sign_of.fn.ok zgx (λvs H Q E h=>?_) (λcdv A outer s H vs Q E hr h=>?_)
 ·obtain⟨z,rfl,_⟩:=h;rfl
 obtain⟨z,rfl,k⟩:=h;refine⟨_,
  (pss3
   (zL (zM qf (pm 0) za (nomark _)) (zp (zq za)) zR)
   (zL (zM xF (pm 0) za (nomark _)) (zp (zq (Vh Wu za))) zR)
   (zq za))
  ,?_⟩
 dsimp! [L2.start]
 simp! [];unfold sgn at k;refine ite2 (λc=>?_) (λc=>ite2 (λc2=>?_) λc2=>?_)
 ·rw[if_pos (of_decide_eq_true c)] at k;exact k
 ·rw[if_neg (λz=>c (decide_eq_true z)),if_pos (of_decide_eq_true c2)] at k;exact k
 ·rw[if_neg (λz=>c (decide_eq_true z)),if_neg (λz=>c2 (decide_eq_true z))] at k;exact k
def zi0(T:Txt K mg ad fd):zv P w K mg base CX0 1 (ad 5) (fd 5) ["P","Q"] zdi:=by
 refine T.line_of.fn.ok zhy (λvs H Q E h=>?_) (λcdv A outer s H vs Q E hr h=>?_)
 ·obtain⟨p,q,x1,y1,w1,x2,y2,w2,rfl,_⟩:=h;rfl
 obtain⟨p,q,x1,y1,w1,x2,y2,w2,rfl,⟨hp,pp⟩,⟨hq,pq⟩,k⟩:=h;refine⟨_,
  (zp (zq (ye (pa3 (zc yr (zc zN (zd zf (pm 0) za) (zd zf (pm 1) za)) (zc zN (zd zf (pm 0) za) (zd zf (pm 1) za))) zx (zc yr (zc zN (zd zf (pm 0) za) (zd zf (pm 1) za)) (zc zN (zd zf (pm 0) za) (zd zf (pm 1) za))) zx (zc yr (zc zN (zd zf (pm 0) za) (zd zf (pm 1) za)) (zc zN (zd zf (pm 0) za) (zd zf (pm 1) za))) zx))))
  ,?_⟩
 dsimp! [L2.start]
 simp! [hp,hq];exact⟨cbig pp.2.1 pq.2.2,cbig pp.2.2 pq.2.1,cbig pp.2.2 pq.1,cbig pp.1 pq.2.2,cbig pp.1 pq.2.1,cbig pp.2.1 pq.1,λr hr=>k r _ (zg hr _) upd_same⟩
def zf1(T:Txt K mg ad fd):zv P w K mg base CX0 2 (ad 6) (fd 6) ["line","P"] zbg:=by
 refine T.side_of.fn.ok zgs (λvs H Q E h=>?_) (λcdv A outer s H vs Q E hr h=>?_)
 ·obtain⟨l,p,a,b,c,x,y,w,rfl,_⟩:=h;rfl
 obtain⟨l,p,a,b,c,x,y,w,rfl,hl,⟨la,lb,lc⟩,hp,⟨lx,ly,lw⟩,k⟩:=h;refine⟨_,
  (zp (zq (zu (zg7 T) T.sign_of hr (pa1 (zc zQ (zc zQ (zc zN (zd zf (pm 0) za) (zd zf (pm 1) za)) (zc zN (zd zf (pm 0) za) (zd zf (pm 1) za))) (zc zN (zd zf (pm 0) za) (zd zf (pm 1) za))) zx))))
  ,?_⟩
 dsimp! [L2.start]
 simp! [zav,hl,hp];exact⟨cbig la lx,cbig lb ly,cbig lc lw,k⟩
def Xd(T:Txt K mg ad fd):zv P w K mg base CX0 3 (ad 7) (fd 7) ["P","Q","R"] Z4:=by
 refine T.turn.fn.ok sc_turn (λvs H Q E h=>?_) (λcdv A outer s H vs Q E hr h=>?_)
 ·obtain⟨p,q,r,x1,y1,w1,x2,y2,w2,x3,y3,w3,rfl,_⟩:=h;rfl
 obtain⟨p,q,r,x1,y1,w1,x2,y2,w2,x3,y3,w3,rfl,hp,hq,hr',k⟩:=h;refine⟨_,
  (zp (zq (zu (zf1 T) T.side_of hr (pa2 (zu (zi0 T) T.line_of hr (pa2 (pm 0) zb (pm 1) zb)) yw (pm 2) zb))))
  ,?_⟩
 dsimp! [L2.start]
 simp! [zdi,zbg];exact⟨x1,y1,w1,hp,x2,y2,w2,hq,λl H2 g2 hl=>⟨_,_,_,hl,ln_bd hp.2 hq.2,_,_,_,(hr'.same g2).1,hr'.2,k H2 g2⟩⟩
noncomputable def sgD(a b c:Q3):Int:=sgn (det3 a.x a.y a.w b.x b.y b.w c.x c.y c.w)
noncomputable def soon(a b c d:Q3):Bool:=if sgD a b c=sgD a b d then decide (sgD a c d<0) else decide (sgD a b c<sgD a b d)
inductive zch (vs:List V) (H:Hp) (Q:VK) (E:XK):Prop
 |mk (p q r t:Addr) (a b c d:Q3) (_:vs=[.ref p,.ref q,.ref r,.ref t]) (_:QH H p a) (_:QH H q b) (_:QH H r c) (_:QH H t d) (_:∀H',ze H H'->Q (.bl (soon a b c d)) H'):zch vs H Q E
def ziz(T:Txt K mg ad fd):zv P w K mg base CX0 4 (ad 22) (fd 22) ["P","Q","one","other"] zch:=by
 refine T.is_met_sooner.fn.ok V4 (λvs H Q E h=>?_) (λcdv A outer s H vs Q E hr h=>?_)
 ·obtain⟨p,q,r,t,a,b,c,d,rfl,_⟩:=h;rfl
 obtain⟨p,q,r,t,a,b,c,d,rfl,hp,hq,hc,hd,k⟩:=h;refine⟨_,
  (pss4
   (zk 4 V4.nd (zu (Xd T) T.turn hr (pa3 (pm 0) zb (pm 1) zb (pm 2) zb)))
   (zk 5 V4.nd (zu (Xd T) T.turn hr (pa3 (pm 0) zb (pm 1) zb (pm 3) zb)))
   (zL (zM vt (pm 4) (pm 5) (nomark _)) (zp (zq (xq xF (pm 4) (pm 5) (nomark _)))) zR)
   (zq (xq xF (zu (Xd T) T.turn hr (pa3 (pm 0) zb (pm 2) zb (pm 3) zb)) za (nomark _))))
  ,?_⟩
 dsimp! [L2.start]
 simp! [];refine⟨p,q,r,_,_,_,_,_,_,_,_,_,rfl,hp.tb,hq.tb,hc.tb,λH1 g1=>?_⟩;refine⟨p,q,t,_,_,_,_,_,_,_,_,_,rfl,(hp.same g1).tb,(hq.same g1).tb,(hd.same g1).tb,λH2 g2=>?_⟩;unfold soon sgD at k;refine⟨rfl,ite2 (λc1=>?_) λc1=>?_⟩
 ·have z:=k H2 (g1.trans g2)
  split at z
  ·next e=>exact absurd e (by simpa using c1)
  ·exact⟨_,rfl,_,rfl,z⟩
 ·have g12:=g1.trans g2;refine⟨p,r,t,_,_,_,_,_,_,_,_,_,rfl,(hp.same g12).tb,(hc.same g12).tb,(hd.same g12).tb,λH3 g3=>?_⟩;have z:=k H3 (g12.trans g3)
  split at z
  ·exact⟨_,rfl,z⟩
  ·next e=>exact absurd (by simpa using c1) e
noncomputable def wO(a b:Q3)(c:Q3)(ts:List Q3):Q3:=ts.foldl (λm t=>if soon a b t m=true then t else m) c
noncomputable def jQ(a b:Q3):List Q3->Q3
 |[]=>a
 |c::ts=>wO a b c ts
def zdc(a b c t:Q3)(ts:List Q3):wO a b c (ts++[t])=if soon a b t (wO a b c ts)=true then t else wO a b c ts:=by
 unfold wO;rw[List.foldl_append];rfl
inductive ZZ (vs:List V) (H:Hp) (Q:VK) (E:XK):Prop
 |mk (p q l:Addr) (ys:List V) (a b:Q3) (ts:List Q3) (_:vs=[.ref p,.ref q,.ref l]) (_:QH H p a) (_:QH H q b) (_:H l=some (.lst ys)) (_:ys.length<=200) (_:LR QH H ys ts) (_:ts≠[]) (_:∀r H',ze H H'->QH H' r (jQ a b ts)->Q (.ref r) H'):ZZ vs H Q E
theorem zh6(T:Txt K mg ad fd):zv P w K mg base CX0 5 (ad 21) (fd 21) ["P","Q","tips"] ZZ:=by
 refine T.first_right.fn.ok Xf (λvs H Q E h=>?_) (λcdv A outer s H vs Q E hr h=>?_)
 ·obtain⟨p,q,l,ys,a,b,ts,rfl,_⟩:=h;rfl
 obtain⟨p,q,l,ys,a,b,ts,rfl,hp,hq,hl,hn,ht,ne,k⟩:=h;refine⟨_,
  (pss3
   (zk 3 Xf.nd (zd yg (pm 2) za))
   (yv uE rfl (yd (vJ vG (pm 2) (vw za) vD)) (zD 4 Xf.nd) (zp (zL (xc (zu (ziz T) T.is_met_sooner hr (pa4 (pm 0) zb (pm 1) zb (pm 4) zb (pm 3) zb))) (zp (zk 3 Xf.nd (pm 4))) zR)))
   (zq (pm 3)))
  ,?_⟩
 dsimp! [L2.start]
 obtain⟨c,cs,rfl⟩:∃c cs,ts=c::cs:=by
  cases ts with
  |nil=>exact absurd rfl ne
  |cons c cs=>exact⟨c,cs,rfl⟩
 obtain⟨y,ys,rfl⟩:∃y y',ys=y::y':=by
  cases ys with
  |nil=>cases ht.1
  |cons y y'=>exact⟨y,y',rfl⟩
 obtain⟨_,_,e,⟨pc,rfl,hc⟩,hys⟩:=ht.cons_inv
 cases e;simp! [hl];refine yo ?_;simp! [zX,hl,WT,List.drop_succ_cons,Bo];intro D hD;have g1:=zg hD (HO.lst ys);have hD1:upd H D (HO.lst ys) D=some (.lst ys):=upd_same;show _;generalize upd H D (HO.lst ys)=H1 at*;refine⟨⟨_,.of hD1⟩,?_⟩;refine xz (K:=K) (a:=D) (xs:=ys) (λi σ H'=>ze H1 H'/\∃(r:Addr)(o:Option V),σ=[some (V.ref p),some (V.ref q),some (V.ref l),some (V.ref r),o]/\QH H' r (wO a b c (cs.take i))) ⟨.refl _,pc,none,rfl,hc.same g1⟩ (λi σ H' _ iv=>.of (iv.1 _ _ hD1)) ?_ ?_
 ·intro _ _;rintro i v σ H2 hi ⟨g2,r,o,rfl,hr2⟩;obtain⟨t,d,rfl,hd',hd⟩:=hys.2 i v hi;have g02:=g1.trans g2;simp! [];refine⟨p,q,t,r,a,b,d,_,rfl,hp.same g02,hq.same g02,hd.same g02,hr2,λH3 g3=>⟨_,rfl,?_⟩⟩;rw[uA,hd'];show _;refine ite2 (λc1=>?_) (λc1=>?_)
  ·refine⟨g2.trans g3,?_⟩;rw[show(some d).toList=[d] from rfl,zdc,if_pos c1];exact hd.same (g02.trans g3)
  ·refine⟨g2.trans g3,?_⟩;rw[show(some d).toList=[d] from rfl,zdc,if_neg c1];exact hr2.same g3
 ·rintro σ H2 ⟨g2,r,o,rfl,hr2⟩;simp! [];rw[pV (by rw[←hys.1];exact pG _)] at hr2
  exact k r H2 (g1.trans g2) hr2
noncomputable def z3:Q3:=⟨0,0,1⟩
variable{α:Type}
noncomputable def rot(r:List α)(i:Nat):List α:=r.drop i++r.take i
noncomputable def nx(r:List Q3)(i:Nat):Q3:=r.getD (i%r.length) z3
theorem jK(r:List α)(i:Nat):(rot r i).length=r.length:=by
 unfold rot;rw[pK,uK,uI];lia
theorem Zc{r:List α}{i j:Nat}(hi:i<r.length)(hj:j<r.length):(rot r i)[j]?=r[(i+j)%r.length]?:=by
 unfold rot
 by_cases c:i+j<r.length
 ·rw[uX (by rw[uK];omega),gf,gL c]
 ·rw[uJ (by rw[uK];lia),uK,Nat.mod_eq_sub_mod (by lia),gL (by omega),AM (by omega)]
  congr 1
  lia
def rot_mem{r:List α}{i:Nat}{x:α}:x∈rot r i↔x∈r:=by
 unfold rot;rw[pd,or_comm,←pd,Qk]
theorem jf{r:List Q3}{i:Nat}(hi:i<r.length)(j:Nat):nx (rot r i) j=nx r (i+j):=by
 unfold nx;rw[jK,pD,Zc hi (BG _ (by omega)),pD,Nat.add_mod_mod]
def xg{r:List Q3}{i:Nat}(hi:i<r.length):nx r i=r[i]:=by
 unfold nx;rw[gL hi,pD,pJ hi];rfl
def YZ{r:List Q3}{i:Nat}(hi:i<r.length):r[i]?=some (nx r i):=by rw[xg hi,pJ hi]
def vT(r:List Q3)(i:Nat):nx r (i%r.length)=nx r i:=by
 unfold nx;rw[Nat.mod_mod]
def Ye(r:List Q3)(i:Nat):nx r (r.length+i)=nx r i:=by
 unfold nx;rw[Nat.add_mod_left]
def Xx{r:List Q3}(h:0<r.length)(i:Nat):nx r i∈r:=by
 rw[←vT,xg (BG _ h)];exact UJ _
def zcx{r:List Q3}(nd:r.Nodup){i j:Nat}(hi:i<r.length)(hj:j<r.length)(h:nx r i=nx r j):i=j:=by
 rw[xg hi,xg hj] at h;exact(BJ nd).mp h
noncomputable def sds(r:List Q3):List (Q3×Q3):=(pP r.length).map λi=>(nx r i,nx r (i+1))
def JA{r:List Q3}{e:Q3×Q3}:e∈sds r↔∃i,i<r.length/\e=(nx r i,nx r (i+1)):=by
 unfold sds;rw[pL];exact⟨λ⟨i,h,e⟩=>⟨i,pQ.mp h,e.symm⟩,λ⟨i,h,e⟩=>⟨i,pQ.mpr h,e.symm⟩⟩
def j5{r:List Q3}(h:0<r.length)(i:Nat):(nx r i,nx r (i+1))∈sds r:=by
 refine JA.mpr ⟨i%r.length,BG _ h,?_⟩;rw[vT,←vT r (i+1),←vT r (i%r.length+1),Ge]
theorem sds_rot{r:List Q3}{i:Nat}(hi:i<r.length){e:Q3×Q3}:e∈sds (rot r i)↔e∈sds r:=by
 constructor
 ·intro h;obtain⟨j,hj,rfl⟩:=JA.mp h;rw[jf hi,jf hi,←AO];exact j5 (by lia) _
 ·intro h;obtain⟨j,hj,rfl⟩:=JA.mp h;have z:=j5 (r:=rot r i) (by rw[jK];lia) (r.length-i+j)
  rw[jf hi,jf hi,show i+(r.length-i+j)=r.length+j by lia,show i+(r.length-i+j+1)=r.length+(j+1) by lia,Ye,Ye] at z
  exact z
noncomputable def leav(ss:List (Q3×Q3))(p:Q3):List Q3:=(ss.filter λe=>decide (e.1=p)).map Hc
def jF(ss:List (Q3×Q3))(e:Q3×Q3)(p:Q3):leav (ss++[e]) p=leav ss p++if e.1=p then[e.2] else[]:=by
 unfold leav;rw[uZ,uF]
 congr 1
 by_cases c:e.1=p
 ·rw[if_pos c,QX,if_pos (decide_eq_true c)];rfl
 ·rw[if_neg c,QX,if_neg (λz=>c (of_decide_eq_true z))];rfl
def VM{ss:List (Q3×Q3)}{p q:Q3}:q∈leav ss p↔(p,q)∈ss:=by
 unfold leav;rw[pL]
 constructor
 ·rintro⟨e,he,rfl⟩;obtain⟨h1,h2⟩:=pg.mp he;rw[←of_decide_eq_true h2];exact h1
 ·intro h;exact⟨(p,q),pg.mpr ⟨h,decide_eq_true rfl⟩,rfl⟩
def ZQ(ss:List (Q3×Q3))(p:Q3):(leav ss p).length<=ss.length:=by
 unfold leav;rw[pC];exact Qm _ _
def xm(q r:List Q3):Prop:=∃i,i<r.length/\q=rot r i/\∀x,x∈r->bq x (nx q 0)=false
theorem zdy{a b:Q3}:∀(ts:List Q3)(c:Q3),wO a b c ts∈c::ts
 |[],c=>pZ.mpr rfl
 |t::ts,c=>by
  show wO a b (if soon a b t c=true then t else c) ts∈c::t::ts
  have:=zdy (a:=a) (b:=b) ts (if soon a b t c=true then t else c);rcases pS.mp this with z|z
  ·rw[z]
   split
   ·exact pE _ (pj ..)
   ·exact pj ..
  ·exact pE _ (pE _ z)
theorem zh8{a b:Q3}{ts:List Q3}(h:ts≠[]):jQ a b ts∈ts:=by
 cases ts with
 |nil=>exact absurd rfl h
 |cons t ts=>exact zdy ts t
noncomputable def suc(ss:List (Q3×Q3))(e:Q3×Q3):Q3×Q3:=(e.2,jQ e.2 e.1 (leav ss e.2))
structure Fen(ss:List (Q3×Q3)):Prop where
 nd:ss.Nodup
 ne:∀e,e∈ss->e.1≠e.2
 rv:∀e,e∈ss->¬(e.2,e.1)∈ss
 out:∀e,e∈ss->leav ss e.2≠[]
 inj:∀e e',e∈ss->e'∈ss->suc ss e=suc ss e'->e=e'
noncomputable def itr(ss:List (Q3×Q3))(e:Q3×Q3):Nat->Q3×Q3
 |0=>e
 |n+1=>suc ss (itr ss e n)
section
variable{ss:List (Q3×Q3)}{e:Q3×Q3}
def Fen.suc(F:Fen ss)(he:e∈ss):Mine.suc ss e∈ss:=VM.mp (zh8 (F.out e he))
theorem Fen.itr(F:Fen ss)(he:e∈ss):∀n,Mine.itr ss e n∈ss
 |0=>he
 |n+1=>F.suc (F.itr he n)
theorem Fen.back(F:Fen ss)(he:e∈ss)(d:Nat):∀i,Mine.itr ss e i=Mine.itr ss e (i+d)->e=Mine.itr ss e d
 |0,h=>by rw[AJ] at h;exact h
 |i+1,h=>by
  rw[Nat.add_right_comm] at h;exact F.back he d i (F.inj _ _ (F.itr he _) (F.itr he _) h)
theorem vV{α:Type}[DecidableEq α]:∀(F os:List α),F.Nodup->(∀q,q∈F->q∈os)->F.length<=os.length
 |[],os,_,_=>uL _
 |a::F,os,nd,h=>by
  obtain⟨h1,h2⟩:=US.mp nd;have ha:=h a (by simp)
  have:=vV F (os.erase a) h2 λq hq=>(List.mem_erase_of_ne (λz=>h1 (by rw[←z];exact hq))).mpr (h q (pE _ hq))
  rw[List.length_erase_of_mem ha] at this;have:=List.length_pos_of_mem ha;rw[uN];lia
theorem Fen.orb(F:Fen ss)(he:e∈ss){t:Nat}(no:∀j,0<j->j<=t->Mine.itr ss e j≠e):((pP (t+1)).map (Mine.itr ss e)).Nodup:=by
 rw[pN,QM];refine List.pairwise_lt_range.imp_of_mem λ{i j} hi hj h z=>?_;have hj':=pQ.mp hj;refine no (j-i) (by lia) (by omega) (F.back he (j-i) i ?_).symm
 rw[show i+(j-i)=j by lia]
 exact z
theorem Fen.few(F:Fen ss)(he:e∈ss){t:Nat}(no:∀j,0<j->j<=t->Mine.itr ss e j≠e):t<ss.length:=by
 have:=vV _ ss (F.orb he no) λq hq=>by
  obtain⟨i,_,rfl⟩:=pL.mp hq;exact F.itr he i
 rw[pC,uS] at this;lia
end
noncomputable def psd(w:List Q3):List (Q3×Q3):=(pP (w.length-1)).map λi=>(nx w i,nx w (i+1))
theorem zct{w:List Q3}(h:0<w.length):sds w=psd w++[(nx w (w.length-1),nx w 0)]:=by
 unfold sds psd;have e:w.length=(w.length-1)+1:=by lia
 have e2:nx w (w.length-1+1)=nx w 0:=by rw[←e];exact Ye w 0
 conv=>lhs;rw[e]
 rw[QQ,uF,pR,QF,e2]
theorem Yg{w:List Q3}{p:Q3}{i:Nat}(h:i<w.length):nx (w++[p]) i=nx w i:=by
 rw[xg (by rw[pK];lia),xg h,List.getElem_append_left h]
theorem Wh{w:List Q3}{p:Q3}:nx (w++[p]) w.length=p:=by
 rw[xg (by rw[pK,uz];lia),List.getElem_append_right (pG _)]
 simp
theorem qG{w:List Q3}{i j:Nat}(hi:i<w.length)(hj:j<=i):nx (w.take (i+1)) j=nx w j:=by
 rw[xg (by rw[uI];lia),xg (by lia),List.getElem_take]
theorem Y8{w:List Q3}{i j:Nat}(h:i+j<w.length):nx (w.drop i) j=nx w (i+j):=by
 rw[xg (by rw[uK];lia),xg h,List.getElem_drop]
theorem zhj{w:List Q3}{p:Q3}(h:0<w.length):psd (w++[p])=psd w++[(nx w (w.length-1),p)]:=by
 unfold psd;rw[pK,uz,Aj];have e:w.length=(w.length-1)+1:=by lia
 conv=>lhs;rw[e]
 rw[QQ,uF,pR,QF,Yg (by lia),show w.length-1+1=w.length by lia,Wh]
 congr 1
 refine Qx λi hi=>?_;have:=pQ.mp hi;rw[Yg (by lia),Yg (by lia)]
theorem psd_cut{w:List Q3}{i:Nat}(h:i<w.length):psd w=psd (w.take (i+1))++psd (w.drop i):=by
 unfold psd;rw[uI,uK,hV (by lia),Aj,show w.length-1=i+(w.length-i-1) by lia,List.range_add,uF,gM]
 congr 1
 ·refine Qx λj hj=>?_;have:=pQ.mp hj;rw[qG h (by omega),qG h (by lia)]
 ·refine Qx λj hj=>?_;have:=pQ.mp hj;show(nx w (i+j),nx w (i+j+1))=_;rw[Y8 (by omega),Y8 (by omega),AO]
noncomputable def wyF(ss:List (Q3×Q3))(e:Q3×Q3):Nat->List Q3×List (List Q3)
 |0=>([e.1],[])
 |t+1=>if(itr ss e t).2∈(wyF ss e t).1 then((wyF ss e t).1.take ((wyF ss e t).1.idxOf (itr ss e t).2+1),(wyF ss e t).2++[(wyF ss e t).1.drop ((wyF ss e t).1.idxOf (itr ss e t).2)]) else((wyF ss e t).1++[(itr ss e t).2],(wyF ss e t).2)
structure Way(ss:List (Q3×Q3))(e:Q3×Q3)(t:Nat)(w:List Q3)(rs:List (List Q3)):Prop where
 pos:0<w.length
 nd:w.Nodup
 hd:nx w 0=e.1
 lst:nx w (w.length-1)=(itr ss e t).1
 rg:∀q,q∈rs->q.Nodup/\2<=q.length
 pm:(rs.flatMap sds++psd w).Perm ((pP t).map (itr ss e))
 no:∀j,0<j->j<=t->itr ss e j≠e
 fn:wyF ss e t=(w,rs)
section
variable{ss:List (Q3×Q3)}{e:Q3×Q3}{t:Nat}{w:List Q3}{rs:List (List Q3)}
theorem Way.start:Way ss e 0 [e.1] []:=⟨Nat.zero_lt_one,gP _ _,rfl,rfl,(λq hq=>by cases hq),.refl _,(λj h1 h2=>by lia),rfl⟩
theorem JS(no:∀j,0<j->j<=t->itr ss e j≠e)(hn:suc ss (itr ss e t)≠e):∀j,0<j->j<=t+1->itr ss e j≠e:=λj h1 h2=>by
 by_cases c:j<=t
 ·exact no j h1 c
 ·rw[show j=t+1 by lia]
  exact hn
theorem Way.push(h:Way ss e t w rs)(hn:suc ss (itr ss e t)≠e)(hp:¬(itr ss e t).2∈w):Way ss e (t+1) (w++[(itr ss e t).2]) rs:=by
 have pos:=h.pos;refine⟨by rw[pK];lia,UB.mpr ⟨h.nd,gP _ _,λa ha b hb z=>hp (by rw[pZ.mp hb] at z;rw[←z];exact ha)⟩,by rw[Yg pos];exact h.hd,?_,h.rg,?_,JS h.no hn,by show(if _ then _ else _)=_;rw[h.fn,if_neg hp]⟩
 ·rw[pK,uz,Aj,Wh];rfl
 ·rw[zhj pos,←uH,h.lst,QQ,uF];exact h.pm.append_right _
theorem Way.cut(F:Fen ss)(he:e∈ss)(h:Way ss e t w rs){i:Nat}(hi:i<w.length)(hp:nx w i=(itr ss e t).2)(hn:suc ss (itr ss e t)≠e):Way ss e (t+1) (w.take (i+1)) (rs++[w.drop i]):=by
 have pos:=h.pos;have ne:=F.ne _ (F.itr he t);have l2:i+1<w.length:=by
  rcases AH (i+1) w.length with z|z
  ·exact z
  ·exfalso
   rw[←h.lst,←hp,show i=w.length-1 by lia] at ne
   exact ne rfl
 have ld:(w.drop i).length=w.length-i:=uK ..;refine⟨by rw[uI];lia,h.nd.sublist (Fc _ _),by rw[qG hi (by lia)];exact h.hd,?_,λq hq=>?_,?_,JS h.no hn,?_⟩
 ·rw[uI,hV (by lia),Aj,qG hi (pG _),hp]
  rfl
 ·rcases pd.mp hq with hq|hq
  ·exact h.rg q hq
  ·rw[pZ.mp hq];exact⟨h.nd.sublist (List.drop_sublist _ _),by lia⟩
 ·rw[gT,Qt,GT,uR,zct (w:=w.drop i) (by lia),ld,Y8 (by lia),Y8 (by lia),show i+(w.length-i-1)=w.length-1 by lia,Fp,h.lst,hp,QQ,uF,pR,QF]
  have pm:=h.pm;rw[psd_cut hi] at pm;show(rs.flatMap sds++(psd (w.drop i)++[itr ss e t])++psd (w.take (i+1))).Perm _;refine Cg ?_ (pm.append_right [itr ss e t]);rw[uH,uH (rs.flatMap sds)];refine Qj _ ?_;rw[uH (psd (w.take (i+1)))];exact UL
 ·have ix:w.idxOf (itr ss e t).2=i:=by
   rw[←hp,xg hi];exact h.nd.idxOf_getElem i hi
  show(if _ then _ else _)=_
  rw[h.fn,if_pos (by rw[←hp,xg hi];exact UJ _),ix]
theorem Way.done(F:Fen ss)(he:e∈ss)(h:Way ss e t w rs)(hn:suc ss (itr ss e t)=e):(∀q,q∈rs++[w]->q.Nodup/\2<=q.length)/\((rs++[w]).flatMap sds).Perm ((pP (t+1)).map (itr ss e)):=by
 have pos:=h.pos;have ne:=F.ne _ (F.itr he t);have e1:(itr ss e t).2=e.1:=congrArg CB hn;refine⟨λq hq=>?_,?_⟩
 ·rcases pd.mp hq with hq|hq
  ·exact h.rg q hq
  ·rw[pZ.mp hq];refine⟨h.nd,?_⟩;rcases AH 1 w.length with z|z
   ·exact z
   ·exfalso
    have l:=h.lst;rw[show w.length-1=0 by lia,h.hd,←e1] at l
    exact ne l.symm
 ·rw[gT,Qt,GT,uR,zct pos,h.lst,h.hd,←e1,←uH,QQ,uF];exact h.pm.append_right _
end
theorem ZP{xs:List V}{m:Nat}(h:m<=xs.length):xH xs (some (m:Int)) none=xs.drop m:=by
 unfold xH;rw[HT.sIx_nat,HT.sIx_none,hV h,pV (by rw[uK];lia)]
def zb3{xs:List V}{m:Nat}(h:m<=xs.length):xH xs none (some (m:Int))=xs.take m:=by
 unfold xH;rw[HT.sIx_nat,HT.sIx_none,Bo,Fo,hV h]
inductive zbb (vs:List V) (H:Hp) (Q:VK) (E:XK):Prop
 |mk (l:Addr) (ys:List V) (r:List Q3) (_:vs=[.ref l]) (_:H l=some (.lst ys)) (_:LR QH H ys r) (_:0<r.length) (_:r.length<=200) (_:∀D zs q H',H D=none->ze H H'->H' D=some (.lst zs)->LR QH H' zs q->xm q r->Q (.ref D) H'):zbb vs H Q E
def lr_pq{H:Hp}{ys:List V}{ps:List Q3}(h:LR QH H ys ps){p:Q3}(hp:p∈ps):PQ 700 p:=by
 obtain⟨j,hj⟩:=Ql.mp hp;have hj':j<ys.length:=by rw[h.1];exact(pF.mp hj).1
 obtain⟨b,r,_,e2,hr⟩:=h.at hj';rw[hj] at e2
 cases e2;exact hr.2
theorem zj4(T:Txt K mg ad fd):zv P w K mg base CX0 2 (ad 23) (fd 23) ["ring"] zbb:=by
 refine T.from_least.fn.ok XB (λvs H Q E h=>?_) (λcdv A outer s H vs Q E hr h=>?_)
 ·obtain⟨l,ys,r,rfl,_⟩:=h;rfl
 obtain⟨l,ys,r,rfl,hl,hy,n0,n10,k⟩:=h;refine⟨_,
  (pss3
   (zk 1 XB.nd za)
   (yv uE rfl (wG rfl T.b_range (pa1 (ya y7 rfl T.b_len yG (pa1 (pm 0) zb)) yw)) (zD 2 XB.nd) (zp (zL (xc (zu (zac T) T.before hr (pa2 (zd yg (pm 0) (pm 2)) zY (zd yg (pm 0) (pm 1)) zY))) (zp (zk 1 XB.nd (pm 2))) zR)))
   (zq (zc J9 (vJ vG (pm 0) (vw (pm 1)) vD) (vJ vG (pm 0) vD (vw (pm 1))))))
  ,?_⟩
 dsimp! [L2.start]
 have pq:∀x,x∈r->PQ 700 x:=λx hx=>lr_pq hy hx;simp! [];refine yo ?_;simp! [wv,hl];refine⟨by lia,by have:=hy.1;lia,?_⟩
 rw[show((ys.length:Int)).toNat=ys.length by lia]
 refine vH (n:=ys.length) (λi σ H'=>H'=H/\∃(m:Nat)(o:Option V),σ=[some (V.ref l),some (V.int m),o]/\m<r.length/\∀j,j<i->bq (nx r j) (nx r m)=false) ⟨rfl,0,none,rfl,n0,λj hj=>by lia⟩ ?_ ?_
 ·intro _ _;rintro i σ H2 hi ⟨rfl,m,o,rfl,hm,hj⟩;have hir:i<r.length:=by rw[←hy.1];exact hi
  have hmy:m<ys.length:=by rw[hy.1];exact hm
  obtain⟨pi,qi,ei,fi,hqi⟩:=hy.at hi;obtain⟨pm,qm,em,fm,hqm⟩:=hy.at hmy;rw[YZ hir] at fi;rw[YZ hm] at fm
  cases fi
  cases fm;have ai:atI ys (i:Int)=some (V.ref pi):=yl ei;have am:atI ys (m:Int)=some (V.ref pm):=yl em;simp! [QY,hl,ai,am];refine⟨pi,pm,_,_,_,_,_,_,rfl,hqi.tb,hqm.tb,_,rfl,ite2 (λc=>?_) λc=>?_⟩
  ·refine⟨rfl,i,rfl,hir,λj hji=>?_⟩;rcases AH j i with z|z
   ·cases e:bq (nx r j) (nx r i) with
    |false=>rfl
    |true=>
     have:=zi8 (pq _ (Xx n0 j)).pos (pq _ (Xx n0 i)).pos (pq _ (Xx n0 m)).pos e c;have h0:=hj j z;unfold bq at h0;rw[this] at h0
     cases h0
   ·rw[show j=i by lia]
    exact bef_irr _ _ _
  ·refine⟨rfl,m,rfl,hm,λj hji=>?_⟩;rcases AH j i with z|z
   ·exact hj j z
   ·rw[show j=i by lia]
    exact CC.mpr c
 ·rintro σ H2 ⟨rfl,m,o,rfl,hm,hj⟩;have hmy:m<=ys.length:=by rw[hy.1];lia
  simp! [hl,ZP hmy];intro p1 hp1;have g3:=zg hp1 (HO.lst (ys.drop m));have h31:upd H2 p1 (HO.lst (ys.drop m)) p1=some (HO.lst (ys.drop m)):=upd_same;have hr3:=g3 _ _ hl;generalize upd H2 p1 (HO.lst (ys.drop m))=H3 at*;simp! [hr3,zb3 hmy];intro p2 hq2;have g4:=zg hq2 (HO.lst (ys.take m));have h42:upd H3 p2 (HO.lst (ys.take m)) p2=some (HO.lst (ys.take m)):=upd_same;have h41:=g4 _ _ h31;generalize upd H3 p2 (HO.lst (ys.take m))=H4 at*;have ly:=hy.1;refine⟨p1,p2,_,_,rfl,rfl,h41,h42,UE (small1000 ?_),λp3 hp3=>?_⟩
  ·rw[uK,uI];lia
  have g5:=zg hp3 (HO.lst (ys.drop m++ys.take m));have g25:=g3.trans (g4.trans g5);refine k p3 _ (rot r m) _ ((g3.trans g4).free hp3) g25 upd_same (((hy.drop m).app (hy.take m)).same g25) ⟨m,hm,rfl,λx hx=>?_⟩;have e0:nx (rot r m) 0=nx r m:=jf hm 0;rw[e0];obtain⟨j,hj',rfl⟩:=UC.mp hx;rw[←xg hj'];exact hj j (by lia)
def S2H(H:Hp)(p:Addr)(e:Q3×Q3):Prop:=∃c d,H p=some (.tup [.ref c,.ref d])/\QH H c e.1/\QH H d e.2
def wJ:∀(H H':Hp)(p:Addr)(e:Q3×Q3),zJ H H'->S2H H p e->S2H H' p e:=λ_ _ _ _ g⟨c,d,h1,h2,h3⟩=>⟨c,d,g _ _ h1,yi _ _ _ _ g h2,yi _ _ _ _ g h3⟩
def qL{H:Hp}{d:Addr}{kvs:List (List Key×V)}(h:H d=some (.dT kvs)):IsD H d:=.inr ⟨kvs,.inl h⟩
structure Lv(H0 H:Hp)(d:Addr)(kvs:List (List Key×V))(ss:List (Q3×Q3)):Prop where
 same:ze H0 H
 new:H0 d=none
 at_:H d=some (.dT kvs)
 len:kvs.length<=ss.length
 ent:∀p v,zr kvs (kQ p)=some v->∃a zs,v=.ref a/\H0 a=none/\H a=some (.lst zs)/\LR QH H zs (leav ss p)
 non:∀p,zr kvs (kQ p)=none->leav ss p=[]
 dis:∀p p' v,zr kvs (kQ p)=some v->zr kvs (kQ p')=some v->p=p'
def Lv.mono{H0 H H':Hp}{d:Addr}{kvs:List (List Key×V)}{ss:List (Q3×Q3)}(h:Lv H0 H d kvs ss)(g:ze H H'):Lv H0 H' d kvs ss:=
 ⟨h.same.trans g,h.new,g _ _ h.at_,h.len,λk v e=>by
  obtain⟨a,ys,e1,e2,e3,e4⟩:=h.ent k v e;exact⟨a,ys,e1,e2,g _ _ e3,e4.same g⟩,h.non,h.dis⟩
theorem Lv.app{H0 H:Hp}{d a t b:Addr}{kvs:List (List Key×V)}{ss:List (Q3×Q3)}{p q:Q3}{Qc:VK}(h:Lv H0 H d kvs ss)(hm:ss.length<500)(ha:QH H a p)(hb:QH H b q)(ht:H t=none)
  (k:∀(l:Addr)(H1:Hp)(zs:List V) kvs',H1 l=some (.lst zs)->zs.length<sizeLine->Lv H0 (upd H1 l (.lst (zs++[.ref b]))) d kvs' (ss++[(p,q)])->Qc (.ref l) H1):rSD d (.ref a) (.ref t) (upd H t (.lst [])) Qc:=by
 have g:=zg ht (HO.lst []);have hg:=h.mono g;refine⟨kvs,kQ p,a,hg.at_,rfl,g _ _ ha.1,small1000 (by have:=h.len;lia),λv hv=>?_,λhv=>?_⟩
 ·obtain⟨l,ys,rfl,e2,e3,e4⟩:=hg.ent _ _ hv;have ly:ys.length<=ss.length:=by rw[e4.1];exact ZQ _ _
  refine k l _ ys kvs e3 (small1000 (by lia)) ⟨zW hg.same e2,h.new,?_,by have:=h.len;rw[pK];lia,λp' v' hv'=>?_,λp' hv'=>?_,h.dis⟩
  ·rw[zh (λz=>by rw[←z,hg.at_] at e3;cases e3)]
   exact hg.at_
  ·obtain⟨l',ys',rfl,f2,f3,f4⟩:=hg.ent _ _ hv'
   by_cases el:l'=l
   ·subst el;rw[e3] at f3
    cases f3;have pp:=h.dis _ _ _ hv' hv;subst pp;refine⟨l',_,rfl,f2,upd_same,?_⟩;rw[jF,if_pos rfl];exact(e4.snoc (hb.same g)).ts yi (yS e3)
   ·refine⟨l',ys',rfl,f2,by rw[zh el];exact f3,?_⟩
    rw[jF,if_neg (λz=>el (by
     have z':p=p':=z;rw[←z'] at hv';rw[hv] at hv'
     cases hv';rfl)),uR]
    exact f4.ts yi (yS e3)
  ·rw[jF,h.non _ hv',if_neg (λz=>by
    have z':p=p':=z;rw[z',hv'] at hv
    cases hv)]
   rfl
 ·have td:t≠d:=λz=>by rw[z,h.at_] at ht;cases ht
  have h0t:=h.same.free ht;have up:∀b' o,b'≠d->H b'=some o->upd (upd (upd H t (.lst [])) d (.dT (putK kvs (kQ p) (.ref t)))) t (.lst [.ref b]) b'=some o:=λb' o nb hb'=>by
   have nt:b'≠t:=λz=>by rw[z,ht] at hb';cases hb'
   rw[zh nt,zh nb,zh nt];exact hb'
  have ts:zJ H (upd (upd (upd H t (.lst [])) d (.dT (putK kvs (kQ p) (.ref t)))) t (.lst [.ref b])):=λb' xs hb'=>up b' _ (λz=>by rw[z,h.at_] at hb';cases hb') hb'
  have nt:∀p',zr kvs (kQ p')≠some (.ref t):=λp' z=>by
   obtain⟨l',ys',e,f2,f3,f4⟩:=h.ent _ _ z
   cases e;rw[ht] at f3
   cases f3
  refine k t _ [] (putK kvs (kQ p) (.ref t)) (by rw[zh td];exact upd_same) (small1000 (by simp)) ⟨λb' o hb'=>up b' o (λz=>by rw[z,h.new] at hb';cases hb') (h.same _ _ hb'),h.new,by rw[zh td.symm];exact upd_same,pz (vk _ _ _) (by have:=h.len;rw[pK];exact gK this),λp' v' hv'=>?_,λp' hv'=>?_,λp' p2 v' h1 h2=>?_⟩
  ·rw[vf] at hv'
   by_cases ek:kQ p'=kQ p
   ·rw[if_pos ek] at hv'
    cases hv';have e':=wP ek;subst e';refine⟨t,[.ref b],rfl,h0t,upd_same,?_⟩;rw[jF,if_pos rfl,h.non _ hv];exact LR.one (R:=QH) (yi _ _ _ _ ts hb)
   ·rw[if_neg ek] at hv';obtain⟨l',ys',rfl,f2,f3,f4⟩:=h.ent _ _ hv';refine⟨l',ys',rfl,f2,up _ _ (λz=>by rw[z,h.at_] at f3;cases f3) f3,?_⟩
    rw[jF,if_neg (λz=>ek (by have z':p=p':=z;rw[z'])),uR]
    exact f4.ts yi ts
  ·rw[vf] at hv'
   by_cases ek:kQ p'=kQ p
   ·rw[if_pos ek] at hv'
    cases hv'
   ·rw[if_neg ek] at hv';rw[jF,h.non _ hv',if_neg (λz=>ek (by have z':p=p':=z;rw[z']))]
    rfl
  ·rw[vf] at h1 h2
   by_cases e1:kQ p'=kQ p
   ·by_cases e2:kQ p2=kQ p
    ·rw[wP e1,wP e2]
    ·rw[if_pos e1] at h1;rw[if_neg e2] at h2
     cases h1;exact absurd h2 (nt _)
   ·by_cases e2:kQ p2=kQ p
    ·rw[if_neg e1] at h1;rw[if_pos e2] at h2
     cases h2;exact absurd h1 (nt _)
    ·rw[if_neg e1] at h1;rw[if_neg e2] at h2;exact h.dis _ _ _ h1 h2
inductive zao (vs:List V) (H:Hp) (Q:VK) (E:XK):Prop
 |mk (l:Addr) (ys:List V) (ss:List (Q3×Q3)) (_:vs=[.ref l]) (_:H l=some (.lst ys)) (_:ys.length<=200) (_:LR S2H H ys ss) (_:∀d kvs H',H d=none->Lv H H' d kvs ss->Q (.ref d) H'):zao vs H Q E
theorem zfs(T:Txt K mg ad fd):zv P w K mg base CX0 1 (ad 19) (fd 19) ["land"] zao:=by
 refine T.leaving_of.fn.ok XL (λvs H Q E h=>?_) (λcdv A outer s H vs Q E hr h=>?_)
 ·obtain⟨l,ys,ss,rfl,_⟩:=h;rfl
 obtain⟨l,ys,ss,rfl,hl,hn,hs,k⟩:=h;refine⟨_,
  (pss3
   (zk 1 XL.nd Xz)
   (yv uE rfl (yd (pm 0)) (vU (n:=2) rfl (xt (zD 2 XL.nd) (xt (zD 3 XL.nd) vI))) (zp (xD (xM uQ uo uq xU (zdo (xj hr) (pm 1) (pm 2) (yN yM) ⟨rfl,rfl,rfl,rfl⟩) (pa1 (pm 3) zb)))))
   (zq (pm 1)))
  ,?_⟩
 dsimp! [L2.start]
 simp! [XD];intro d hd;have gd:=zg hd (HO.dT []);refine yo ?_;simp! [zX];refine⟨⟨_,.of (gd _ _ hl)⟩,?_⟩;refine xz (K:=K) (a:=l) (xs:=ys) (λi σ H'=>∃(kvs:List (List Key×V))(o1 o2:Option V),σ=[some (V.ref l),some (V.ref d),o1,o2]/\Lv H H' d kvs (ss.take i)) ⟨[],none,none,rfl,gd,hd,upd_same,uL _,λp v z=>(by cases z),λp z=>rfl,λp p' v z=>(by cases z)⟩ (λi σ H' _ iv=>.of (by obtain⟨_,_,_,_,lv⟩:=iv;exact lv.same _ _ hl)) ?_ ?_
 ·intro _ _;rintro i v σ H2 hi ⟨kvs,o1,o2,rfl,lv⟩;obtain⟨p,e,rfl,he',c,c',h1,h2,h3⟩:=hs.2 i v hi;have hi':=(pF.mp hi).1;have h1':=lv.same _ _ h1;simp! [tDSd,h1'];refine⟨qL lv.at_,λt ht=>?_⟩;refine lv.app (p:=e.1) (q:=e.2) (by rw[uI];lia) (h2.same lv.same) (h3.same lv.same) ht λl' H3 zs kvs' e1 e2 lv'=>?_
  rw[uA,he'];exact⟨xB e1,l',rfl,zs,e1,e2,kvs',lv'⟩
 ·rintro σ H2 ⟨kvs,o1,o2,rfl,lv⟩;simp! [];rw[pV (Qi hs.1.symm)] at lv;exact k d kvs H2 hd lv
def RgQ(H:Hp)(p:Addr)(r:List Q3):Prop:=∃zs,H p=some (.lst zs)/\LR QH H zs r
def RgQ.same{H H':Hp}{p:Addr}{r:List Q3}(h:RgQ H p r)(g:ze H H'):RgQ H' p r:=by
 obtain⟨zs,h1,h2⟩:=h;exact⟨zs,g _ _ h1,h2.same g⟩
def RgQ.put{H:Hp}{p R:Addr}{r:List Q3}{ys:List V}{o:HO}(h:RgQ H p r)(ne:p≠R)(hR:H R=some (.lst ys)):RgQ (upd H R o) p r:=by
 obtain⟨zs,h1,h2⟩:=h;exact⟨zs,by rw[zh ne];exact h1,h2.ts yi (yS hR)⟩
def LR.imp{R R':Hp->Addr->α->Prop}{H H':Hp}{ys:List V}{as:List α}(h:LR R H ys as)(k:∀p a,R H p a->R' H' p a):LR R' H' ys as:=⟨h.1,λj v z=>by
 obtain⟨p,a,e,f,r⟩:=h.2 j v z;exact⟨p,a,e,f,k _ _ r⟩⟩
def je{H H':Hp}{ys:List V}{rs:List (List Q3)}(h:LR RgQ H ys rs)(g:ze H H'):LR RgQ H' ys rs:=h.imp λ_ _ t=>t.same g
theorem lr_ord{R:Hp->Addr->α->Prop}{H:Hp}{ys:List V}{fs:List α}{p:List Nat}(z0:α)(h:LR R H ys fs)(or:p.Perm (pP fs.length)):LR R H (p.map λi=>ys.getD i .non) (p.map λi=>fs.getD i z0):=by
 refine⟨by rw[pC,pC],λj v hv=>?_⟩
 rw[pT] at hv
 cases e:p[j]? with
 |none=>rw[e] at hv;cases hv
 |some i=>
  rw[e] at hv;have ev:ys.getD i .non=v:=by simpa using hv
  have hi:i<fs.length:=pQ.mp (or.mem_iff.mp (pX e));obtain⟨q1,f,e1,e2,e3⟩:=h.at (j:=i) (by rw[h.1];exact hi)
  rw[pD,e1] at ev;refine⟨q1,f,ev.symm,?_,e3⟩;rw[pT,e,Ug,pD,e2];rfl
theorem zhk{g:Int}{a b:Q3}(ha:PQ 700 a)(hb:PQ 700 b)(ga:a.w<=g)(gb:b.w<=g)(e:kyQ g a=kyQ g b):a=b:=by
 cases h1:bq a b with
 |true=>
  have:=ky_lt ha.pos hb.pos ga gb h1;rw[e,sto2.irr] at this
  cases this
 |false=>
  cases h2:bq b a with
  |true=>
   have:=ky_lt hb.pos ha.pos gb ga h2;rw[e,sto2.irr] at this
   cases this
  |false=>exact pq_tri ha hb h1 h2
theorem zaf{g:Int}:∀{a b:List Q3},(∀p,p∈a->PQ 700 p/\p.w<=g)->(∀p,p∈b->PQ 700 p/\p.w<=g)->a.map (kyQ g)=b.map (kyQ g)->a=b
 |[],[],_,_,_=>rfl
 |[],_::_,_,_,e=>by cases e
 |_::_,[],_,_,e=>by cases e
 |x::xs,y::ys,ha,hb,e=>by
  rw[pR,pR] at e
  injection e with e1 e2
  have h1:=ha x (by simp)
  have h2:=hb y (by simp)
  rw[zhk h1.1 h2.1 h1.2 h2.2 e1,zaf (λp hp=>ha p (pE _ hp)) (λp hp=>hb p (pE _ hp)) e2]
def P2H(H:Hp)(p:Addr)(a:Int×Int):Prop:=H p=some (.tup [.int a.1,.int a.2])
def xC:∀(H H':Hp)(p:Addr)(a:Int×Int),zJ H H'->P2H H p a->P2H H' p a:=λ_ _ _ _ g h=>g _ _ h
variable{ks:List (Int×Int)}
def lsI_lr{H:Hp}{p:Addr}{qs:List V}(h:H p=some (.lst qs))(r:LR P2H H qs ks):LsI H (.ref p) ks:=by
 refine⟨p,qs,rfl,h,r.1,λj k hk=>?_⟩;obtain⟨b,k',e1,e2,e3⟩:=r.at (j:=j) (by rw[r.1];exact(pF.mp hk).1)
 rw[hk] at e2
 cases e2;exact⟨b,e1,e3⟩
def LsI.same'{H H':Hp}{v:V}(h:LsI H v ks)(g:ze H H'):LsI H' v ks:=by
 obtain⟨q0,qs0,e0,hq0,l0,k0⟩:=h;refine⟨q0,qs0,e0,g _ _ hq0,l0,λj k hk=>?_⟩;obtain⟨b,hb1,hb2⟩:=k0 j k hk;exact⟨b,hb1,g _ _ hb2⟩
def stoL:STO ltL:=⟨Zr,ZF,zc6⟩
noncomputable def X2:Pos:=(lamAt xN).2
noncomputable def qlP:Str:=(PyProof.Rows.envOfC "by_points" (zo xN) 0 0 .none).qual++"<lambda>"
theorem JL{fs:List (List Q3)}(h:∀r,r∈fs->r.length<=191):fs.flatten.length<=191*fs.length:=by
 induction fs with
 |nil=>exact pG _
 |cons r fs ih=>
  rw[Aw,pK,uN];have:=h r (by simp)
  have:=ih λr hr=>h r (pE _ hr);lia
def OrdR(g:Int)(os:List (List Q3)):Prop:=os.Pairwise λa b=>ltL (a.map (kyQ g)) (b.map (kyQ g))=true
inductive zcf (tb:Addr) (lp:Pos) (ql:Str) (vs:List V) (H:Hp) (Q:VK) (E:XK):Prop
 |mk (l:Addr) (ys:List V) (fs:List (List Q3)) (A:Addr->Prop) (_:vs=[.ref l]) (_:H l=some (.lst ys)) (_:ys.length<64) (_:LR (λH1 p r=>A p/\RgQ H1 p r) H ys fs) (_:(∀r,r∈fs->r.length<=191)) (_:fs.Nodup) (_:xh H tb lp ql) (_:∀D zs os g H',H D=none->zE tb H H'->xh H' tb lp ql->H' D=some (.lst zs)->LR (λH1 p r=>A p/\RgQ H1 p r) H' zs os->os.Perm fs->(∀r,r∈fs->∀p,p∈r->PQ 700 p/\p.w<=g)->OrdR g os->Q (.ref D) H'):zcf tb lp ql vs H Q E
theorem zgc(T:Txt K mg ad fd)(hK:K.In base)(hB:base.BuiltinsAt mg (ad 47)):zv P w K mg base CX0 3 (ad 10) (fd 10) ["things"] (zcf (ad 47) X2 qlP):=by
 refine T.by_points_c.ok YA (λvs H Q E h=>?_) (λA outer s H vs Q E hr h=>?_)
 ·obtain⟨l,ys,fs,A,rfl,_⟩:=h;rfl
 obtain⟨l,ys,fs,A,rfl,hl,h64,hpA,h10,nd,lt,k⟩:=h;have hp:LR RgQ H ys fs:=hpA.imp (R':=RgQ) λ_ _ t=>t.2;refine⟨_,
  (pss4
   (zk 1 YA.nd (yN yM))
   (yv uE rfl (yd (pm 0)) (zD 2 YA.nd) (zp (xD (xM uQ Dj Dk ZM (pm 1) (pa1 (pm 2) zb)))))
   (zk 3 YA.nd (zc0 (zj1 T) (hr.mono (by lia)) rfl T.order_keys.mg T.order_keys.fn.kp T.order_keys.bn .nil pass0 (pa1 (pm 1) zb)))
   (zq (zfy (P:=ad 47) (c0:=ad 46) (x:="thing") (y:="keys") (c:=s.heap.objs.size+1) (i0:=3) (zhn (hu80 hr)) hr rfl T.b_sorted (pa1 (pm 0) zb) ⟨rfl,rfl,rfl,rfl,rfl,by decide+kernel,by decide+kernel⟩ rfl rfl rfl rfl rfl rfl (PySem.W.codeHd_of_K hK T.by_points_c.hd) hB (λ_ _ _ _=>rfl) (by intro fa2 c2 A2 s3 H3 hu2;exact(ZU (dsc:=(lamAt xN).1) (N:=["thing","keys"]) (own:=["P"]) (ix:=[1]) rfl rfl rfl ⟨rfl,by decide+kernel,by decide+kernel,by decide+kernel,by decide+kernel⟩ (zgg (K':=K) rfl (pm 0)) (λcl C fp s2 H2 xe=>⟨(zD 0 (show UG (["P","keys"]:List Str) from by decide+kernel)),wI,(qk (by show A2.units+3+1<cLine;lia) (pm 1) (pm 0) λ_ _=>rfl)⟩))))))
  ,?_⟩
 dsimp! [L2.start]
 simp! [];intro D0 hD0;have g0:=zg hD0 (HO.lst []);refine yo ?_;simp! [zX];refine⟨⟨_,.of (g0 _ _ hl)⟩,?_⟩;have lenF:fs.length=ys.length:=hp.1.symm;refine xz (K:=K) (a:=l) (xs:=ys) (λi σ H'=>ze H H'/\∃(zs:List V)(o:Option V),σ=[some (.ref l),some (.ref D0),o,none]/\H' D0=some (.lst zs)/\LR QH H' zs (fs.take i).flatten) ⟨g0,[],none,rfl,upd_same,by rw[Qs];exact .nil⟩ (λi σ H' _ iv=>.of (iv.1 _ _ hl)) ?_ ?_
 ·intro _ _;rintro i v σ H1 hi ⟨g1,zs,o,rfl,hD1,hz⟩;obtain⟨p,f,rfl,hf,us,hq,hu⟩:=hp.2 i v hi;have hq1:=g1 _ _ hq;have hi':=(pF.mp hi).1;have lf:=h10 f (pX hf);have lz:zs.length<=12100:=by
   rw[hz.1];have:=JL (fs:=fs.take i) λr hr=>h10 r (Eu hr);rw[uI] at this;lia
  simp! [Wn,hq1];refine⟨xB hD1,zs,hD1,UE (small10k (by have:=hu.1;lia)),zW g1 hD0,?_⟩
  rw[uA,hf];show LR QH _ _ (fs.take i++[f]).flatten;rw[List.flatten_append,Aw,List.flatten_nil,uR];exact(hz.app (hu.same g1)).ts yi (yS hD1)
 ·rintro σ H1 ⟨g1,zs,o,rfl,hD1,hz⟩;rw[pV (by rw[lenF];exact pG _)] at hz
  simp! [];refine⟨D0,zs,fs.flatten,rfl,hD1,by rw[hz.1];have:=JL h10;lia,hz,λd kvs g qs H2 g2 hd2 gp gm ky _ _ _ _=>?_⟩
  have g12:=g1.trans g2;simp! [Zw];refine⟨ys,g12 _ _ hl,h64,lt.same g12,λc' H3 st3 lt3 hc3=>?_⟩;have lt2:=lt.same g12;have hl3:=st3.lst lt2 (g12 _ _ hl);have hd3:H3 d=some (.dT kvs):=st3 _ _ (lt2.ne hd2 λ_ z=>nomatch z) hd2;have ts3:zJ H2 H3:=λb xs q=>st3.tup lt2 q;have ky3:=ky.ts ts3;have hp3:LR RgQ H3 ys fs:=(je hp g12).imp λp r⟨us,h1,h2⟩=>⟨us,st3.lst lt2 h1,h2.ts yi ts3⟩;have hpA3:LR (λH1 p r=>A p/\RgQ H1 p r) H3 ys fs:=hpA.imp λp r⟨x,t⟩=>⟨x,(by obtain⟨us,h1,h2⟩:=t.same g12;exact⟨us,st3.lst lt2 h1,h2.ts yi ts3⟩)⟩
  refine⟨λi ks H'=>ze H3 H'/\ks.length=i/\∀j,j<i->LsI H' (ks.getD j .non) ((fs.getD j []).map (kyQ g)),⟨⟨.refl _,rfl,λj hj=>by lia⟩,λi ks H' q=>q.1 _ _ hc3,λi ks H' q=>q.2.1,λi ks H4 v hv q=>?_,λks H4 q=>?_⟩⟩
  ·obtain⟨g4,lk,q⟩:=q;obtain⟨p,f,rfl,hf,hpf⟩:=hp3.2 i v hv;obtain⟨us,hq,hu⟩:=hpf.same g4;have hd4:=g4 _ _ hd3;have lf:=h10 f (pX hf);refine y9 ?_;simp! [zX];refine⟨⟨_,.of hq⟩,λD hD=>?_⟩;refine xG (xs:=us) (vB P2H (f.map (kyQ g)) H4 D) (qp hD) (λn qs H' z=>.of (z.1 _ _ hq)) ?_ ?_
   ·rintro n qs H5 x hn hx iv;obtain⟨g5,hD5,lq,hqs⟩:=id iv;obtain⟨a,c,rfl,hc',hc⟩:=hu.2 n x hx;obtain⟨b,e1,h1⟩:=ky3 c (Uq.mpr ⟨f,pX hf,pX hc'⟩);simp! [qT];refine⟨_,by rw[←e1];exact .t (k:=kQ c) (g5 _ _ hd4) (g5 _ _ hc.1),?_⟩
    exact qh xC hD (by have:=hu.1;lia) iv hn (by rw[pT,hc'];rfl) (.refl _) (g5 _ _ (g4 _ _ h1))
   ·rintro qs H5 ⟨g5,hD5,lq,hqs⟩;rw[pV (by rw[pC,hu.1];exact pG _)] at hqs
    refine⟨g4.trans g5,by rw[pK,lk];rfl,λj hj=>?_⟩
    by_cases e:j<i
    ·have ej:(ks++[V.ref D]).getD j .non=ks.getD j .non:=by
      rw[pD,uX (by lia),←pD]
     rw[ej];exact LsI.same' (q j e) g5
    ·have ej:j=i:=by lia
     subst ej;have e3:(ks++[V.ref D]).getD j .non=.ref D:=by
      rw[pD,uJ (by lia),lk,Bw]
      rfl
     have e4:fs.getD j []=f:=by rw[pD,hf];rfl
     rw[e3,e4];exact lsI_lr hD5 hqs
  ·obtain⟨g4,lk,q⟩:=q;refine⟨_,⟨λi=>(fs.getD i []).map (kyQ g),λi hi=>q i (by lia),rfl⟩,λD pp hD or ep=>?_⟩
   have gw:∀r,r∈fs->∀p,p∈r->PQ 700 p/\p.w<=g:=λr hr p hp'=>⟨lr_pq hz (Uq.mpr ⟨r,hr,hp'⟩),gm _ (Uq.mpr ⟨r,hr,hp'⟩)⟩;rw[←lenF] at or ep;have ndk:(fs.map λr=>r.map (kyQ g)).Nodup:=by
    rw[pN,QM];rw[pN] at nd;exact nd.imp_of_mem λ{a b} ha hb ne e=>ne (zaf (gw a ha) (gw b hb) e)
   obtain⟨pm,pw⟩:=zg3 stoL (λr:List Q3=>r.map (kyQ g)) [] ndk or ep;have g5:=zg hD (HO.lst (pp.toList.map λi=>ys.getD i .non));refine k D _ _ g _ (g12.free (?_:H2 D=none)) (λb o nb e=>g5 _ _ (g4 _ _ (st3 _ _ nb (g12 _ _ e)))) ((lt3.same g4).same g5) upd_same ((lr_ord [] hpA3 or).imp λp r t=>⟨t.1,t.2.same (g4.trans g5)⟩) pm gw pw;have h3:=g4.free hD
   cases e:H2 D with
   |none=>rfl
   |some o=>
    by_cases nb:D=(ad 47)
    ·obtain⟨tp,e3,_⟩:=lt3;rw[←nb,h3] at e3
     cases e3
    ·rw[st3 _ _ nb e] at h3
     cases h3
def Zq(T:Txt K mg ad fd):zv P w K mg base CX0 1 (ad 25) (fd 25) ["_law_one","_law_other"] Xj:=by
 refine T.law_divisor.fn.ok zdq (λvs H Q E h=>?_) (λcdv A outer s H vs Q E hr h=>?_)
 ·obtain⟨a,b,rfl,_⟩:=h;rfl
 obtain⟨a,b,rfl,q⟩:=h;refine⟨_,
  (pss2
   (Xk uE (zM vt (pv 1) za (nomark _)) (zp (Wb (i:=0) (j:=1) rfl zdq.nd rfl rfl (by decide) rfl rfl (pa2 (pv 1) zb (zc jx (pv 0) (pv 1)) zx) rfl)))
   (zq (ya XS rfl T.b_abs Vv (pa1 (pv 0) zb))))
  ,?_⟩
 dsimp! [L2.start]
 simp! [];refine zcp (iv_ldiv a b H) (λσ _=>(getI σ 1).natAbs) ⟨rfl,_,_,rfl,rfl⟩ ?_
  (λσ H Q Q' m h=>by obtain⟨v,e,s,k,e2,q⟩:=h;exact⟨v,e,s,k,e2,m _ _ q⟩)
 rintro σ H' ⟨rfl,x,y,rfl,e⟩;simp! [];refine ite2 (λc=>?_) (λc=>?_)
 ·have hy:y≠0:=by simpa using c
  exact⟨hy,⟨rfl,_,_,rfl,(G_fmod x y).trans e⟩,zgn hy⟩
 ·have hy:y=0:=by simpa using c
  subst hy;rw[G_end,e];exact q
theorem zb6{xs:List Int}{j:Int}(h0:0<=j)(h1:j<xs.length):∃x:Int,atI (xs.map V.int) j=some (.int x):=by
 have hk:j.toNat<xs.length:=by omega
 refine⟨xs[j.toNat],?_⟩;have z:atI (xs.map V.int) ((j.toNat:Nat):Int)=some (.int xs[j.toNat]):=yl (by rw[pT,pJ hk];rfl)
 rw[show((j.toNat:Nat):Int)=j by lia] at z
 exact z
def qI(ns:List Int)(k v:Int):Prop:=(k<ns.length/\atI (ns.map V.int) k=some (.int v))∨(¬k<ns.length/\0<ns.length/\∃x,atI (ns.map V.int) ((k*7).fmod ((ns.map V.int).length:Int))=some (.int x)/\v=((x*48271+k*7919)%2147483647)*((x*48271+k*7919)%2147483647)%2147483629)∨(¬k<ns.length/\¬0<ns.length/\v=(k*7919+5)*(k*7919+5)%2147483629)
def qI.uniq{ns:List Int}{k v v':Int}(h:qI ns k v)(h':qI ns k v'):v=v':=by
 rcases h with⟨a,b⟩|⟨a,b,x,c,d⟩|⟨a,b,c⟩<;>rcases h' with⟨a',b'⟩|⟨a',b',x',c',d'⟩|⟨a',b',c'⟩
 ·rw[b] at b'
  cases b';rfl
 ·exact absurd a a'
 ·exact absurd a a'
 ·exact absurd a' a
 ·rw[c] at c'
  cases c';rw[d,d']
 ·exact absurd b b'
 ·exact absurd a' a
 ·exact absurd b' b
 ·rw[c,c']
noncomputable def yK(ns:List Int)(k:Int):Int:=Classical.epsilon (qI ns k)
def WC{ns:List Int}{k v:Int}(h:qI ns k v):v=yK ns k:=h.uniq (Classical.epsilon_spec ⟨v,h⟩)
inductive ZX (K:pI) (vs:List V) (H:Hp) (Q:VK) (E:XK):Prop
 |mk (a:Addr) (ns:List Int) (k:Int) (_:vs=[.ref a,.int k]) (_:SqL K H a (ns.map V.int)) (_:0<=k) (_:k<=1000) (_:∀v:{v:Int//v=yK ns k},Q (.int v.1) H):ZX K vs H Q E
theorem xW(T:Txt K mg ad fd):zv P w K mg base CX0 1 (ad 24) (fd 24) ["_law_script","_law_k"] (ZX K):=by
 refine T.law_cell.fn.ok Jd (λvs H Q E h=>?_) (λcdv A outer s H vs Q E hr h=>?_)
 ·obtain⟨a,ns,k,rfl,_⟩:=h;rfl
 obtain⟨a,ns,k,rfl,hS,k0,k1,q⟩:=h;refine⟨_,
  (pss4
   (zL (zM xF (pv 1) (ya YO rfl T.b_len yG (pa1 (pv 0) zb)) (nomark _)) (zp (zq (zd VS (pv 0) (pv 1)))) zR)
   (zk 2 Jd.nd (zc zQ (zc y4 (pv 1) za) za))
   (zL (zM qf (ya YO rfl T.b_len yG (pa1 (pv 0) zb)) za (nomark _)) (zp (zk 2 Jd.nd (zc yn (zc zQ (zc y4 (zd VS (pv 0) (zc jx (zc y4 (pv 1) za) (ya YO rfl T.b_len yG (pa1 (pv 0) zb)))) za) (zc y4 (pv 1) za)) za))) zR)
   (zq (zc yn (zc zN (pv 2) (pv 2)) za)))
  ,?_⟩
 dsimp! [L2.start]
 simp only[zG,Yj,jW,Ja,j7,w6,gName,qX,tVar,tC,tOp,tUn,rI,rI0,rU,rEq,rNe,Yd,tB,qY,qM,tOr,qA,qQ,qH,tIf,tCB,jL,xy,zU,qP,qr,gTup,gCons,gNil,L2.start,rIsi,rIxT,rIxL,cx_K,tyN_non,tyN_bl,tyN_int,tyN_str,isi_ii,isi_ib,VD,VQ,Js,WO,VV,V6,Vp,Vn,XR,Jw,isi_ll,scal_ii,scal_bb,sz0,sz1,sz2,sz3,sz4,pR,QF,uN,Uj,AT,AV,Al,uR,Bg,Bh,DG,DH,At,V.int.injEq,V.bl.injEq,V.ref.injEq,V.ty.injEq,Ba,and_true,true_and,exists_eq_left,exists_eq_left',exists_and_left,exists_and_right,exists_eq,exists_eq',and_assoc,CQ,CS,gZ,DD,uD,if_true,if_false,reduceIte,AJ,decide_true,decide_false];have e32:(2:Nat)^32=4294967296:=rfl;refine⟨_,.inl hS,ite2 (λc=>?_) (λc=>⟨.inr ⟨by decide,by decide⟩,_,.inl hS,ite2 (λc2=>?_) λc2=>?_⟩)⟩
 ·have c:=of_decide_eq_true c;rw[pC] at c;obtain⟨x,ax⟩:=zb6 (xs:=ns) k0 c;exact⟨_,hS,_,ax,q ⟨x,WC (.inl ⟨c,ax⟩)⟩⟩
 ·have c2:=of_decide_eq_true c2;have c':¬k<(ns.length:Int):=λz=>c (decide_eq_true (by rw[pC];exact z))
  have l0:0<(ns.map V.int).length:=by lia
  have f0:=By (k*7) (show(0:Int)<((ns.map V.int).length:Int) by lia)
  have f1:=FT (k*7) (show(0:Int)<((ns.map V.int).length:Int) by lia)
  refine⟨.inr ⟨by decide,by decide⟩,_,.inl hS,by lia,_,hS,?_⟩
  generalize hm:(k*7).fmod ((ns.map V.int).length:Int)=m at*;rw[pC] at f1;obtain⟨x,ax⟩:=zb6 (xs:=ns) f0 f1;refine⟨_,ax,x,rfl,.inr ⟨by decide,by decide⟩,.inr ⟨by decide,by decide⟩,by decide,?_,by decide,q ⟨_,WC (.inr (.inl ⟨c',by rw[pC] at l0;lia,x,by rw[hm];exact ax,rfl⟩))⟩⟩
  have v0:=ET (x*48271+k*7919) (show(2147483647:Int)≠0 by decide)
  have v1:=DI (x*48271+k*7919) (show(0:Int)<2147483647 by decide)
  generalize (x*48271+k*7919)%2147483647=v at*;exact cbig (m:=32) (n:=32) (by lia) (by lia)
 ·exact⟨cbig (m:=32) (n:=32) (by lia) (by lia),by decide,q ⟨_,WC (.inr (.inr ⟨λz=>c (decide_eq_true (by rw[pC];exact z)),λz=>c2 (decide_eq_true (by rw[pC];lia)),rfl⟩))⟩⟩
noncomputable def ptQ(x y w:Int):Q3:=⟨x.fdiv (G (G x y) w),y.fdiv (G (G x y) w),w.fdiv (G (G x y) w)⟩
inductive sp_pt (vs:List V) (H:Hp) (Q:VK) (E:XK):Prop
 |mk (x y w:Int) (_:vs=[.int x,.int y,.int w]) (_:Bd3 60 x y w) (_:0<w) (_:∀p H',ze H H'->QH H' p (ptQ x y w)->Q (.ref p) H'):sp_pt vs H Q E
def zb4{x y w:Int}(b:Bd3 60 x y w)(hw:0<w):PQ 60 (ptQ x y w):=g3_pt hw b.1 b.2.1 b.2.2
def YV(T:Txt K mg ad fd):zv P w K mg base CX0 2 (ad 26) (fd 26) ["_law_east","_law_north","_law_share"] sp_pt:=by
 refine T.law_point.fn.ok zcl (λvs H Q E h=>?_) (λcdv A outer s H vs Q E hr h=>?_)
 ·obtain⟨x,y,w,rfl,_⟩:=h;rfl
 obtain⟨x,y,w,rfl,b,hw,k⟩:=h;refine⟨_,
  (pss2
   (zk 3 zcl.nd (zu (Zq T) T.law_divisor hr (pa2 (zu (Zq T) T.law_divisor hr (pa2 (pm 0) zb (pm 1) zb)) yw (pm 2) zb)))
   (zq (ye (pa3 (zc wW (pm 0) (pm 3)) zx (zc wW (pm 1) (pm 3)) zx (zc wW (pm 2) (pm 3)) zx))))
  ,?_⟩
 dsimp! [L2.start]
 simp! [Xj];have lt:=yT (g3_lt (x:=x) (y:=y) hw b.2.2) (show 60<=8000 by decide)
 exact⟨cdivb (V8 hw) lt,cdivb (V8 hw) lt,cdivb (V8 hw) lt,λp hp=>k p _ (zg hp _) ⟨upd_same,Pt.mono (zb4 b hw) (by decide)⟩⟩
structure Fr where
 (p q r s t u w:Int)
def sm(x:Int):Prop:= -100<=x/\x<=100
def bg(x:Int):Prop:= -2000000<=x/\x<=2000000
def smP(x:Int):Prop:=1<=x/\x<=100
def FrB(f:Fr):Prop:=smP f.p/\sm f.q/\sm f.r/\sm f.s/\bg f.t/\bg f.u/\1<=f.w/\f.w<=2000000/\f.q*f.r<f.p*f.s
def FmH(H:Hp)(l:Addr)(f:Fr):Prop:=∃xs,H l=some (.lst xs)/\atI xs 0=some (.int f.p)/\atI xs 1=some (.int f.q)/\atI xs 2=some (.int f.r)/\atI xs 3=some (.int f.s)/\atI xs 4=some (.int f.t)/\atI xs 5=some (.int f.u)/\atI xs 6=some (.int f.w)/\FrB f
def FmH.same{H H':Hp}{l:Addr}{f:Fr}(h:FmH H l f)(g:ze H H'):FmH H' l f:=by
 obtain⟨xs,h1,h2⟩:=h;exact⟨xs,g _ _ h1,h2⟩
theorem fr_mul{q r:Int}(q0: -3<=q)(q1:q<=3)(r0: -3<=r)(r1:r<=3): -9<=q*r/\q*r<=9:=by
 rcases(by lia:q= -3∨q= -2∨q= -1∨q=0∨q=1∨q=2∨q=3) with e|e|e|e|e|e|e<;>subst e<;>lia
theorem fr_div{m p:Int}(h0: -9<=m)(h1:m<=9)(p1:1<=p)(p4:p<=4): -9<=m.fdiv p/\m.fdiv p<=9:=by
 rw[UQ _ (by lia)]
 rcases(by lia:p=1∨p=2∨p=3∨p=4) with e|e|e|e<;>subst e<;>lia
theorem fr_det{m p c:Int}(p1:1<=p)(c0:0<=c):m<p*(m.fdiv p+1+c):=by
 rw[UQ _ (by lia)]
 have h1:=DI m (show 0<p by lia)
 have h2:=Eb m p;have h3:0<=p*c:=Uf (by lia) c0
 have h4:p*(m/p+1+c)=p*(m/p)+p+p*c:=by grind
 lia
inductive zau (K:pI) (vs:List V) (H:Hp) (Q:VK) (E:XK):Prop
 |mk (a:Addr) (ns:List Int) (_:vs=[.ref a]) (_:SqL K H a (ns.map V.int)) (_:∀D f H',H D=none->ze H H'->FmH H' D f->Q (.ref D) H'):zau K vs H Q E
theorem zh3(T:Txt K mg ad fd):zv P w K mg base CX0 2 (ad 32) (fd 32) ["_law_script"] (zau K):=by
 refine T.law_frame.fn.ok vL (λvs H Q E h=>?_) (λcdv A outer s H vs Q E hr h=>?_)
 ·obtain⟨a,ns,rfl,_⟩:=h;rfl
 obtain⟨a,ns,rfl,hS,k⟩:=h;refine⟨_,
  (pss8
   (zk 1 vL.nd (zu (xW T) T.law_cell hr (pa2 (pm 0) zb za yy)))
   (zk 2 vL.nd (zc zQ za (zc yn (pm 1) za)))
   (zk 3 vL.nd (zc yr (zc yn (zc wQ (pm 1) za) za) za))
   (zk 4 vL.nd (zc yr (zc yn (zc wQ (pm 1) za) za) za))
   (zk 5 vL.nd (zu (xW T) T.law_cell hr (pa2 (pm 0) zb za yy)))
   (zk 6 vL.nd (zc zQ za (zc yn (zu (xW T) T.law_cell hr (pa2 (pm 0) zb za yy)) za)))
   (zL (zM wz (zc yn (zc wQ (zu (xW T) T.law_cell hr (pa2 (pm 0) zb za yy)) za) za) za (nomark _)) (zp (zk 6 vL.nd (zc zQ za (zc yn (zu (xW T) T.law_cell hr (pa2 (pm 0) zb za yy)) za)))) zR)
   (zq (yN (pa7 (pm 2) zb (pm 3) zb (pm 4) zb (zc zQ (zc zQ (zc wW (zc zN (pm 3) (pm 4)) (pm 2)) za) (zc yn (zc wQ (pm 1) za) za)) zx (zc yr (zc yn (pm 5) za) za) zx (zc yr (zc yn (zc wQ (pm 5) za) za) za) zx (pm 6) zb))))
  ,?_⟩
 dsimp! [L2.start]
 simp! [];have e8:(2:Nat)^8=256:=rfl;refine⟨a,ns,2,rfl,hS,by decide,by decide,λ⟨v,_⟩=>?_⟩
 have p1:1<=1+v%4/\1+v%4<=4:=by lia
 have q1: -3<=v/4%7-3/\v/4%7-3<=3:=by lia
 have r1: -3<=v/28%7-3/\v/28%7-3<=3:=by lia
 have c1:Yv (v/4%7-3) (v/28%7-3):=cbig (m:=8) (n:=8) (by lia) (by lia)
 have c2:Vk ((v/4%7-3)*(v/28%7-3)) (1+v%4):=cdivb (by lia) (n:=8) (by lia)
 have s1:=fr_mul q1.1 q1.2 r1.1 r1.2;have s2:=fr_div s1.1 s1.2 p1.1 p1.2;have fin:∀(v2 w:Int)(D:Addr),H D=none->1<=w->w<=2000000->Q (.ref D) (upd H D (HO.lst [V.int (1+v%4),V.int (v/4%7-3),V.int (v/28%7-3),V.int (((v/4%7-3)*(v/28%7-3)).fdiv (1+v%4)+1+v/196%3),V.int (v2%2000003-1000001),V.int (v2/7%31-15),V.int w])):=λv2 w D hD w1 w2=>
  k D ⟨_,_,_,_,_,_,w⟩ _ hD (zg hD _) ⟨_,upd_same,rfl,rfl,rfl,rfl,rfl,rfl,rfl,⟨by show _<=1+v%4;lia,by show 1+v%4<=_;lia⟩,⟨by show _<=v/4%7-3;lia,by show v/4%7-3<=_;lia⟩,⟨by show _<=v/28%7-3;lia,by show v/28%7-3<=_;lia⟩,⟨by show _<=((v/4%7-3)*(v/28%7-3)).fdiv (1+v%4)+1+v/196%3;lia,by show((v/4%7-3)*(v/28%7-3)).fdiv (1+v%4)+1+v/196%3<=_;lia⟩,⟨by show _<=v2%2000003-1000001;lia,by show v2%2000003-1000001<=_;lia⟩,⟨by show _<=v2/7%31-15;lia,by show v2/7%31-15<=_;lia⟩,w1,w2,fr_det p1.1 (by lia)⟩
 refine⟨v,rfl,by decide,v,rfl,⟨by decide,by decide⟩,by decide,v,rfl,⟨by decide,by decide⟩,by decide,a,ns,3,rfl,hS,by decide,by decide,λ⟨v2,_⟩=>?_⟩
 refine⟨a,ns,4,rfl,hS,by decide,by decide,λ⟨v3,_⟩=>⟨v3,rfl,by decide,a,ns,4,rfl,hS,by decide,by decide,λ⟨v4,_⟩=>⟨v4,rfl,⟨by decide,by decide⟩,by decide,ite2 (λ_=>?_) λ_=>?_⟩⟩⟩
 ·exact⟨a,ns,4,rfl,hS,by decide,by decide,λ⟨v5,_⟩=>⟨v5,rfl,by decide,c1,c2,v,rfl,⟨by decide,by decide⟩,by decide,v2,rfl,by decide,v2,rfl,⟨by decide,by decide⟩,by decide,by decide,λD hD=>fin v2 _ D hD (by lia) (by lia)⟩⟩
 ·exact⟨c1,c2,v,rfl,⟨by decide,by decide⟩,by decide,v2,rfl,by decide,v2,rfl,⟨by decide,by decide⟩,by decide,by decide,λD hD=>fin v2 _ D hD (by lia) (by lia)⟩
noncomputable def mv(f:Fr)(a:Int×Int):Int×Int:=(f.p*a.1+f.q*a.2+f.t,f.r*a.1+f.s*a.2+f.u)
def Bx(a:Int×Int):Prop:=0<=a.1/\a.1<=14/\0<=a.2/\a.2<=14
theorem YY{a b:Int}(h:sm a)(b0: -300<=b)(b1:b<=300):(a*b).natAbs<=30000:=by
 obtain⟨h0,h1⟩:=h;rw[Aa];exact Nat.mul_le_mul (show a.natAbs<=100 by lia) (show b.natAbs<=300 by lia)
theorem jE{f:Fr}{x:Int×Int}(fb:FrB f)(bx:Bx x):Bd3 60 (mv f x).1 (mv f x).2 f.w:=by
 obtain⟨f1,f2,f3,f4,⟨t1,t2⟩,⟨u1,u2⟩,w1,w2,_⟩:=fb;obtain⟨x1,x2,x3,x4⟩:=bx;have m1:=YY (a:=f.p) ⟨by have:=f1.1;omega,f1.2⟩ (show-300<=x.1 by omega) (by omega)
 have m2:=YY f2 (show-300<=x.2 by omega) (by omega)
 have m3:=YY f3 (show-300<=x.1 by omega) (by omega)
 have m4:=YY f4 (show-300<=x.2 by omega) (by omega)
 have e:(2:Nat)^60=1152921504606846976:=rfl;refine⟨?_,?_,by omega⟩
 ·show(f.p*x.1+f.q*x.2+f.t).natAbs<_
  omega
 ·show(f.r*x.1+f.s*x.2+f.u).natAbs<_
  omega
noncomputable def ori(a b c:Int×Int):Int:=(b.1-a.1)*(c.2-a.2)-(b.2-a.2)*(c.1-a.1)
noncomputable def fd2(f:Fr):Int:=f.p*f.s-f.q*f.r
noncomputable def ptP(w:Int)(k:Int×Int):Q3:=ptQ k.1 k.2 w
noncomputable def PF(f:Fr)(x:Int×Int):Q3:=ptP f.w (mv f x)
def Vo{w:Int}(hw:0<w)(k:Int×Int):∃g:Int,0<g/\(ptP w k).x*g=k.1/\(ptP w k).y*g=k.2/\(ptP w k).w*g=w:=vp hw ⟨k.1,k.2⟩
def pt_inj{w:Int}(hw:0<w){a b:Int×Int}(e:ptP w a=ptP w b):a=b:=by
 obtain⟨e1,e2⟩:=za7 (a:=⟨a.1,a.2⟩) (b:=⟨b.1,b.2⟩) hw (congrArg Q3.x e) (congrArg Q3.y e) (congrArg Q3.w e);exact Qg e1 e2
theorem YE{a b:Int×Int}:lt2 a b=true↔(a.1<b.1∨(a.1=b.1/\a.2<b.2)):=by
 unfold lt2 lexB
 by_cases c:a.1=b.1
 ·rw[if_pos c,decide_eq_true_iff];omega
 ·rw[if_neg c,decide_eq_true_iff];omega
theorem mv_inj{f:Fr}(hd:0<fd2 f){a b:Int×Int}(e:mv f a=mv f b):a=b:=by
 unfold mv at e
 injection e with e1 e2
 unfold fd2 at hd;have k1:(f.p*f.s-f.q*f.r)*(a.1-b.1)=0:=by grind
 have k2:(f.p*f.s-f.q*f.r)*(a.2-b.2)=0:=by grind
 have z1:=(EU.mp k1).resolve_left (by lia)
 have z2:=(EU.mp k2).resolve_left (by lia)
 exact Qg (by lia) (by lia)
def wC{f:Fr}(hw:0<f.w)(hd:0<fd2 f){a b:Int×Int}(e:PF f a=PF f b):a=b:=mv_inj hd (pt_inj hw e)
def zbw{y z:Int}(h1:0<y↔0<z)(h2:y<0↔z<0):sgn y=sgn z:=by
 unfold sgn
 by_cases c:0<y
 ·rw[if_pos c,if_pos (h1.mp c)]
 ·rw[if_neg c,if_neg (λz=>c (h1.mpr z))]
  by_cases d:y<0
  ·rw[if_pos d,if_pos (h2.mp d)]
  ·rw[if_neg d,if_neg (λz=>d (h2.mpr z))]
theorem W3{f:Fr}(hw:0<f.w)(hd:0<fd2 f)(a b c:Int×Int):sgD (PF f a) (PF f b) (PF f c)=sgn (ori a b c):=by
 obtain⟨g1,h1,a1,a2,a3⟩:=Vo hw (mv f a);obtain⟨g2,h2,b1,b2,b3⟩:=Vo hw (mv f b);obtain⟨g3,h3,c1,c2,c3⟩:=Vo hw (mv f c);have d:=JI g1 g2 g3 (PF f a).x (PF f a).y (PF f a).w (PF f b).x (PF f b).y (PF f b).w (PF f c).x (PF f c).y (PF f c).w;unfold PF at d;rw[a1,a2,a3,b1,b2,b3,c1,c2,c3] at d;have e:det3 (mv f a).1 (mv f a).2 f.w (mv f b).1 (mv f b).2 f.w (mv f c).1 (mv f c).2 f.w=f.w*fd2 f*ori a b c:=by
  unfold det3 lnA lnB lnC fd2 ori mv;dsimp only
  grind
 rw[e] at d;have k1:0<f.w*fd2 f:=QV hw hd;have k2:0<g1*g2*g3:=QV (QV h1 h2) h3;unfold sgD PF;generalize det3 (ptP f.w (mv f a)).x (ptP f.w (mv f a)).y (ptP f.w (mv f a)).w (ptP f.w (mv f b)).x (ptP f.w (mv f b)).y (ptP f.w (mv f b)).w (ptP f.w (mv f c)).x (ptP f.w (mv f c)).y (ptP f.w (mv f c)).w=y at*;generalize ori a b c=z at*;generalize f.w*fd2 f=k at*;generalize g1*g2*g3=g at*;have s1:=wB (a:=0) (b:=y) k2;have s2:=wB (a:=0) (b:=z) k1;have s3:=wB (a:=y) (b:=0) k2;have s4:=wB (a:=z) (b:=0) k1;rw[Uy] at s1 s2 s3 s4;refine zbw ?_ ?_
 ·rw[←s1,←s2,d]
 ·rw[←s3,←s4,d]
theorem Xm{a b c:Q3}:∀(ts:List Q3)(m:Q3),(m=c∨(soon a b c m=true/\c∈ts))->(∀t,t∈ts->t≠c->soon a b c t=true/\soon a b t c=false)->wO a b m ts=c
 |[],m,h,_=>by
  rcases h with h|⟨_,h⟩
  ·exact h
  ·cases h
 |t::ts,m,h,k=>by
  show wO a b (if soon a b t m=true then t else m) ts=c
  have kt:∀u,u∈ts->u≠c->soon a b c u=true/\soon a b u c=false:=λu hu=>k u (pE _ hu)
  by_cases e:t=c
  ·refine Xm ts _ (.inl ?_) kt;rcases h with h|⟨h,_⟩
   ·rw[e,h];split<;>rfl
   ·rw[e,if_pos h]
  ·have kk:=k t (by simp) e
   rcases h with h|⟨h,hm⟩
   ·refine Xm ts _ (.inl ?_) kt;rw[h,if_neg (by rw[kk.2];decide)]
   ·refine Xm ts _ (.inr ⟨?_,?_⟩) kt
    ·split
     ·exact kk.1
     ·exact h
    ·rcases pS.mp hm with z|z
     ·exact absurd z.symm e
     ·exact z
theorem zf5{a b c:Q3}{ts:List Q3}(hc:c∈ts)(h:∀t,t∈ts->t≠c->soon a b c t=true/\soon a b t c=false):jQ a b ts=c:=by
 cases ts with
 |nil=>cases hc
 |cons t ts=>
  refine Xm ts t ?_ λu hu=>h u (pE _ hu)
  by_cases e:t=c
  ·exact .inl e
  ·refine .inr ⟨(h t (by simp) e).1,?_⟩
   rcases pS.mp hc with z|z
   ·exact absurd z.symm e
   ·exact z
def Zt{f:Fr}(hw:0<f.w)(hd:0<fd2 f)(a b c d:Int×Int):soon (PF f a) (PF f b) (PF f c) (PF f d)=if sgn (ori a b c)=sgn (ori a b d) then decide (sgn (ori a c d)<0) else decide (sgn (ori a b c)<sgn (ori a b d)):=by
 unfold soon;rw[W3 hw hd,W3 hw hd,W3 hw hd]
abbrev E2:=(Int×Int)×(Int×Int)
abbrev C3:=Int×Int×Int
theorem fin8{p:Fin 8->Prop}(h0:p 0)(h1:p 1)(h2:p 2)(h3:p 3)(h4:p 4)(h5:p 5)(h6:p 6)(h7:p 7):∀k,p k
 |⟨0,_⟩=>h0
 |⟨1,_⟩=>h1
 |⟨2,_⟩=>h2
 |⟨3,_⟩=>h3
 |⟨4,_⟩=>h4
 |⟨5,_⟩=>h5
 |⟨6,_⟩=>h6
 |⟨7,_⟩=>h7
def k8:∀k:Fin 8,k=0∨k=1∨k=2∨k=3∨k=4∨k=5∨k=6∨k=7:=by decide
def f44:∀k:Fin 8,k+4+4=k:=by decide
noncomputable def dv(k:Fin 8):Int×Int:=[(2,0),(1,1),(0,2),(-1,1),(-2,0),(-1,-1),(0,-2),(1,-1)].getD k.val (0,0)
def dv_inj:∀k j,dv k=dv j->k=j:=by decide
def Xa:∀k,dv (k+4)=(-(dv k).1,-(dv k).2):=by decide
noncomputable def stp(a:Int×Int)(k:Fin 8):Int×Int:=(a.1+(dv k).1,a.2+(dv k).2)
theorem wg(a:Int×Int)(k:Fin 8):stp (stp a k) (k+4)=a:=by
 unfold stp;rw[Xa];exact Qg (by show a.1+_+ -_=_;lia) (by show a.2+_+ -_=_;lia)
theorem qx{a:Int×Int}{k j:Fin 8}(h:stp a k=stp a j):k=j:=by
 unfold stp at h
 injection h with h1 h2
 exact dv_inj _ _ (Qg (by lia) (by lia))
noncomputable def yx(c:C3):List ((Int×Int)×Fin 8):=
 if c.2.2=0 then[((2*c.1,2*c.2.1),0),((2*c.1+2,2*c.2.1),3),((2*c.1+1,2*c.2.1+1),5)]
 else if c.2.2=1 then[((2*c.1+2,2*c.2.1),2),((2*c.1+2,2*c.2.1+2),5),((2*c.1+1,2*c.2.1+1),7)]
 else if c.2.2=2 then[((2*c.1+2,2*c.2.1+2),4),((2*c.1,2*c.2.1+2),7),((2*c.1+1,2*c.2.1+1),1)]
 else if c.2.2=3 then[((2*c.1,2*c.2.1+2),6),((2*c.1,2*c.2.1),1),((2*c.1+1,2*c.2.1+1),3)]
 else[]
def ok(a:Int×Int):Prop:=(a.1%2=0/\a.2%2=0)∨(a.1%2=1/\a.2%2=1)
def okp(a:Int×Int)(k:Fin 8):Prop:=(a.1%2=0/\a.2%2=0)∨(a.1%2=1/\a.2%2=1/\k.val%2=1)
noncomputable def zj(a:Int×Int)(k:Fin 8):C3:=
 if a.1%2=0 then[(a.1/2,a.2/2,0),(a.1/2,a.2/2,3),(a.1/2-1,a.2/2,1),(a.1/2-1,a.2/2,0),(a.1/2-1,a.2/2-1,2),(a.1/2-1,a.2/2-1,1),(a.1/2,a.2/2-1,3),(a.1/2,a.2/2-1,2)].getD k.val (0,0,0)
 else(a.1/2,a.2/2,([1,2,2,3,3,0,0,1]:List Int).getD k.val 0)
def yk{a:Int×Int}(h:a.1%2=0)(k:Fin 8):zj a k=[(a.1/2,a.2/2,0),(a.1/2,a.2/2,3),(a.1/2-1,a.2/2,1),(a.1/2-1,a.2/2,0),(a.1/2-1,a.2/2-1,2),(a.1/2-1,a.2/2-1,1),(a.1/2,a.2/2-1,3),(a.1/2,a.2/2-1,2)].getD k.val (0,0,0):=by
 unfold zj;rw[if_pos h]
theorem yL{a:Int×Int}(h:a.1%2=1)(k:Fin 8):zj a k=(a.1/2,a.2/2,([1,2,2,3,3,0,0,1]:List Int).getD k.val 0):=by
 unfold zj;rw[if_neg (by lia)]
def zB{a b c a' b' c':Int}(h1:a=a')(h2:b=b')(h3:c=c'):((a,b,c):C3)=(a',b',c'):=by rw[h1,h2,h3]
def vO{a:Int×Int}{k:Fin 8}{c:C3}(h1:a.1%2=0)(h2:a.2%2=0)(h:[(a.1/2,a.2/2,(0:Int)),(a.1/2,a.2/2,3),(a.1/2-1,a.2/2,1),(a.1/2-1,a.2/2,0),(a.1/2-1,a.2/2-1,2),(a.1/2-1,a.2/2-1,1),(a.1/2,a.2/2-1,3),(a.1/2,a.2/2-1,2)].getD k.val (0,0,0)=c):okp a k/\zj a k=c:=⟨.inl ⟨h1,h2⟩,by rw[yk h1];exact h⟩
def o_of{a:Int×Int}{k:Fin 8}{c:C3}(h1:a.1%2=1)(h2:a.2%2=1)(hk:k.val%2=1)(h:(a.1/2,a.2/2,([1,2,2,3,3,0,0,1]:List Int).getD k.val 0)=c):okp a k/\zj a k=c:=⟨.inr ⟨h1,h2,hk⟩,by rw[yL h1];exact h⟩
theorem Yf{a:Int×Int}{k:Fin 8}{c:C3}(h:(a,k)∈yx c):okp a k/\zj a k=c:=by
 obtain⟨x,y,q⟩:=c;unfold yx at h;dsimp only at h
 split at h
 ·subst q;simp only[pS,Qe,or_false,QZ] at h;rcases h with⟨e,rfl⟩|⟨e,rfl⟩|⟨e,rfl⟩<;>subst e
  ·exact vO (by dsimp only;lia) (by dsimp only;lia) (zB (by dsimp only;lia) (by dsimp only;lia) rfl)
  ·exact vO (by dsimp only;lia) (by dsimp only;lia) (zB (by dsimp only;lia) (by dsimp only;lia) rfl)
  ·exact o_of (by dsimp only;lia) (by dsimp only;lia) rfl (zB (by dsimp only;lia) (by dsimp only;lia) rfl)
 split at h
 ·subst q;simp only[pS,Qe,or_false,QZ] at h;rcases h with⟨e,rfl⟩|⟨e,rfl⟩|⟨e,rfl⟩<;>subst e
  ·exact vO (by dsimp only;lia) (by dsimp only;lia) (zB (by dsimp only;lia) (by dsimp only;lia) rfl)
  ·exact vO (by dsimp only;lia) (by dsimp only;lia) (zB (by dsimp only;lia) (by dsimp only;lia) rfl)
  ·exact o_of (by dsimp only;lia) (by dsimp only;lia) rfl (zB (by dsimp only;lia) (by dsimp only;lia) rfl)
 split at h
 ·subst q;simp only[pS,Qe,or_false,QZ] at h;rcases h with⟨e,rfl⟩|⟨e,rfl⟩|⟨e,rfl⟩<;>subst e
  ·exact vO (by dsimp only;lia) (by dsimp only;lia) (zB (by dsimp only;lia) (by dsimp only;lia) rfl)
  ·exact vO (by dsimp only;lia) (by dsimp only;lia) (zB (by dsimp only;lia) (by dsimp only;lia) rfl)
  ·exact o_of (by dsimp only;lia) (by dsimp only;lia) rfl (zB (by dsimp only;lia) (by dsimp only;lia) rfl)
 split at h
 ·subst q;simp only[pS,Qe,or_false,QZ] at h;rcases h with⟨e,rfl⟩|⟨e,rfl⟩|⟨e,rfl⟩<;>subst e
  ·exact vO (by dsimp only;lia) (by dsimp only;lia) (zB (by dsimp only;lia) (by dsimp only;lia) rfl)
  ·exact vO (by dsimp only;lia) (by dsimp only;lia) (zB (by dsimp only;lia) (by dsimp only;lia) rfl)
  ·exact o_of (by dsimp only;lia) (by dsimp only;lia) rfl (zB (by dsimp only;lia) (by dsimp only;lia) rfl)
 ·cases h
def x8{a b a' b':Int}{k:Fin 8}(h1:a=a')(h2:b=b'):(((a,b),k):(Int×Int)×Fin 8)=((a',b'),k):=by rw[h1,h2]
theorem wU{a:Int×Int}{k:Fin 8}(h:okp a k):(a,k)∈yx (zj a k):=by
 obtain⟨x,y⟩:=a;rcases h with⟨h1,h2⟩|⟨h1,h2,h3⟩
 ·rw[yk h1];dsimp only at h1 h2;rcases k8 k with rfl|rfl|rfl|rfl|rfl|rfl|rfl|rfl
  ·show _∈yx (x/2,y/2,0)
   exact pS.mpr (.inl (x8 (by dsimp only;lia) (by dsimp only;lia)))
  ·show _∈yx (x/2,y/2,3)
   exact pE _ (pS.mpr (.inl (x8 (by dsimp only;lia) (by dsimp only;lia))))
  ·show _∈yx (x/2-1,y/2,1)
   exact pS.mpr (.inl (x8 (by dsimp only;lia) (by dsimp only;lia)))
  ·show _∈yx (x/2-1,y/2,0)
   exact pE _ (pS.mpr (.inl (x8 (by dsimp only;lia) (by dsimp only;lia))))
  ·show _∈yx (x/2-1,y/2-1,2)
   exact pS.mpr (.inl (x8 (by dsimp only;lia) (by dsimp only;lia)))
  ·show _∈yx (x/2-1,y/2-1,1)
   exact pE _ (pS.mpr (.inl (x8 (by dsimp only;lia) (by dsimp only;lia))))
  ·show _∈yx (x/2,y/2-1,3)
   exact pS.mpr (.inl (x8 (by dsimp only;lia) (by dsimp only;lia)))
  ·show _∈yx (x/2,y/2-1,2)
   exact pE _ (pS.mpr (.inl (x8 (by dsimp only;lia) (by dsimp only;lia))))
 ·rw[yL h1];dsimp only at h1 h2;have m3:∀{α:Type}{p q r s:α},s=r->s∈[p,q,r]:=λe=>by rw[e];simp
  rcases k8 k with rfl|rfl|rfl|rfl|rfl|rfl|rfl|rfl
  ·exact absurd h3 (by decide)
  ·exact m3 (x8 (by dsimp only;lia) (by dsimp only;lia))
  ·exact absurd h3 (by decide)
  ·exact m3 (x8 (by dsimp only;lia) (by dsimp only;lia))
  ·exact absurd h3 (by decide)
  ·exact m3 (x8 (by dsimp only;lia) (by dsimp only;lia))
  ·exact absurd h3 (by decide)
  ·exact m3 (x8 (by dsimp only;lia) (by dsimp only;lia))
theorem jd{a:Int×Int}{k:Fin 8}:okp (stp a k) (k+4)↔okp a k:=by
 obtain⟨x,y⟩:=a;have d:dv 0=(2,0)/\dv 1=(1,1)/\dv 2=(0,2)/\dv 3=(-1,1)/\dv 4=(-2,0)/\dv 5=(-1,-1)/\dv 6=(0,-2)/\dv 7=(1,-1):=by decide
 obtain⟨d0,d1,d2,d3,d4,d5,d6,d7⟩:=d;unfold okp stp;dsimp only;rcases k8 k with rfl|rfl|rfl|rfl|rfl|rfl|rfl|rfl
 all_goals
  simp only[d0,d1,d2,d3,d4,d5,d6,d7]
  constructor
  ·rintro(⟨h1,h2⟩|⟨h1,h2,h3⟩)
   ·first|exact .inl ⟨by lia,by lia⟩|exact .inr ⟨by lia,by lia,by decide⟩
   ·first|exact absurd h3 (by decide)|exact .inl ⟨by lia,by lia⟩|exact .inr ⟨by lia,by lia,by decide⟩
  ·rintro(⟨h1,h2⟩|⟨h1,h2,h3⟩)
   ·first|exact .inl ⟨by lia,by lia⟩|exact .inr ⟨by lia,by lia,by decide⟩
   ·first|exact absurd h3 (by decide)|exact .inl ⟨by lia,by lia⟩|exact .inr ⟨by lia,by lia,by decide⟩
theorem va{a:Int×Int}{k:Fin 8}(h:okp a k):zj (stp a k) (k+4)=zj a (k+7):=by
 obtain⟨x,y⟩:=a;rcases h with⟨h1,h2⟩|⟨h1,h2,h3⟩
 ·dsimp only at h1 h2;rcases k8 k with rfl|rfl|rfl|rfl|rfl|rfl|rfl|rfl
  ·rw[yk (a:=(x,y)) h1,yk (a:=stp (x,y) 0) (by show(x+2)%2=0;lia)]
   show(((x+2)/2-1,(y+0)/2-1,2):C3)=(x/2,y/2-1,2)
   exact zB (by lia) (by lia) rfl
  ·rw[yk (a:=(x,y)) h1,yL (a:=stp (x,y) 1) (by show(x+1)%2=1;lia)]
   show(((x+1)/2,(y+1)/2,0):C3)=(x/2,y/2,0)
   exact zB (by lia) (by lia) rfl
  ·rw[yk (a:=(x,y)) h1,yk (a:=stp (x,y) 2) (by show(x+0)%2=0;lia)]
   show(((x+0)/2,(y+2)/2-1,3):C3)=(x/2,y/2,3)
   exact zB (by lia) (by lia) rfl
  ·rw[yk (a:=(x,y)) h1,yL (a:=stp (x,y) 3) (by show(x+ -1)%2=1;lia)]
   show(((x+ -1)/2,(y+1)/2,1):C3)=(x/2-1,y/2,1)
   exact zB (by lia) (by lia) rfl
  ·rw[yk (a:=(x,y)) h1,yk (a:=stp (x,y) 4) (by show(x+ -2)%2=0;lia)]
   show(((x+ -2)/2,(y+0)/2,0):C3)=(x/2-1,y/2,0)
   exact zB (by lia) (by lia) rfl
  ·rw[yk (a:=(x,y)) h1,yL (a:=stp (x,y) 5) (by show(x+ -1)%2=1;lia)]
   show(((x+ -1)/2,(y+ -1)/2,2):C3)=(x/2-1,y/2-1,2)
   exact zB (by lia) (by lia) rfl
  ·rw[yk (a:=(x,y)) h1,yk (a:=stp (x,y) 6) (by show(x+0)%2=0;lia)]
   show(((x+0)/2-1,(y+ -2)/2,1):C3)=(x/2-1,y/2-1,1)
   exact zB (by lia) (by lia) rfl
  ·rw[yk (a:=(x,y)) h1,yL (a:=stp (x,y) 7) (by show(x+1)%2=1;lia)]
   show(((x+1)/2,(y+ -1)/2,3):C3)=(x/2,y/2-1,3)
   exact zB (by lia) (by lia) rfl
 ·dsimp only at h1 h2;rcases k8 k with rfl|rfl|rfl|rfl|rfl|rfl|rfl|rfl
  ·exact absurd h3 (by decide)
  ·rw[yL (a:=(x,y)) h1,yk (a:=stp (x,y) 1) (by show(x+1)%2=0;lia)]
   show(((x+1)/2-1,(y+1)/2-1,1):C3)=(x/2,y/2,1)
   exact zB (by lia) (by lia) rfl
  ·exact absurd h3 (by decide)
  ·rw[yL (a:=(x,y)) h1,yk (a:=stp (x,y) 3) (by show(x+ -1)%2=0;lia)]
   show(((x+ -1)/2,(y+1)/2-1,2):C3)=(x/2,y/2,2)
   exact zB (by lia) (by lia) rfl
  ·exact absurd h3 (by decide)
  ·rw[yL (a:=(x,y)) h1,yk (a:=stp (x,y) 5) (by show(x+ -1)%2=0;lia)]
   show(((x+ -1)/2,(y+ -1)/2,3):C3)=(x/2,y/2,3)
   exact zB (by lia) (by lia) rfl
  ·exact absurd h3 (by decide)
  ·rw[yL (a:=(x,y)) h1,yk (a:=stp (x,y) 7) (by show(x+1)%2=0;lia)]
   show(((x+1)/2-1,(y+ -1)/2,0):C3)=(x/2,y/2,0)
   exact zB (by lia) (by lia) rfl
def Sd(cs:List C3)(e:E2):Prop:=∃c,c∈cs/\∃a k,(a,k)∈yx c/\e=(a,stp a k)
def jX{cs:List C3}{a:Int×Int}{k:Fin 8}:Sd cs (a,stp a k)↔okp a k/\zj a k∈cs:=by
 constructor
 ·rintro⟨c,hc,a',k',hm,e⟩
  injection e with e1 e2
  subst e1;have:=qx e2;subst this;obtain⟨h1,rfl⟩:=Yf hm;exact⟨h1,hc⟩
 ·rintro⟨h1,h2⟩;exact⟨_,h2,a,k,wU h1,rfl⟩
def jz{cs:List C3}{a:Int×Int}{k:Fin 8}:Sd cs (stp a k,a)↔okp a k/\zj a (k+7)∈cs:=by
 have e:(stp a k,a)=(stp a k,stp (stp a k) (k+4)):=by rw[wg]
 rw[e,jX,jd];exact⟨λ⟨h1,h2⟩=>⟨h1,by rw[←va h1];exact h2⟩,λ⟨h1,h2⟩=>⟨h1,by rw[va h1];exact h2⟩⟩
def Edg(cs:List C3)(es:List E2):Prop:=∀e,e∈es↔Sd cs e/\¬Sd cs (e.2,e.1)
noncomputable def sec(cs:List C3)(a:Int×Int)(k:Fin 8):Bool:=decide (((a.1%2=0/\a.2%2=0)∨(a.1%2=1/\a.2%2=1))/\zj a k∈cs)
noncomputable def oB(b:Fin 8->Bool)(k:Fin 8):Bool:=b k&& !b (k+7)
noncomputable def iB(b:Fin 8->Bool)(k:Fin 8):Bool:=b (k+7)&& !b k
def Vq:∀{a:Int×Int}{k:Fin 8},a.1%2=1->k.val%2=0->zj a k=zj a (k+7):=by
 intro a k h1 h2;rw[yL h1,yL h1];rcases k8 k with rfl|rfl|rfl|rfl|rfl|rfl|rfl|rfl
 ·rfl
 ·exact absurd h2 (by decide)
 ·rfl
 ·exact absurd h2 (by decide)
 ·rfl
 ·exact absurd h2 (by decide)
 ·rfl
 ·exact absurd h2 (by decide)
theorem ze1{cs:List C3}{a:Int×Int}{k:Fin 8}(h:sec cs a k≠sec cs a (k+7)):okp a k:=by
 unfold sec at h
 by_cases c1:a.1%2=0/\a.2%2=0
 ·exact .inl c1
 ·by_cases c2:a.1%2=1/\a.2%2=1
  ·by_cases c3:k.val%2=0
   ·rw[Vq c2.1 c3] at h;exact absurd rfl h
   ·exact .inr ⟨c2.1,c2.2,by lia⟩
  ·rw[decide_eq_false (λz=>z.1.elim c1 c2),decide_eq_false (λz=>z.1.elim c1 c2)] at h;exact absurd rfl h
def jT{cs:List C3}{a:Int×Int}{k j:Fin 8}(h:okp a k):sec cs a j=decide (zj a j∈cs):=by
 have h':(a.1%2=0/\a.2%2=0)∨(a.1%2=1/\a.2%2=1):=h.imp id λz=>⟨z.1,z.2.1⟩;unfold sec
 by_cases c:zj a j∈cs
 ·rw[decide_eq_true ⟨h',c⟩,decide_eq_true c]
 ·rw[decide_eq_false (λz=>c z.2),decide_eq_false c]
def zdg{b:Fin 8->Bool}{k:Fin 8}:oB b k=true↔b k=true/\b (k+7)=false:=by
 unfold oB
 cases b k<;>cases b (k+7)<;>decide
def zck{b:Fin 8->Bool}{k:Fin 8}:iB b k=true↔b (k+7)=true/\b k=false:=by
 unfold iB
 cases b k<;>cases b (k+7)<;>decide
def Edg.out{cs:List C3}{es:List E2}(h:Edg cs es){a:Int×Int}{k:Fin 8}:(a,stp a k)∈es↔oB (sec cs a) k=true:=by
 rw[h,zdg];show Sd cs (a,stp a k)/\¬Sd cs (stp a k,a)↔_;rw[jX,jz]
 constructor
 ·rintro⟨⟨h1,h2⟩,h3⟩;rw[jT h1,jT h1];exact⟨decide_eq_true h2,decide_eq_false λz=>h3 ⟨h1,z⟩⟩
 ·rintro⟨h1,h2⟩;have hk:=ze1 (by rw[h1,h2];decide:sec cs a k≠sec cs a (k+7))
  rw[jT hk] at h1 h2;exact⟨⟨hk,of_decide_eq_true h1⟩,λz=>of_decide_eq_false h2 z.2⟩
def Edg.inn{cs:List C3}{es:List E2}(h:Edg cs es){a:Int×Int}{k:Fin 8}:(stp a k,a)∈es↔iB (sec cs a) k=true:=by
 rw[h,zck];show Sd cs (stp a k,a)/\¬Sd cs (a,stp a k)↔_;rw[jX,jz]
 constructor
 ·rintro⟨⟨h1,h2⟩,h3⟩;rw[jT h1,jT h1];exact⟨decide_eq_true h2,decide_eq_false λz=>h3 ⟨h1,z⟩⟩
 ·rintro⟨h1,h2⟩;have hk:=ze1 (by rw[h1,h2];decide:sec cs a k≠sec cs a (k+7))
  rw[jT hk] at h1 h2;exact⟨⟨hk,of_decide_eq_true h1⟩,λz=>of_decide_eq_false h2 z.2⟩
def Edg.ray{cs:List C3}{es:List E2}(h:Edg cs es){e:E2}(he:e∈es):∃k,e.2=stp e.1 k:=by
 obtain⟨⟨c,_,a,k,_,rfl⟩,_⟩:=(h e).mp he;exact⟨k,rfl⟩
noncomputable def mkb(b0 b1 b2 b3 b4 b5 b6 b7:Bool):Fin 8->Bool:=λk=>[b0,b1,b2,b3,b4,b5,b6,b7].getD k.val false
def X3(b:Fin 8->Bool):b=mkb (b 0) (b 1) (b 2) (b 3) (b 4) (b 5) (b 6) (b 7):=funext (fin8 rfl rfl rfl rfl rfl rfl rfl rfl)
noncomputable def rk(k j:Fin 8):Nat:=(k-j).val
def v1':∀b0 b1 b2 b3 b4 b5 b6 b7:Bool,(∃k,iB (mkb b0 b1 b2 b3 b4 b5 b6 b7) k=true)->∃k,oB (mkb b0 b1 b2 b3 b4 b5 b6 b7) k=true:=by decide+kernel
def v2':∀b0 b1 b2 b3 b4 b5 b6 b7:Bool,∀k1 k2:Fin 8,iB (mkb b0 b1 b2 b3 b4 b5 b6 b7) k1=true->iB (mkb b0 b1 b2 b3 b4 b5 b6 b7) k2=true->k1≠k2->∃j,oB (mkb b0 b1 b2 b3 b4 b5 b6 b7) j=true/\rk k2 j<rk k2 k1:=by decide+kernel
def v0:∀k1 k2 j:Fin 8,rk k2 j<rk k2 k1->rk k1 j<rk k1 k2->False:=by decide
theorem v1{b:Fin 8->Bool}{k:Fin 8}(h:iB b k=true):∃j,oB b j=true:=by
 rw[X3 b] at h⊢;exact v1' _ _ _ _ _ _ _ _ ⟨k,h⟩
theorem v2{b:Fin 8->Bool}{k1 k2:Fin 8}(h1:iB b k1=true)(h2:iB b k2=true)(n:k1≠k2):∃j,oB b j=true/\rk k2 j<rk k2 k1:=by
 rw[X3 b] at h1 h2⊢;exact v2' _ _ _ _ _ _ _ _ k1 k2 h1 h2 n
def v_one{b:Fin 8->Bool}{k1 k2 j:Fin 8}(o:∀j',oB b j'=true->j'=j)(h1:iB b k1=true)(h2:iB b k2=true):k1=k2:=by
 by_cases n:k1=k2
 ·exact n
 ·exfalso
  obtain⟨a,a1,a2⟩:=v2 h1 h2 n;obtain⟨c,c1,c2⟩:=v2 h2 h1 (BI n);rw[o a a1] at a2;rw[o c c1] at c2;exact v0 k1 k2 j a2 c2
def v3{b:Fin 8->Bool}{k1 k2 j:Fin 8}(h1:iB b k1=true)(h2:iB b k2=true)(m1:∀j',oB b j'=true->rk k1 j<=rk k1 j')(m2:∀j',oB b j'=true->rk k2 j<=rk k2 j'):k1=k2:=by
 by_cases n:k1=k2
 ·exact n
 ·exfalso
  obtain⟨a,a1,a2⟩:=v2 h1 h2 n;obtain⟨c,c1,c2⟩:=v2 h2 h1 (BI n);exact v0 k1 k2 j (QN (m2 a a1) a2) (QN (m1 c c1) c2)
theorem v_min{p:Fin 8->Bool}{f:Fin 8->Nat}:∀n,(∃j,p j=true/\f j<=n)->∃j,p j=true/\∀j',p j'=true->f j<=f j'
 |0,⟨j,h1,h2⟩=>⟨j,h1,λj' _=>by lia⟩
 |n+1,⟨j,h1,h2⟩=>by
  by_cases c:∃j',p j'=true/\f j'<=n
  ·exact v_min n c
  ·exact⟨j,h1,λj' h=>by
    rcases AH n (f j') with z|z
    ·lia
    ·exact absurd ⟨j',h,z⟩ c⟩
def rk_inj:∀k j j':Fin 8,rk k j=rk k j'->j=j':=by decide
def Ju{b:Fin 8->Bool}{k j:Fin 8}(h1:iB b k=true)(h2:oB b j=true):j≠k:=λz=>by
 subst z;have:=(zck.mp h1).2;rw[(zdg.mp h2).1] at this
 cases this
noncomputable def att(a:Int×Int)(k:Fin 8)(j:Int):Int×Int:=(a.1+j*(dv k).1,a.2+j*(dv k).2)
noncomputable def onP(a b:Int×Int):Int×Int:=(2*b.1-a.1,2*b.2-a.2)
def xa(a:Int×Int)(k:Fin 8):att a k 0=a:=by
 unfold att;rw[UU,UU,UH,UH]
def xK(a:Int×Int)(k:Fin 8)(i j:Int):att (att a k i) k j=att a k (i+j):=by
 unfold att;dsimp only;rw[Ad,Ad,HD,HD]
def xX(a:Int×Int)(k:Fin 8):att a k 1=stp a k:=by
 unfold att stp;rw[CY,CY]
def W1(a:Int×Int)(k:Fin 8)(j:Int):att a (k+4) j=att a k (-j):=by
 unfold att;rw[Xa];dsimp only;rw[CZ,CZ,Ew,Ew]
def qv(a:Int×Int)(k:Fin 8):stp a (k+4)=att a k (-1):=by rw[←xX,W1]
def xp(a:Int×Int)(k:Fin 8)(j:Int):stp (att a k j) k=att a k (j+1):=by rw[←xX,xK]
theorem YK(a:Int×Int)(k:Fin 8):onP a (stp a k)=stp (stp a k) k:=by
 unfold onP stp;exact Qg (by dsimp only;lia) (by dsimp only;lia)
theorem zhm(a:Int×Int)(k:Fin 8):onP (stp a k) a=stp a (k+4):=by
 unfold onP stp;rw[Xa];exact Qg (by dsimp only;lia) (by dsimp only;lia)
def wK:dv 0=(2,0)/\dv 1=(1,1)/\dv 2=(0,2)/\dv 3=(-1,1)/\dv 4=(-2,0)/\dv 5=(-1,-1)/\dv 6=(0,-2)/\dv 7=(1,-1):=by decide
theorem dv_mul{k j:Fin 8}{m n:Int}(hm:0<m)(hn:0<n)(h1:m*(dv k).1=n*(dv j).1)(h2:m*(dv k).2=n*(dv j).2):k=j:=by
 obtain⟨d0,d1,d2,d3,d4,d5,d6,d7⟩:=wK
 rcases k8 k with rfl|rfl|rfl|rfl|rfl|rfl|rfl|rfl<;>rcases k8 j with rfl|rfl|rfl|rfl|rfl|rfl|rfl|rfl<;>first|rfl|(exfalso;simp only[d0,d1,d2,d3,d4,d5,d6,d7] at h1 h2;omega)
theorem zdn{a:Int×Int}{k j:Fin 8}{m n:Int}(hm:0<m)(hn:0<n)(h:att a k m=att a j n):k=j:=by
 unfold att at h
 injection h with h1 h2
 exact dv_mul hm hn (by lia) (by lia)
def dv_ne:∀k,dv k≠(0,0):=by decide
theorem Xr{a:Int×Int}{k:Fin 8}{m n:Int}(h:att a k m=att a k n):m=n:=by
 unfold att at h
 injection h with h1 h2
 have e1:m*(dv k).1=n*(dv k).1:=by lia
 have e2:m*(dv k).2=n*(dv k).2:=by lia
 by_cases c:(dv k).1=0
 ·by_cases c2:(dv k).2=0
  ·exact absurd (Qg c c2) (dv_ne k)
  ·exact gh c2 e2
 ·exact gh c e1
noncomputable def lvP(es:List E2)(p:Int×Int):List (Int×Int):=(es.filter λe=>decide (e.1=p)).map Hc
def XT{es:List E2}{p q:Int×Int}:q∈lvP es p↔(p,q)∈es:=by
 unfold lvP;rw[pL]
 constructor
 ·rintro⟨e,he,rfl⟩;obtain⟨h1,h2⟩:=pg.mp he;rw[←of_decide_eq_true h2];exact h1
 ·intro h;exact⟨(p,q),pg.mpr ⟨h,decide_eq_true rfl⟩,rfl⟩
noncomputable def str(es:List E2)(a b:Int×Int):Bool:=decide (lvP es b=[onP a b])
def zbi{es:List E2}{a b:Int×Int}(h:str es a b=true):(b,onP a b)∈es:=by
 rw[←XT,of_decide_eq_true h];exact pZ.mpr rfl
def Yp{es:List E2}{a:Int×Int}{k j:Fin 8}(h:str es a (stp a k)=true)(hj:(stp a k,stp (stp a k) j)∈es):j=k:=by
 rw[←XT,of_decide_eq_true h,pZ,YK] at hj;exact qx hj
inductive Goes (es:List E2):Int×Int->Int×Int->Int×Int->Prop where
 |stop {a b}:str es a b=false->Goes es a b b
 |step {a b c}:str es a b=true->Goes es b (onP a b) c->Goes es a b c
structure Wy(es:List E2)(a c:Int×Int)(k:Fin 8)(m:Nat):Prop where
 fin:c=att a k (m+1)
 mem:∀j:Nat,j<=m->(att a k j,att a k (j+1))∈es
 str:∀j:Nat,j<m->str es (att a k j) (att a k (j+1))=true
 stop:Mine.str es (att a k m) (att a k (m+1))=false
theorem Goes.wy{es:List E2}{a b c:Int×Int}(g:Goes es a b c):∀{k:Fin 8},b=stp a k->(a,b)∈es->∃m,Wy es a c k m:=by
 induction g with
 |@stop a b h=>
  intro k e he;subst e;refine⟨0,?_,λj hj=>?_,λj hj=>by omega,?_⟩
  ·show _=att a k (0+1)
   rw[QY,xX]
  ·have:j=0:=by lia
   subst this;show(att a k 0,att a k (0+1))∈es;rw[QY,xX,xa];exact he
  ·show str es (att a k 0) (att a k (0+1))=false
   rw[QY,xX,xa];exact h
 |@step a b c h g ih=>
  intro k e he;subst e;have hm:=zbi h;rw[YK] at hm;obtain⟨m,w⟩:=ih (k:=k) (YK a k) (by rw[YK];exact hm)
  have sh:∀j:Int,att (stp a k) k j=att a k (j+1):=λj=>by rw[←xX,xK,Int.add_comm]
  refine⟨m+1,?_,λj hj=>?_,λj hj=>?_,?_⟩
  ·rw[w.fin,sh];rfl
  ·cases j with
   |zero=>
    show(att a k 0,att a k (0+1))∈es
    rw[QY,xX,xa];exact he
   |succ j=>
    have:=w.mem j (by lia)
    rw[sh,sh] at this;exact this
  ·cases j with
   |zero=>
    show Mine.str es (att a k 0) (att a k (0+1))=true
    rw[QY,xX,xa];exact h
   |succ j=>
    have:=w.str j (by lia)
    rw[sh,sh] at this;exact this
  ·have:=w.stop;rw[sh,sh] at this;exact this
def Bgn(es:List E2)(a:Int×Int)(k:Fin 8):Prop:=¬((stp a (k+4),a)∈es/\str es (stp a (k+4)) a=true)
section
variable{es:List E2}{a a' c c':Int×Int}{k k':Fin 8}{m m':Nat}
theorem Wy.dir(h:Wy es a c k m)(h':Wy es a c k' m'):k=k':=zdn (by omega:(0:Int)<(m:Int)+1) (by omega:(0:Int)<(m':Int)+1) (h.fin.symm.trans h'.fin)
def Wy.one(h:Wy es a c k m)(h':Wy es a c' k m'):c=c':=by
 rcases Br m m' with z|z|z
 ·have:=h'.str m z;rw[h.stop] at this
  cases this
 ·subst z;rw[h.fin,h'.fin]
 ·have:=h.str m' z;rw[h'.stop] at this
  cases this
theorem Wy.from(h:Wy es a c k m):a=att c (k+4) (m+1):=by
 rw[W1,h.fin,xK,show((m:Int)+1+ -((m:Int)+1))=0 by lia,xa]
theorem Wy.last(h:Wy es a c k m):(stp c (k+4),c)∈es:=by
 have:=h.mem m (pG _);rw[←h.fin] at this;rw[qv,h.fin,xK,show((m:Int)+1+ -1)=m by lia,←h.fin]
 exact this
theorem Wy.lastS(h:Wy es a c k m):Mine.str es (stp c (k+4)) c=false:=by
 have:=h.stop;rw[←h.fin] at this;rw[qv,h.fin,xK,show((m:Int)+1+ -1)=m by lia,←h.fin]
 exact this
def Wy.first(h:Wy es a c k m):(a,stp a k)∈es:=by
 have:=h.mem 0 (uL _);rw[show((0:Nat):Int)=0 from rfl,QY,xX,xa] at this;exact this
theorem Wy.lt(h:Wy es a c k m)(h':Wy es a' c k m')(b:Bgn es a k)(z:m<m'):False:=by
 have e:a=att a' k ((m':Int)-m):=by
  have:=h.from
  rw[W1,h'.fin,xK,show((m':Int)+1+ -((m:Int)+1))=(m':Int)-m by lia] at this
  exact this
 have e1:((m':Int)-m)=((m'-m-1:Nat):Int)+1:=by omega
 have h1:=h'.mem (m'-m-1) (by lia)
 have h2:=h'.str (m'-m-1) (by omega)
 rw[←e1,←e] at h1 h2;refine b ?_;rw[qv];have e2:att a k (-1)=att a' k ((m'-m-1:Nat):Int):=by
  rw[e,xK,show((m':Int)-m+ -1)=((m'-m-1:Nat):Int) by lia]
 rw[e2];exact⟨h1,h2⟩
def Wy.back(h:Wy es a c k m)(h':Wy es a' c k m')(b:Bgn es a k)(b':Bgn es a' k):a=a':=by
 rcases Br m m' with z|z|z
 ·exact(h.lt h' b z).elim
 ·subst z;rw[h.from,h'.from]
 ·exact(h'.lt h b' z).elim
theorem Wy.ne(h:Wy es a c k m):a≠c:=λz=>by
 have e:=h.fin;rw[←z] at e;have:att a k 0=att a k ((m:Int)+1):=by rw[xa];exact e
 have:=Xr this;lia
end
structure Wys(es:List E2)(ws:List E2):Prop where
 nd:ws.Nodup
 of:∀w,w∈ws->∃k m,Wy es w.1 w.2 k m/\Bgn es w.1 k
 all:∀a k,(a,stp a k)∈es->Bgn es a k->∃c m,(a,c)∈ws/\Wy es a c k m
section
variable{cs:List C3}{es ws:List E2}
def Edg.bgn(E:Edg cs es){a c:Int×Int}{k j:Fin 8}{m:Nat}(h:Wy es a c k m)(hj:(c,stp c j)∈es):Bgn es c j:=by
 rintro⟨h1,h2⟩;have e:stp (stp c (j+4)) j=c:=by
  have:=wg c (j+4)
  rwa [f44] at this
 have one:∀j',oB (sec cs c) j'=true->j'=j:=λj' z=>by
  have z:=E.out.mpr z;have g:∀d,d=c->str es (stp c (j+4)) d=true/\(d,stp d j')∈es:=λd q=>by rw[q];exact⟨h2,z⟩
  exact Yp (a:=stp c (j+4)) (g _ e).1 (g _ e).2
 have i1:=E.inn.mp h1;have i2:=E.inn.mp h.last;have ek:=v_one one i1 i2;rw[ek,h.lastS] at h2
 cases h2
def Wys.next(E:Edg cs es)(W:Wys es ws){a c:Int×Int}{k j:Fin 8}{m:Nat}(h:Wy es a c k m)(hj:oB (sec cs c) j=true):∃d n,(c,d)∈ws/\Wy es c d j n:=W.all c j (E.out.mpr hj) (E.bgn h (E.out.mpr hj))
theorem Wys.rev(E:Edg cs es)(W:Wys es ws){w:E2}(h:w∈ws):¬(w.2,w.1)∈ws:=λz=>by
 obtain⟨k,m,h1,_⟩:=W.of w h;obtain⟨j,n,h2,_⟩:=W.of _ z;have e:j=k+4:=by
  have a:=h2.fin;have b:=h1.from
  exact zdn (by lia:(0:Int)<(n:Int)+1) (by lia:(0:Int)<(m:Int)+1) (a.symm.trans b)
 have l:=h2.last;dsimp only at l;rw[e,f44] at l;have i1:=E.inn.mp l
 have o1:=E.out.mp h1.first
 exact Ju i1 o1 rfl
end
noncomputable def sg8(k j:Fin 8):Int:=sgn ((dv k).1*(dv j).2-(dv k).2*(dv j).1)
def sg8_rk:∀k j j':Fin 8,j≠k->j'≠k->rk k j<rk k j'->((if sg8 k j=sg8 k j' then decide (sg8 j j'<0) else decide (sg8 k j<sg8 k j'))=true/\(if sg8 k j'=sg8 k j then decide (sg8 j' j<0) else decide (sg8 k j'<sg8 k j))=false):=by decide
theorem YB{a:Int×Int}{k j:Fin 8}{m n:Int}(hm:0<m)(hn:0<n):sgn (ori a (att a k m) (att a j n))=sg8 k j:=by
 have e:ori a (att a k m) (att a j n)=m*n*((dv k).1*(dv j).2-(dv k).2*(dv j).1):=by
  unfold ori att;dsimp only
  grind
 have h:0<m*n:=QV hm hn;unfold sg8;rw[e];generalize (dv k).1*(dv j).2-(dv k).2*(dv j).1=z;generalize m*n=y at*;have s2:=wB (a:=0) (b:=z) h;have s4:=wB (a:=z) (b:=0) h;rw[Uy] at s2 s4;exact zbw s2 s4
def zhr{f:Fr}(hw:0<f.w)(hd:0<fd2 f){a:Int×Int}{k j j':Fin 8}{m n n':Int}(hm:0<m)(hn:0<n)(hn':0<n')(h1:j≠k)(h2:j'≠k)(h:rk k j<rk k j'):soon (PF f a) (PF f (att a k m)) (PF f (att a j n)) (PF f (att a j' n'))=true/\soon (PF f a) (PF f (att a k m)) (PF f (att a j' n')) (PF f (att a j n))=false:=by
 rw[Zt hw hd,Zt hw hd,YB hm hn,YB hm hn',YB hn hn',YB hn' hn];exact sg8_rk k j j' h1 h2 h
noncomputable def tdF(f:Fr)(e:E2):Q3×Q3:=(PF f e.1,PF f e.2)
section
variable{f:Fr}{cs:List C3}{es ws:List E2}
def j6(hw:0<f.w)(hd:0<fd2 f){e e':E2}(h:tdF f e=tdF f e'):e=e':=by
 unfold tdF at h
 injection h with h1 h2
 exact Qg (wC hw hd h1) (wC hw hd h2)
def leav_td(hw:0<f.w)(hd:0<fd2 f){p:Int×Int}{t:Q3}(h:t∈leav (ws.map (tdF f)) (PF f p)):∃q,(p,q)∈ws/\t=PF f q:=by
 obtain⟨⟨a,b⟩,h1,h2⟩:=pL.mp (VM.mp h);unfold tdF at h2
 injection h2 with h2 h3
 have:=wC hw hd h2;subst this;exact⟨b,h1,h3.symm⟩
def za5{p q:Int×Int}(h:(p,q)∈ws):PF f q∈leav (ws.map (tdF f)) (PF f p):=VM.mpr (pL.mpr ⟨(p,q),h,rfl⟩)
theorem XN(hw:0<f.w)(hd:0<fd2 f)(E:Edg cs es)(W:Wys es ws){a c:Int×Int}{k:Fin 8}{m:Nat}(h:Wy es a c k m):∃d j n,(c,d)∈ws/\Wy es c d j n/\jQ (PF f c) (PF f a) (leav (ws.map (tdF f)) (PF f c))=PF f d/\∀j',oB (sec cs c) j'=true->rk (k+4) j<=rk (k+4) j':=by
 have i1:=E.inn.mp h.last;obtain⟨j0,o0⟩:=v1 i1;obtain⟨j,oj,mj⟩:=v_min (p:=oB (sec cs c)) (f:=rk (k+4)) _ ⟨j0,o0,pG _⟩
 obtain⟨d,n,hd1,wd⟩:=W.next E h oj
 refine⟨d,j,n,hd1,wd,zf5 (za5 hd1) λt ht ne=>?_,mj⟩;obtain⟨q,hq,rfl⟩:=leav_td hw hd ht;obtain⟨j',n',wq,_⟩:=W.of _ hq;dsimp only at wq
 have oq:=E.out.mp wq.first
 have nj:j≠j':=λz=>by
  subst z;exact ne (by rw[wd.one wq])
 have lt:rk (k+4) j<rk (k+4) j':=by
  have:=mj j' oq;rcases Nat.lt_or_eq_of_le this with z|z
  ·exact z
  ·exact absurd (rk_inj _ _ _ z) nj
 rw[h.from,wd.fin,wq.fin];exact zhr hw hd (by lia) (by lia) (by lia) (Ju i1 oj) (Ju i1 oq) lt
def XY(hw:0<f.w)(hd:0<fd2 f)(E:Edg cs es)(W:Wys es ws):Fen (ws.map (tdF f)):=by
 refine⟨?_,λe he=>?_,λe he z=>?_,λe he=>?_,λe e' he he' z=>?_⟩
 ·rw[pN,QM];exact(pN.mp W.nd).imp λn z=>n (j6 hw hd z)
 ·obtain⟨x,hx,rfl⟩:=pL.mp he;obtain⟨k,m,h,_⟩:=W.of x hx;exact λz=>h.ne (wC hw hd z)
 ·obtain⟨x,hx,rfl⟩:=pL.mp he;obtain⟨y,hy,e2⟩:=pL.mp z;have:y=(x.2,x.1):=j6 hw hd e2;rw[this] at hy;exact W.rev E hx hy
 ·obtain⟨x,hx,rfl⟩:=pL.mp he;obtain⟨k,m,h,_⟩:=W.of x hx;obtain⟨d,j,n,hd1,_⟩:=XN hw hd E W h;exact List.ne_nil_of_mem (za5 hd1)
 ·obtain⟨x,hx,rfl⟩:=pL.mp he;obtain⟨y,hy,rfl⟩:=pL.mp he';obtain⟨k,m,h,b⟩:=W.of x hx;obtain⟨k',m',h',b'⟩:=W.of y hy;obtain⟨x1,x2⟩:=x;obtain⟨y1,y2⟩:=y;dsimp only at h b h' b';unfold suc at z
  injection z with z1 z2
  have:=wC hw hd z1;subst this;obtain⟨d,j,n,d1,d2,d3,d4⟩:=XN hw hd E W h;obtain⟨d',j',n',d1',d2',d3',d4'⟩:=XN hw hd E W h';dsimp only[tdF] at z2;rw[d3,d3'] at z2;have:=wC hw hd z2;subst this;have:=d2.dir d2';subst this;have e4:=v3 (E.inn.mp h.last) (E.inn.mp h'.last) d4 d4';have ek:k=k':=by rw[←f44 k,e4,f44]
  subst ek;rw[h.back h' b b']
end
noncomputable def kE(e:Q3×Q3):List (List Key):=[kQ e.1,kQ e.2]
def kE_inj{e f:Q3×Q3}(h:kE e=kE f):e=f:=by
 unfold kE at h
 injection h with h1 h2
 injection h2 with h2
 exact Qg (wP h1) (wP h2)
def S2H.nk{H:Hp}{p:Addr}{e:Q3×Q3}(h:S2H H p e):NK H p (kE e):=by
 obtain⟨c,d,h1,h2,h3⟩:=h;exact NK.two h1 h2.1 h3.1
def GnK(H:Hp)(kvs:List N3):Prop:=∀p,p∈kvs->∃e,p.1=kE e/\S2H H p.2.1 e
def GnK.kn{H:Hp}{kvs:List N3}(h:GnK H kvs):KN H kvs:=λp hp=>by
 obtain⟨e,e1,e2⟩:=h p hp;rw[e1];exact e2.nk
def GnK.ts{H H':Hp}{kvs:List N3}(h:GnK H kvs)(g:zJ H H'):GnK H' kvs:=λp hp=>by
 obtain⟨e,e1,e2⟩:=h p hp;exact⟨e,e1,wJ _ _ _ _ g e2⟩
def GnK.put{H:Hp}{kvs:List N3}{b:Addr}{e:Q3×Q3}{v:V}(h:GnK H kvs)(hb:S2H H b e):GnK H (yV kvs (kE e) b v):=by
 unfold yV
 split
 ·intro p hp;obtain⟨q,hq,z⟩:=pL.mp hp;obtain⟨f,f1,f2⟩:=h q hq;rw[←z]
  split
  ·exact⟨f,f1,f2⟩
  ·exact⟨f,f1,f2⟩
 ·intro p hp;rcases pd.mp hp with hp|hp
  ·exact h p hp
  ·rw[pZ.mp hp];exact⟨e,rfl,hb⟩
def YX{P:uB}{w:uW}{H:Hp}{D:Addr}{kvs:List N3}{o:HO}(h:H D=some (nD P w D kvs)):zJ H (upd H D o):=λb xs q=>by
 rw[zh (λz=>by rw[z,h] at q;cases q)]
 exact q
def y8(kvs:List N3)(e:Q3×Q3):Prop:=(yR kvs (kE e)).isSome=true
def has_put{kvs:List N3}{e f:Q3×Q3}{b:Addr}{v:V}:y8 (yV kvs (kE e) b v) f↔y8 kvs f∨f=e:=by
 unfold y8;rw[vh,Wo]
 by_cases c:(yR kvs (kE e)).isSome=true
 ·rw[if_pos c,vh];rw[vh] at c;exact⟨.inl,λh=>h.elim id λz=>by rw[z];exact c⟩
 ·rw[if_neg c,vh,pd,pZ];exact⟨λh=>h.imp id kE_inj,λh=>h.imp id λz=>by rw[z]⟩
noncomputable def dQ(r:Q3):De:=.tuple [.int r.x,.int r.y,.int r.w]
def rd_q{K:pI}{H:Hp}{p:Addr}{r:Q3}(h:QH H p r):RdD K H (dQ r) (.ref p):=by
 unfold dQ;rw[RdD];refine⟨p,_,rfl,.of h.1,?_⟩;rw[zO];refine⟨_,_,rfl,by rw[RdD],?_⟩
 rw[zO];refine⟨_,_,rfl,by rw[RdD],?_⟩
 rw[zO];refine⟨_,_,rfl,by rw[RdD],?_⟩
 rw[zO]
theorem rd_qs{K:pI}{H:Hp}:∀{zs:List V}{F:List Q3},LR QH H zs F->zO K H (F.map dQ) zs
 |[],[],_=>by rw[QF,zO]
 |[],_::_,h=>by cases h.1
 |v::zs,F,h=>by
  obtain⟨a,as,rfl,⟨p,rfl,hp⟩,t⟩:=h.cons_inv;rw[pR,zO];exact⟨_,_,rfl,rd_q hp,rd_qs t⟩
def rd_ql{K:pI}{H:Hp}{l:Addr}{zs:List V}{F:List Q3}(h:H l=some (.lst zs))(hz:LR QH H zs F):RdD K H (.list (F.map dQ)) (.ref l):=by
 rw[RdD];exact⟨l,_,rfl,.of h,rd_qs hz⟩
def dQ_lay(r:Q3):(dQ r).canLay0=true/\(dQ r).depth<=3:=by
 simp[dQ,UI,uU,Qw,uT]
theorem dQs_lay(F:List Q3):uU (F.map dQ)=true/\uT (F.map dQ)<=3:=by
 induction F with
 |nil=>exact⟨rfl,by simp[uT]⟩
 |cons r F ih=>
  have h:=dQ_lay r;rw[pR]
  constructor
  ·rw[uU,h.1,ih.1];rfl
  ·rw[uT];have:=h.2;have:=ih.2;lia
def Wt(a b:Q3):ut (dQ a) (dQ b)=decide (a=b):=by
 rw[Qa];obtain⟨x,y,w⟩:=a;obtain⟨x',y',w'⟩:=b
 simp[dQ,ut,uP]
theorem Ze:∀F G:List Q3,uP (F.map dQ) (G.map dQ)=decide (F=G)
 |[],[]=>by simp[uP]
 |[],_::_=>by simp[uP]
 |_::_,[]=>by simp[uP]
 |a::F,b::G=>by
  rw[pR,pR,uP,Wt,Ze F G];rw[Qa]
  simp
def dQs_eqv(F G:List Q3):ut (.list (F.map dQ)) (.list (G.map dQ))=decide (F=G):=by
 rw[ut,Ze]
noncomputable def dS(s:Q3×Q3):De:=.tuple [dQ s.1,dQ s.2]
def rd_s{K:pI}{H:Hp}{p:Addr}{s:Q3×Q3}(h:S2H H p s):RdD K H (dS s) (.ref p):=by
 obtain⟨c,d,h1,h2,h3⟩:=h;unfold dS;rw[RdD];refine⟨p,_,rfl,.of h1,?_⟩;rw[zO];refine⟨_,_,rfl,rd_q h2,?_⟩;rw[zO];refine⟨_,_,rfl,rd_q h3,?_⟩;rw[zO]
def JU(e:Q3×Q3):Qq (dS e)=true:=by
 simp[dS,dQ,Qq,UI,uU,Qw,uT]
def dS_eqv(a b:Q3×Q3):ut (dS a) (dS b)=decide (a=b):=by
 unfold dS;rw[ut,uP,uP,uP,Wt,Wt,Gu,Qa,BL,decide_eq_true_iff,decide_eq_true_iff,decide_eq_true_iff];exact⟨λh=>Qg h.1 h.2,λh=>by rw[h];exact⟨rfl,rfl⟩⟩
def zib{c:TT}{tb:TS}{D:Ends}{σ:St}{H:Hp}(Pv:St->Hp->Prop)(μ:St->Hp->Nat)(h0:Pv σ H)
  (hs:∀σ H,Pv σ H->c σ H λb H1=>if b=true then ∃N:St->Hp->Prop,(∀σ' H',N σ' H'->∃m',m'<μ σ H/\m'=μ σ' H'/\Pv σ' H')/\tb {D with nx:=N,ct:=N,bk:=D.nx} σ H1 else D.nx σ H1):Xc c tb D σ H:=by
 refine⟨λm σ H=>m=μ σ H/\Pv σ H,⟨_,rfl,h0⟩,?_⟩;rintro m σ H ⟨rfl,p⟩;exact hs σ H p
def zE.put{P D:Addr}{H H':Hp}{o:HO}(g:zE P H H')(h:H D=none):zE P H (upd H' D o):=λb u nb e=>by
 rw[zh (λz=>by rw[z,h] at e;cases e)]
 exact g b u nb e
def zE.own{D:Addr}{H H':Hp}{o:HO}(g:zE D H H'):zE D H (upd H' D o):=λb u nb e=>by
 rw[zh nb];exact g b u nb e
def zE.same{P:Addr}{H H' H'':Hp}(g:zE P H H')(g':ze H' H''):zE P H H'':=λb u nb e=>g' _ _ (g b u nb e)
def Xu{P:uB}{w:uW}{H H':Hp}{gn:Addr}{gk:List N3}(g:zE gn H H')(h:H gn=some (nD P w gn gk)):zJ H H':=λb xs q=>g b _ (λz=>by rw[z,h] at q;cases q) q
def yY{H:Hp}{a b:Addr}{o u:HO}{x:Option HO}(ne:a≠b)(h:H a=x):upd H b o a=x:=by
 rw[zh ne];exact h
def while_m{c:TT}{tb:TS}{D:L2.Ends}{σ:St}{H:Hp}(W:Nat->St->Hp->Prop)(h0:∃m,W m σ H)
  (hs:∀m σ H,W m σ H->c σ H λb H1=>if b=true then ∃N:St->Hp->Prop,(∀σ' H',N σ' H'->∃m',m'<m/\W m' σ' H')/\tb {D with nx:=N,ct:=N,bk:=D.nx} σ H1 else D.nx σ H1):Xc c tb D σ H:=⟨W,h0,hs⟩
noncomputable def pkW(w:List Q3):List (List Key×V):=(pP w.length).map λi=>(kQ (nx w i),V.int ((i:Nat):Int))
def WD(w:List Q3):(pkW w).length=w.length:=by unfold pkW;rw[pC,uS]
def pkW_at{w:List Q3}{i:Nat}(h:i<w.length):(pkW w)[i]?=some (kQ (nx w i),V.int ((i:Nat):Int)):=by
 unfold pkW;rw[pT,gQ h];rfl
def zdp{κ:Type}[DecidableEq κ]{k k':κ}{v:V}{r:List (κ×V)}:zr ((k',v)::r) k=if k'=k then some v else zr r k:=by
 unfold zr;rw[UT]
 by_cases c:k'=k
 ·rw[if_pos c]
  simp[c]
 ·rw[if_neg c]
  simp[c]
theorem Yx{κ:Type}[DecidableEq κ]{f:Nat->κ×V}{k:κ}:∀{l:List Nat}{i:Nat},i∈l->(f i).1=k->(∀j,j∈l->(f j).1=k->j=i)->zr (l.map f) k=some (f i).2
 |[],_,h,_,_=>by cases h
 |a::l,i,h,e,u=>by
  rw[pR,show f a=((f a).1,(f a).2) from rfl,zdp]
  by_cases c:(f a).1=k
  ·rw[if_pos c,u a (by simp) c]
  ·rw[if_neg c];rcases pS.mp h with z|z
   ·rw[←z] at c;exact absurd e c
   ·exact Yx z e λj hj=>u j (pE _ hj)
theorem ze5{κ:Type}[DecidableEq κ]{k:κ}:∀{l:List (κ×V)},(∀p,p∈l->p.1≠k)->zr l k=none
 |[],_=>rfl
 |(k',v)::l,h=>by
  rw[zdp,if_neg (h (k',v) (by simp))]
  exact ze5 λp hp=>h p (pE _ hp)
def pkW_val{w:List Q3}(nd:w.Nodup){i:Nat}(h:i<w.length):zr (pkW w) (kQ (nx w i))=some (V.int ((i:Nat):Int)):=
 Yx (f:=λi=>(kQ (nx w i),V.int ((i:Nat):Int))) (pQ.mpr h) rfl λj hj e=>zcx nd (pQ.mp hj) h (wP e)
theorem JP{w:List Q3}{p:Q3}(h:¬p∈w):zr (pkW w) (kQ p)=none:=by
 refine ze5 λq hq e=>h ?_;unfold pkW at hq;obtain⟨i,hi,rfl⟩:=pL.mp hq;rw[←wP e];exact Xx (by have:=pQ.mp hi;lia) i
def zhp{w:List Q3}{p:Q3}:pkW (w++[p])=pkW w++[(kQ p,V.int ((w.length:Nat):Int))]:=by
 unfold pkW;rw[pK,uz,QQ,uF,pR,QF,Wh]
 congr 1
 refine Qx λi hi=>?_;rw[Yg (pQ.mp hi)]
theorem zhb{w:List Q3}{i:Nat}(h:i<w.length):pkW (w.take (i+1))=(pkW w).take (i+1):=by
 unfold pkW;rw[uI,hV (by lia),←List.map_take,List.take_range,hV (by lia)]
 refine Qx λj hj=>?_;rw[qG h (by have:=pQ.mp hj;lia)]
theorem Zg{H H':Hp}{gn q:Addr}{o:HO}(g:zE gn H H')(hg:H' gn=some o)(hq:H' q=none):H q=none:=by
 cases z:H q with
 |none=>rfl
 |some u=>
  rw[g q u (λy=>by rw[y,hg] at hq;cases hq) z] at hq
  cases hq
def ts_T{H H':Hp}{D:Addr}{kvs:List (List Key×V)}(g:zE D H H')(h:H D=some (.dT kvs)):zJ H H':=λb xs q=>g b _ (λz=>by rw[z,h] at q;cases q) q
def RgX(H0:Hp)(R W:Addr)(H:Hp)(p:Addr)(r:List Q3):Prop:=H0 p=none/\p≠R/\p≠W/\RgQ H p r
inductive WayJ (P:uB) (w:uW) (H:Hp) (st lv gn R D:Addr) (gk:List N3) (ss:List (Q3×Q3)) (e:Q3×Q3) (m:Nat) (σ:St) (H':Hp):Prop
 |mk (t:Nat) (f W:Addr) (ys zs:List V) (wy:List Q3) (rs:List (List Q3)) (gk':List N3) (o1 o2 o3:Option V) (_:σ=[some (V.ref st),some (V.ref lv),some (V.ref gn),some (V.ref R),some (V.ref W),some (V.ref D),some (V.ref f),o1,o2,o3]) (_:m=ss.length-t) (_:zE gn H H') (_:H' gn=some (nD P w gn gk')) (_:GnK H' gk') (_:(∀g,y8 gk' g↔y8 gk g∨∃i,i<t/\g=itr ss e i)) (_:gk'.length<=gk.length+t) (_:H' R=some (.lst zs)) (_:LR (RgX H R W) H' zs rs) (_:zs.length<=t) (_:H W=none) (_:W≠R) (_:H' W=some (.lst ys)) (_:LR QH H' ys wy) (_:wy.length<=t+1) (_:H' D=some (.dT (pkW wy))) (_:S2H H' f (itr ss e t)) (_:Way ss e t wy rs):WayJ P w H st lv gn R D gk ss e m σ H'
inductive Zp (P:uB) (w:uW) (vs:List V) (H:Hp) (Q:VK) (E:XK):Prop
 |mk (H0:Hp) (st lv gn:Addr) (kvs:List (List Key×V)) (gk:List N3) (ss:List (Q3×Q3)) (e:Q3×Q3) (_:vs=[.ref st,.ref lv,.ref gn]) (_:S2H H st e) (_:Lv H0 H lv kvs ss) (_:ss.length<=191) (_:H gn=some (nD P w gn gk)) (_:GnK H gk) (_:gk.length<=10000) (_:Fen ss) (_:e∈ss) (_:∀(R:Addr)(zs:List V)(rs:List (List Q3))(t:Nat)(H':Hp)(gk':List N3),zE gn H H'->H' gn=some (nD P w gn gk')->GnK H' gk'->(∀g,y8 gk' g↔y8 gk g∨g∈(pP (t+1)).map (itr ss e))->gk'.length<=gk.length+(t+1)->t<ss.length->H R=none->H' R=some (.lst zs)->LR (RgX H R R) H' zs rs->zs.length<=t+1->(∀q,q∈rs->q.Nodup/\2<=q.length)->(rs.flatMap sds).Perm ((pP (t+1)).map (itr ss e))->suc ss (itr ss e t)=e->(∀j,0<j->j<=t->itr ss e j≠e)->rs=(wyF ss e t).2++[(wyF ss e t).1]->Q (.ref R) H'):Zp P w vs H Q E
theorem zfg(T:Txt K mg ad fd):zv P w K mg base CX0 6 (ad 20) (fd 20) ["start","leaving","gone"] (Zp P w):=by
 refine T.way_round.fn.ok wR (λvs H Q E h=>?_) (λcdv A outer s H vs Q E hr h=>?_)
 ·obtain⟨H0,st,lv,gn,kvs,gk,ss,e,rfl,_⟩:=h;rfl
 obtain⟨H0,st,lv,gn,kvs,gk,ss,e,rfl,hst,hlv,hss,hgn,hgk,lgk,Fe,hes,k⟩:=h;refine⟨_,
  (pss5
   (zk 3 wR.nd (yN yM))
   (zk 4 wR.nd (yN (pa1 (zd zf (pm 0) za) zY)))
   (zk 5 wR.nd (zeq (xj hr) (zd zf (pm 0) za) za))
   (zk 6 wR.nd (pm 0))
   (Xk uE (xc wD) (pss5
   (ZV (P:=P) (w:=w) rfl rfl (hu64 hr) (pm 2) (pm 6) wD rfl)
   (zk 7 wR.nd (zd zf (pm 6) za))
   (zk 6 wR.nd (ye (pa2 (pm 7) zb (zu (zh6 T) T.first_right hr (pa3 (pm 7) zb (zd zf (pm 6) za) zY (qk (xj hr) (pm 1) (pm 7) λ_ _=>rfl) zY)) yw)))
   (zL (zM (Y4 (hu64 hr)) (pm 6) (pm 0) (nomark _)) (pss2
   (xD (xM uQ uo uq xU (pm 3) (pa1 (pm 4) zb)))
   (zq (pm 3))) zR)
   (zL (Yn (pc_din (xj hr) (pm 7) (pm 5))) (pss4
   (zk 8 wR.nd (vJ vG (pm 4) (vw (qk (xj hr) (pm 5) (pm 7) λ_ _=>rfl)) vD))
   (xD (xM uQ uo uq xU (pm 3) (pa1 (pm 8) zb)))
   (zk 4 wR.nd (vJ vG (pm 4) vD (vw (zc zQ (qk (xj hr) (pm 5) (pm 7) λ_ _=>rfl) za))))
   (yv uE rfl (yd (vJ vG (pm 8) (vw za) vD)) (zD 9 wR.nd) (zp (xD (zj3 (xj hr) (pm 5) (pm 9) ⟨rfl,rfl,rfl,rfl⟩))))) (pss2
   (Xb (xj hr) (pm 5) (pm 7) (ya y7 rfl T.b_len yG (pa1 (pm 4) zb)) rfl)
   (xD (xM uQ uo uq xU (pm 4) (pa1 (pm 7) zb))))))))
  ,?_⟩
 dsimp! [L2.start]
 obtain⟨s0,s1,hst',hs0,hs1⟩:=id hst;simp! [zbm];intro R hR;have gR:=zg hR (HO.lst []);have hR1:upd H R (HO.lst []) R=some (.lst []):=upd_same;generalize upd H R (HO.lst [])=H1 at*;have hst1:=gR _ _ hst';simp! [hst1];intro W hW;have gW:=zg hW (HO.lst [V.ref s0]);have hW1:upd H1 W (HO.lst [V.ref s0]) W=some (.lst [V.ref s0]):=upd_same;generalize upd H1 W (HO.lst [V.ref s0])=H2 at*;intro D hD;have gD:=zg hD (HO.dT (putK [] (kQ e.1) (V.int 0)));have gD':=zg hD (HO.dT []);have g2:=gR.trans gW;have hRW:R≠W:=xu hR1 hW;have hRD:R≠D:=xu (gW _ _ hR1) hD;have hWH:H W=none:=gR.free hW;have hDH:H D=none:=g2.free hD;have lvn:lv≠gn:=λz=>by have:=hlv.at_;rw[z,hgn] at this;cases this
 refine⟨_,gD' _ _ (g2 _ _ hst'),_,at0,kQ e.1,s0,rfl,(gD' _ _ (g2 _ _ hs0.1)),?_⟩;refine while_m (WayJ P w H st lv gn R D gk ss e) ⟨_,0,st,W,[V.ref s0],[],[e.1],[],gk,none,none,none,rfl,rfl,λb u nb z=>gD _ _ (g2 _ _ z),gD _ _ (g2 _ _ hgn),hgk.ts (zI (g2.trans gD)),λg=>⟨.inl,λh=>h.elim id λ⟨i,hi,_⟩=>absurd hi (Nat.not_lt_zero _)⟩,pG _,gD _ _ (gW _ _ hR1),.nil,pG _,hWH,hRW.symm,gD _ _ hW1,LR.one (R:=QH) (hs0.same (g2.trans gD)),pG _,upd_same,wJ _ _ _ _ (zI (g2.trans gD)) hst,Way.start⟩ ?_;clear gD gD' gR gW hW1 hR1 hRW hWH hD hW;rintro m σ H3 ⟨t,f,W,ys,zs,wy,rs,gk2,o1,o2,o3,rfl,rfl,sg,hg3,hk3,hh,lg,hR3,hz3,lz,hWH,nWR,hW3,hy3,lw3,hD3,hf,wa⟩;have tf:=Fe.few hes wa.no;have fm:=Fe.itr hes t;have pos:=wa.pos;have lyw:=hy3.1;obtain⟨f0,f1,hf',hf0,hf1⟩:=id hf;refine⟨true,rfl,vx ⟨_,λσ' H' z=>z,?_⟩⟩;refine ym λfX hX=>?_;simp! [XW];refine⟨gk2,hg3,hk3.kn,kE (itr ss e t),hf.nk,small10k (by lia),?_⟩
 generalize hO:nD P w gn (yV gk2 (kE (itr ss e t)) f (V.bl true))=O;have tp:=YX (o:=O) hg3;have hg4:upd H3 gn O gn=some O:=upd_same;have hk4:=(hk3.put (v:=V.bl true) hf).ts tp;have sg4:=zE.own sg (o:=O);have hR4:=yY (o:=O) (u:=.lst []) (a:=R) (b:=gn) (λz=>by rw[z,hg3] at hR3;cases hR3) hR3
 have hW4:=yY (o:=O) (u:=.lst []) (a:=W) (b:=gn) (λz=>by rw[z,hg3] at hW3;cases hW3) hW3
 have hD4:=yY (o:=O) (u:=.lst []) (a:=D) (b:=gn) (λz=>by rw[z,hg3] at hD3;cases hD3) hD3
 have hy4:=hy3.ts yi tp;have hz4:LR (RgX H R W) (upd H3 gn O) zs rs:=hz3.imp λp r⟨x1,x2,x3,us,x4,x5⟩=>⟨x1,x2,x3,us,yY (u:=.lst []) (λz=>by rw[z,hg3] at x4;cases x4) x4,x5.ts yi tp⟩
 have hf4:=tp _ _ hf';have hf04:QH _ f0 (itr ss e t).1:=yi _ _ _ _ tp hf0;have hf14:QH _ f1 (itr ss e t).2:=yi _ _ _ _ tp hf1;generalize upd H3 gn O=H4 at*;have ts4:zJ H H4:=Xu sg4 hgn;have hlv4:H4 lv=some (.dT kvs):=sg4 _ _ lvn hlv.at_;have out:=Fe.out _ fm;obtain⟨v,hv⟩:∃v,zr kvs (kQ (itr ss e t).2)=some v:=by
  cases z:zr kvs (kQ (itr ss e t).2) with
  |some v=>exact⟨v,rfl⟩
  |none=>exact absurd (hlv.non _ z) out
 obtain⟨l,us,rfl,_,hl,hu⟩:=hlv.ent _ _ hv;have hl4:H4 l=some (.lst us):=sg4 _ _ (λz=>by rw[z,hgn] at hl;cases hl) hl
 have lu:us.length<=200:=by rw[hu.1];exact pz (ZQ _ _) (by lia)
 refine hX _ _ (ym λfX hX=>?_);simp! [hf4];refine hX _ _ (ym λfX hX=>?_);simp! [qT,hf4];refine⟨_,by rw[←hv];exact .t (k:=kQ (itr ss e t).2) hlv4 hf14.1,f1,f0,l,us,(itr ss e t).2,(itr ss e t).1,leav ss (itr ss e t).2,rfl,hf14,hf04,hl4,lu,hu.ts yi ts4,out,λrr H5 g5 hr5=>?_⟩
 intro p hp;have g6:=zg hp (HO.tup [V.ref f1,V.ref rr]);have hp6:upd H5 p (HO.tup [V.ref f1,V.ref rr]) p=some (.tup [V.ref f1,V.ref rr]):=upd_same;generalize upd H5 p (HO.tup [V.ref f1,V.ref rr])=H6 at*;have g46:=g5.trans g6;have hf16:=hf14.same g46;have hs6:S2H H6 p (suc ss (itr ss e t)):=⟨f1,rr,hp6,hf16,hr5.same g6⟩;have sg6:=zE.same sg4 g46;have ts6:zJ H H6:=Xu sg6 hgn;have hg6:=g46 _ _ hg4;have hR6:=g46 _ _ hR4;have hW6:=g46 _ _ hW4;have hD6:=g46 _ _ hD4;have hy6:=hy4.same g46;have hk6:=hk4.ts (zI g46);have hz6:LR (RgX H R W) H6 zs rs:=hz4.imp λp r⟨x1,x2,x3,x4⟩=>⟨x1,x2,x3,x4.same g46⟩;have lp:=Ws gk2 (kE (itr ss e t)) f (V.bl true);have hh6:∀g,y8 (yV gk2 (kE (itr ss e t)) f (V.bl true)) g↔y8 gk g∨∃i,i<t+1/\g=itr ss e i:=λg=>by
  rw[has_put,hh,or_assoc];refine or_congr DV ⟨λh=>?_,λ⟨i,hi,z⟩=>?_⟩
  ·rcases h with⟨i,hi,z⟩|z
   ·exact⟨i,by lia,z⟩
   ·exact⟨t,by lia,z⟩
  ·rcases AH i t with y|y
   ·exact .inl ⟨i,y,z⟩
   ·exact .inr (by rw[z,show i=t by lia])
 refine hX _ _ (ym λfX hX=>?_);simp! [];refine⟨_,_,rd_s hs6,rd_s (wJ _ _ _ _ ts6 hst),JU _,JU _,_,rfl,?_⟩;rw[dS_eqv]
 by_cases c:suc ss (itr ss e t)=e
 ·rw[decide_eq_true c];refine vx ⟨xB hR6,zs,hR6,small1000 (by lia),?_⟩
  subst hO;obtain⟨d1,d2⟩:=wa.done Fe hes c;refine k R (zs++[V.ref W]) (rs++[wy]) t _ _ (zE.put sg6 hR) (yY (u:=.lst []) (λz=>by rw[z,hR6] at hg6;cases hg6) hg6) (hk6.ts (yS hR6)) (λg=>?_) (by lia) tf hR upd_same ?_ (by rw[pK,uz];lia) d1 d2 c wa.no (by rw[wa.fn])
  ·rw[hh6,pL];exact or_congr DV ⟨λ⟨i,hi,z⟩=>⟨i,pQ.mpr hi,z.symm⟩,λ⟨i,hi,z⟩=>⟨i,pQ.mp hi,z.symm⟩⟩
  ·refine(LR.snoc (R:=RgX H R R) (hz6.imp λp r⟨x1,x2,x3,x4⟩=>⟨x1,x2,x2,x4⟩) (p:=W) (a:=wy) ⟨hWH,nWR,nWR,ys,hW6,hy6⟩).imp λp r⟨x1,x2,x3,x4⟩=>⟨x1,x2,x3,x4.put x2 hR6⟩
 ·rw[decide_eq_false c];refine yE ?_;refine hX _ _ ?_;simp! [tDIn,qT,YC,V7];refine⟨_,.t (k:=kQ (itr ss e t).2) hD6 hf16.1,?_⟩
  by_cases pw:(itr ss e t).2∈wy
  ·obtain⟨i,hi,ei⟩:=UC.mp pw;rw[←xg hi] at ei;have vi:=pkW_val wa.nd hi;rw[ei] at vi;rw[vi];refine vx ⟨_,by rw[←vi];exact .t (k:=kQ (itr ss e t).2) hD6 hf16.1,_,rfl,ys,hW6,λq1 hq1=>?_⟩
   rw[ZP (xs:=ys) (m:=i) (by lia)]
   have g7:=zg hq1 (HO.lst (ys.drop i));have h71:upd H6 q1 (HO.lst (ys.drop i)) q1=some (HO.lst (ys.drop i)):=upd_same;have q1H:=Zg sg6 hg6 hq1;have q1R:q1≠R:=λz=>by rw[z,hR6] at hq1;cases hq1
   have q1W:q1≠W:=λz=>by rw[z,hW6] at hq1;cases hq1
   generalize upd H6 q1 (HO.lst (ys.drop i))=H7 at*;have hR7:=g7 _ _ hR6;refine⟨xB hR7,zs,hR7,small1000 (by lia),?_⟩
   have nDR:D≠R:=hRD.symm;have t8:=yS (o:=HO.lst (zs++[V.ref q1])) hR7;have h81:=yY (o:=HO.lst (zs++[V.ref q1])) (u:=.lst []) q1R h71;have hD8:=yY (o:=HO.lst (zs++[V.ref q1])) (u:=.lst []) nDR (g7 _ _ hD6);have hW8:=yY (o:=HO.lst (zs++[V.ref q1])) (u:=.lst []) nWR (g7 _ _ hW6);have hg8:=yY (o:=HO.lst (zs++[V.ref q1])) (u:=.lst []) (a:=gn) (b:=R) (λz=>by rw[z,hR6,←hO] at hg6;cases hg6) (g7 _ _ hg6)
   have hR8:upd H7 R (HO.lst (zs++[V.ref q1])) R=some (HO.lst (zs++[V.ref q1])):=upd_same;have sg8:=zE.put (zE.same sg6 g7) (o:=HO.lst (zs++[V.ref q1])) hR;have t68:zJ H6 _:=XX (zI g7) t8;have hf18:=yi _ _ _ _ t68 hf16;have hz8:LR (RgX H R W) (upd H7 R (HO.lst (zs++[V.ref q1]))) (zs++[V.ref q1]) (rs++[wy.drop i]):=(LR.snoc (R:=RgX H R W) (hz6.imp λp r⟨x1,x2,x3,x4⟩=>⟨x1,x2,x3,x4.same g7⟩) (p:=q1) (a:=wy.drop i) ⟨q1H,q1R,q1W,_,h71,(hy6.drop i).same g7⟩).imp λp r⟨x1,x2,x3,x4⟩=>⟨x1,x2,x3,x4.put x2 hR7⟩;have hy8:=hy6.ts yi t68;have hk8:=hk6.ts t68;have hs8:=wJ _ _ _ _ t68 hs6;generalize upd H7 R (HO.lst (zs++[V.ref q1]))=H8 at*;refine⟨_,by rw[←vi];exact .t (k:=kQ (itr ss e t).2) hD8 hf18.1,_,rfl,ys,hW8,λq2 hq2=>?_⟩
   rw[show((i:Int)+1)=((i+1:Nat):Int) by lia,zb3 (xs:=ys) (m:=i+1) (by lia)]
   have g9:=zg hq2 (HO.lst (ys.take (i+1)));have h92:upd H8 q2 (HO.lst (ys.take (i+1))) q2=some (HO.lst (ys.take (i+1))):=upd_same;have q2H:=Zg sg8 hg8 hq2;have q2R:q2≠R:=λz=>by rw[z,hR8] at hq2;cases hq2
   have hz9:LR (RgX H R q2) (upd H8 q2 (HO.lst (ys.take (i+1)))) (zs++[V.ref q1]) (rs++[wy.drop i]):=hz8.imp λp r⟨x1,x2,x3,us',x4,x5⟩=>⟨x1,x2,(λz=>by rw[z,hq2] at x4;cases x4),us',g9 _ _ x4,x5.same g9⟩
   generalize upd H8 q2 (HO.lst (ys.take (i+1)))=H9 at*;have h91:=g9 _ _ h81;refine yo ?_;simp! [zX,h91,WT];intro q3 hq3;have gA:=zg hq3 (HO.lst ((ys.drop i).drop 1));have hA3:upd H9 q3 (HO.lst ((ys.drop i).drop 1)) q3=some (HO.lst ((ys.drop i).drop 1)):=upd_same;generalize upd H9 q3 (HO.lst ((ys.drop i).drop 1))=HA at*;have g8A:=g9.trans gA;have hDA:=g8A _ _ hD8;have hyA:=hy8.same g8A;refine⟨⟨_,.of hA3⟩,?_⟩;refine xz (K:=K) (a:=q3) (xs:=(ys.drop i).drop 1) (λj σ H'=>zE D HA H'/\H' D=some (.dT ((pkW wy).take (i+1)++(pkW wy).drop (i+1+j)))/\∃o:Option V,σ=[some (V.ref st),some (V.ref lv),some (V.ref gn),some (V.ref R),some (V.ref q2),some (V.ref D),some (V.ref p),some (V.ref f1),some (V.ref q1),o]) ⟨λ_ _ _ h=>h,by rw[Fp,Qk];exact hDA,o3,rfl⟩ (λj σ H' _ iv=>.of (iv.1 _ _ (λz=>by rw[z,hDA] at hA3;cases hA3) hA3)) ?_ ?_
   ·intro _ _;rintro j v σ HB hj ⟨sB,hDB,o,rfl⟩;rw[BB,gf] at hj;obtain⟨b,x,rfl,hx,hb⟩:=hyA.2 _ v hj;have hlt:=(pF.mp hx).1;have ex:nx wy (i+1+j)=x:=by
     rw[YZ (by lia)] at hx
     exact ux hx
    have hbB:HB b=some (.tup ((kQ x).map kV)):=sB _ _ (λz=>by have:=hb.1;rw[z,hDA] at this;cases this) hb.1
    have dr:(pkW wy).drop (i+1+j)=(kQ x,V.int ((i+1+j:Nat):Int))::(pkW wy).drop (i+1+(j+1)):=by
     have l1:i+1+j<(pkW wy).length:=by rw[WD];exact hlt
     rw[hZ l1];have:=pkW_at hlt;rw[pJ l1,ex] at this;rw[ux this];rfl
    rw[dr] at hDB;simp! [V7];exact⟨qL hDB,_,_,_,⟨_,hDB⟩,hbB,zE.own sB,rfl⟩
   ·rintro σ HB ⟨sB,hDB,o,rfl⟩;subst hO;have le:i+1+((ys.drop i).drop 1).length=wy.length:=by rw[uK,uK];lia
    rw[le,Ai (by rw[WD];exact pG _),uR,←zhb hi] at hDB
    have tB:zJ HA HB:=ts_T sB hDA;have nD:∀{a:Addr}{xs:List V},HA a=some (.lst xs)->HB a=some (.lst xs):=λh=>sB _ _ (λz=>by rw[z,hDA] at h;cases h) h
    have ngD:gn≠D:=λz=>by rw[z,hD8] at hg8;cases hg8
    refine⟨ss.length-(t+1),by lia,t+1,p,q2,ys.take (i+1),zs++[V.ref q1],wy.take (i+1),rs++[wy.drop i],_,_,_,_,rfl,rfl,?_,sB _ _ ngD (g8A _ _ hg8),(hk8.ts (zI g8A)).ts tB,hh6,by lia,nD (g8A _ _ hR8),?_,by rw[pK,uz];lia,q2H,q2R,nD (gA _ _ h92),((hyA.take (i+1)).ts yi tB),by rw[uI];lia,hDB,wJ _ _ _ _ tB (wJ _ _ _ _ (zI g8A) hs8),wa.cut Fe hes hi ei c⟩
    ·intro b u nb z;exact sB _ _ (λy=>by rw[y,hDH] at z;cases z) (g8A _ _ (sg8 b u nb z))
    ·exact hz9.imp λp r⟨x1,x2,x3,us',x4,x5⟩=>⟨x1,x2,x3,us',nD (gA _ _ x4),(x5.same gA).ts yi tB⟩
  ·rw[JP pw];have hD7:=Yw.t (v:=V.int ys.length) (k:=kQ (itr ss e t).2) hD6 hf16.1 (small1000 (by rw[WD];lia))
   refine yE ⟨ys,.inl hW6,_,hD7,?_⟩;rw[zab _ (JP pw),show((ys.length:Int))=((wy.length:Nat):Int) by lia,←zhp]
   have nWD:W≠D:=λz=>by rw[z,hD6] at hW6;cases hW6
   have t7:=Jb (o:=.dT (pkW (wy++[(itr ss e t).2]))) hD6;have hW7:=yY (o:=.dT (pkW (wy++[(itr ss e t).2]))) (u:=.lst []) nWD hW6;have hR7:=yY (o:=.dT (pkW (wy++[(itr ss e t).2]))) (u:=.lst []) hRD hR6;have hg7:=yY (o:=.dT (pkW (wy++[(itr ss e t).2]))) (u:=.lst []) (a:=gn) (b:=D) (λz=>by rw[z,hD6,←hO] at hg6;cases hg6) hg6
   have hD7':upd H6 D (.dT (pkW (wy++[(itr ss e t).2]))) D=some (.dT (pkW (wy++[(itr ss e t).2]))):=upd_same;have sg7:=zE.put sg6 (o:=.dT (pkW (wy++[(itr ss e t).2]))) hDH;have hy7:=hy6.ts yi t7;have hk7:=hk6.ts t7;have hs7:=wJ _ _ _ _ t7 hs6;have hf17:=yi _ _ _ _ t7 hf16;have hz7:LR (RgX H R W) (upd H6 D (.dT (pkW (wy++[(itr ss e t).2])))) zs rs:=hz6.imp λp r⟨x1,x2,x3,us',x4,x5⟩=>⟨x1,x2,x3,us',yY (u:=.lst []) (λz=>by rw[z,hD6] at x4;cases x4) x4,x5.ts yi t7⟩
   generalize upd H6 D (.dT (pkW (wy++[(itr ss e t).2])))=H7 at*;subst hO;have tW:=yS (o:=.lst (ys++[V.ref f1])) hW7;refine⟨xB hW7,ys,hW7,small1000 (by lia),ss.length-(t+1),by lia,t+1,p,W,ys++[V.ref f1],zs,wy++[(itr ss e t).2],rs,_,_,_,_,rfl,rfl,zE.put sg7 hWH,yY (u:=.lst []) (λz=>by rw[z,hW7] at hg7;cases hg7) hg7,hk7.ts tW,hh6,by lia,yY (u:=.lst []) nWR.symm hR7,hz7.imp λp r⟨x1,x2,x3,x4⟩=>⟨x1,x2,x3,x4.put x3 hW7⟩,by lia,hWH,nWR,upd_same,(hy7.snoc hf17).ts yi tW,by rw[pK,uz];lia,yY (u:=.lst []) nWD.symm hD7',wJ _ _ _ _ tW hs7,wa.push c pw⟩
def Lv.sameT{P:uB}{w:uW}{H0 H H':Hp}{d gn:Addr}{kvs:List (List Key×V)}{ss:List (Q3×Q3)}{gk:List N3}(h:Lv H0 H d kvs ss)(g:zE gn H H')(hg:H gn=some (nD P w gn gk))(h0:H0 gn=none):Lv H0 H' d kvs ss:=by
 refine⟨λb u e=>g _ _ (λz=>by rw[z,h0] at e;cases e) (h.same _ _ e),h.new,g _ _ (λz=>by have:=h.at_;rw[z,hg] at this;cases this) h.at_,h.len,λp v e=>?_,h.non,h.dis⟩
 obtain⟨a,zs,e1,e2,e3,e4⟩:=h.ent p v e;exact⟨a,zs,e1,e2,g _ _ (λz=>by rw[z,hg] at e3;cases e3) e3,e4.ts yi (Xu g hg)⟩
variable{us:List V}
def Lv.put{H0 H:Hp}{d R:Addr}{kvs:List (List Key×V)}{ss:List (Q3×Q3)}{zs:List V}(h:Lv H0 H d kvs ss)(hR:H R=some (.lst zs))(h0:H0 R=none)(nR:∀p,zr kvs (kQ p)≠some (.ref R)):Lv H0 (upd H R (.lst us)) d kvs ss:=by
 refine⟨zW h.same h0,h.new,?_,h.len,λp v e=>?_,h.non,h.dis⟩
 ·rw[zh (λz=>by rw[←z,h.at_] at hR;cases hR)]
  exact h.at_
 ·obtain⟨a,ys,e1,e2,e3,e4⟩:=h.ent p v e;refine⟨a,ys,e1,e2,?_,e4.ts yi (yS hR)⟩;rw[zh (λz=>nR p (by rw[e,e1,z]))]
  exact e3
def RgN(R:Addr)(H:Hp)(p:Addr)(r:List Q3):Prop:=p≠R/\RgQ H p r
def rgn_put{R:Addr}{H:Hp}{ys:List V}{rs:List (List Q3)}(h:LR (RgN R) H ys rs)(hR:H R=some (.lst us))(o:HO):LR (RgN R) (upd H R o) ys rs:=h.imp λp r t=>⟨t.1,t.2.put t.1 hR⟩
def RgQ.sameT{P:uB}{w:uW}{H H':Hp}{gn p:Addr}{gk:List N3}{r:List Q3}(h:RgQ H p r)(g:zE gn H H')(hg:H gn=some (nD P w gn gk)):RgQ H' p r:=by
 obtain⟨zs,h1,h2⟩:=h;exact⟨zs,g _ _ (λz=>by rw[z,hg] at h1;cases h1) h1,h2.ts yi (Xu g hg)⟩
def xm.sds{q r:List Q3}(h:xm q r){e:Q3×Q3}:e∈Mine.sds q↔e∈Mine.sds r:=by
 obtain⟨i,hi,rfl,_⟩:=h;exact sds_rot hi
def xm.len{q r:List Q3}(h:xm q r):q.length=r.length:=by
 obtain⟨i,hi,rfl,_⟩:=h;exact jK _ _
def xm.mem{q r:List Q3}(h:xm q r){x:Q3}:x∈q↔x∈r:=by
 obtain⟨i,hi,rfl,_⟩:=h;exact rot_mem
def xm.nodup{q r:List Q3}(h:xm q r)(nd:r.Nodup):q.Nodup:=by
 obtain⟨i,hi,rfl,_⟩:=h;refine(List.Perm.nodup_iff ?_).mpr nd;unfold rot;refine UL.trans ?_;rw[Qk]
def xm.least{q r:List Q3}(h:xm q r){x:Q3}(hx:x∈q):bq x (nx q 0)=false:=by
 have hm:=h.mem.mp hx;obtain⟨i,hi,e,l⟩:=h;exact l x hm
theorem zil{r:List Q3}{i:Nat}(hi:i<r.length):(sds (rot r i)).Perm (sds r):=by
 have e:sds (rot r i)=rot (sds r) i:=by
  refine Ft λj=>?_;have l1:(sds r).length=r.length:=by unfold sds;rw[pC,uS]
  by_cases hj:j<r.length
  ·rw[Zc (by rw[l1];exact hi) (by rw[l1];exact hj),l1]
   unfold sds;rw[jK,pT,pT,gQ hj,gQ (BG _ (by lia))]
   show some (nx (rot r i) j,nx (rot r i) (j+1))=some (nx r ((i+j)%r.length),nx r ((i+j)%r.length+1))
   rw[jf hi,jf hi,vT,←vT r ((i+j)%r.length+1),Ge,vT,AO]
  ·rw[gB (by unfold sds;rw[pC,uS,jK];lia),gB (by rw[jK,l1];lia)]
 rw[e];unfold rot;refine UL.trans ?_;rw[Qk]
def xm.pm{q r:List Q3}(h:xm q r):(Mine.sds q).Perm (Mine.sds r):=by
 obtain⟨i,hi,rfl,_⟩:=h;exact zil hi
def qy(r:List Q3):(sds r).length=r.length:=by unfold sds;rw[pC,uS]
structure Fnd(ss:List (Q3×Q3))(qs:List (List Q3))(gk:List N3)(gl:List (Q3×Q3)):Prop where
 rg:∀q,q∈qs->q.Nodup/\2<=q.length
 pm:(qs.flatMap sds).Perm gl
 nd:gl.Nodup
 sub:∀e,e∈gl->e∈ss
 bk:∀e,e∈ss->suc ss e∈gl->e∈gl
 gone:∀e,y8 gk e↔e∈gl
theorem Fnd.put{ss:List (Q3×Q3)}{qs rs:List (List Q3)}{gk gk':List N3}{gl:List (Q3×Q3)}{e:Q3×Q3}{t:Nat}(F:Fen ss)(he:e∈ss)(h:Fnd ss qs gk gl)(hn:¬y8 gk e)(hg:∀g,y8 gk' g↔y8 gk g∨g∈(pP (t+1)).map (itr ss e))(d1:∀q,q∈rs->q.Nodup/\2<=q.length)(d2:(rs.flatMap sds).Perm ((pP (t+1)).map (itr ss e)))(cl:suc ss (itr ss e t)=e)(no:∀j,0<j->j<=t->itr ss e j≠e):Fnd ss (qs++rs) gk' (gl++(pP (t+1)).map (itr ss e)):=by
 have down:∀i,itr ss e i∈gl->e∈gl:=λi=>by
  induction i with
  |zero=>exact id
  |succ i ih=>exact λz=>ih (h.bk _ (F.itr he i) z)
 have ne:¬e∈gl:=λz=>hn ((h.gone e).mpr z);refine⟨λq hq=>(pd.mp hq).elim (h.rg q) (d1 q),?_,?_,λg hg'=>?_,λg hgs hg'=>?_,λg=>?_⟩
 ·rw[gT];exact h.pm.append d2
 ·refine UB.mpr ⟨h.nd,F.orb he no,λa ha b hb z=>?_⟩;obtain⟨i,_,rfl⟩:=pL.mp hb;rw[z] at ha;exact ne (down i ha)
 ·rcases pd.mp hg' with z|z
  ·exact h.sub g z
  ·obtain⟨i,_,rfl⟩:=pL.mp z;exact F.itr he i
 ·rcases pd.mp hg' with z|z
  ·exact Qp _ (h.bk g hgs z)
  ·refine pY _ ?_;obtain⟨i,hi,z⟩:=pL.mp z;have hi:=pQ.mp hi
   cases i with
   |zero=>
    have z:e=suc ss g:=z;rw[F.inj g (itr ss e t) hgs (F.itr he t) (by rw[←z,cl])]
    exact pL.mpr ⟨t,pQ.mpr (by lia),rfl⟩
   |succ i=>
    rw[F.inj g (itr ss e i) hgs (F.itr he i) z.symm];exact pL.mpr ⟨i,pQ.mpr (by lia),rfl⟩
 ·rw[hg,h.gone,pd]
inductive Run (ss:List (Q3×Q3)):Nat->List (List Q3)->List (Q3×Q3)->Prop where
 |nil:Run ss 0 [] []
 |skip {i qs gl e}:Run ss i qs gl->ss[i]?=some e->e∈gl->Run ss (i+1) qs gl
 |go {i qs gl e t}:Run ss i qs gl->ss[i]?=some e->¬e∈gl->suc ss (itr ss e t)=e->(∀j,0<j->j<=t->itr ss e j≠e)->Run ss (i+1) (qs++((wyF ss e t).2++[(wyF ss e t).1])) (gl++(pP (t+1)).map (itr ss e))
def zgh[DecidableEq α]:∀{a b:List α},a.Nodup->b.Nodup->(∀x,x∈a↔x∈b)->a.Perm b:=λ{a b} ha hb h=>(Qz ha hb).mpr h
structure Told(ss:List (Q3×Q3))(g:Int)(os:List (List Q3)):Prop where
 pq:∀r,r∈os->∀p,p∈r->PQ 700 p/\p.w<=g
 ord:OrdR g os
 rg:∀q,q∈os->q.Nodup/\3<=q.length
 least:∀q,q∈os->∀x,x∈q->bq x (nx q 0)=false
 pm:(os.flatMap sds).Perm ss
 run:∃qs gl cs,Run ss ss.length qs gl/\(∀q,q∈qs->q.Nodup)/\cs.length=qs.length/\(∀(j:Nat) c q,cs[j]?=some c->qs[j]?=some q->xm c q)/\os.Perm cs
variable{β:Type}
def YI{f:α->List β}{l:List α}{a:α}(h:a∈l){b:β}(hb:b∈f a):b∈l.flatMap f:=QC.mpr ⟨a,h,hb⟩
theorem zbz{os:List (List Q3)}(h:∀q,q∈os->3<=q.length):3*os.length<=(os.flatMap sds).length:=by
 induction os with
 |nil=>exact pG _
 |cons q os ih=>
  rw[Qt,pK,uN,qy];have:=h q (by simp)
  have:=ih λq hq=>h q (pE _ hq);lia
theorem flat_len3'{os:List (List Q3)}(h:∀q,q∈os->2<=q.length):2*os.length<=(os.flatMap sds).length:=by
 induction os with
 |nil=>exact pG _
 |cons q os ih=>
  rw[Qt,pK,uN,qy];have:=h q (by simp)
  have:=ih λq hq=>h q (pE _ hq);lia
theorem Wf{os:List (List Q3)}{q:List Q3}(h:q∈os):q.length<=(os.flatMap sds).length:=by
 induction os with
 |nil=>cases h
 |cons r os ih=>
  rw[Qt,pK,qy];rcases pS.mp h with z|z
  ·rw[z];lia
  ·have:=ih z;lia
theorem Fen.three{ss:List (Q3×Q3)}(F:Fen ss){q:List Q3}(h2:2<=q.length)(h:∀e,e∈sds q->e∈ss):3<=q.length:=by
 rcases AH 2 q.length with z|z
 ·exact z
 ·exfalso
  have l:q.length=2:=by lia
  have a:=h _ (j5 (r:=q) (by lia) 0)
  have b:=h _ (j5 (r:=q) (by lia) 1)
  have e:nx q (1+1)=nx q 0:=by
   have:=Ye q 0;rw[l] at this;exact this
  rw[e] at b;exact F.rv _ a b
theorem zfo{cs:List (List Q3)}(h:∀q,q∈cs->2<=q.length)(nd:(cs.flatMap sds).Nodup):cs.Nodup:=by
 induction cs with
 |nil=>exact Uw
 |cons q cs ih=>
  rw[Qt,UB] at nd;refine US.mpr ⟨λz=>?_,ih (λq hq=>h q (pE _ hq)) nd.2.1⟩;have s0:=j5 (r:=q) (by have:=h q (by simp);omega) 0
  exact nd.2.2 _ s0 _ (YI z s0) rfl
theorem zbo:∀{cs qs:List (List Q3)},cs.length=qs.length->(∀(j:Nat) c q,cs[j]?=some c->qs[j]?=some q->xm c q)->(cs.flatMap sds).Perm (qs.flatMap sds)
 |[],[],_,_=>.refl _
 |[],_::_,l,_=>by cases l
 |_::_,[],l,_=>by cases l
 |c::cs,q::qs,l,h=>by
  rw[Qt,Qt];exact(h 0 c q rfl rfl).pm.append (zbo (HR l) λj c q h1 h2=>h (j+1) c q h1 h2)
inductive zcr (P:uB) (w:uW) (tb:Addr) (lp:Pos) (ql:Str) (vs:List V) (H:Hp) (Q:VK) (E:XK):Prop
 |mk (l:Addr) (ys:List V) (ss:List (Q3×Q3)) (_:vs=[.ref l]) (_:H l=some (.lst ys)) (_:ys.length<=191) (_:LR S2H H ys ss) (_:Fen ss) (_:xh H tb lp ql) (_:∀D zs os g H',H D=none->zE tb H H'->xh H' tb lp ql->H' D=some (.lst zs)->LR (λH1 p r=>H p=none/\p≠D/\RgQ H1 p r) H' zs os->Told ss g os->Q (.ref D) H'):zcr P w tb lp ql vs H Q E
inductive RingI (P:uB) (w:uW) (H:Hp) (l lv gn R:Addr) (kvs:List (List Key×V)) (ss:List (Q3×Q3)) (i:Nat) (σ:St) (H':Hp):Prop
 |mk (zs:List V) (gk:List N3) (qs:List (List Q3)) (gl:List (Q3×Q3)) (o:Option V) (_:σ=[some (V.ref l),some (V.ref lv),some (V.ref gn),some (V.ref R),o]) (_:Lv H H' lv kvs ss) (_:H' gn=some (nD P w gn gk)) (_:GnK H' gk) (_:gk.length<=gl.length) (_:H' R=some (.lst zs)) (_:LR (RgN R) H' zs qs) (_:Fnd ss qs gk gl) (_:Run ss i qs gl) (_:∀e,e∈ss.take i->y8 gk e):RingI P w H l lv gn R kvs ss i σ H'
theorem zgk(T:Txt K mg ad fd)(hK:K.In base)(hB:base.BuiltinsAt mg (ad 47)):zv P w K mg base CX0 7 (ad 18) (fd 18) ["land"] (zcr P w (ad 47) X2 qlP):=by
 refine T.rings_of.fn.ok jw (λvs H Q E h=>?_) (λcdv A outer s H vs Q E hr h=>?_)
 ·obtain⟨l,ys,ss,rfl,_⟩:=h;rfl
 obtain⟨l,ys,ss,rfl,hl,hn,hs,Fe,lt,k⟩:=h;refine⟨_,
  (pss5
   (zk 1 jw.nd (zu (zfs T) T.leaving_of hr (pa1 (pm 0) zb)))
   (Vg (i:=2) jw.nd rfl (Ef rfl) (ZG (P:=P) (w:=w) rfl rfl))
   (zk 3 jw.nd (yN yM))
   (yv uE rfl (yd (pm 0)) (zD 4 jw.nd) (zp (zL (Yn (Zo (P:=P) (w:=w) rfl rfl (hu64 hr) (pm 4) (pm 2))) (zp (xD (xM uQ Dj Dk ZM (pm 3) (pa1 (zu (zfg T) T.way_round hr (pa3 (pm 4) zb (pm 1) zb (pm 2) zb)) yw)))) zR)))
   (zq (zu (zgc T hK hB) T.by_points hr (pa1 (xT jw ["ring"] [] (yd (pm 3)) (λcl C fp s2 H2 xe=>⟨(zD 0 (show UG (["ring"]:List Str) from by decide+kernel)),wI,(zu (zj4 T) T.from_least hr (pa1 (pm 0) zb))⟩)) v7))))
  ,?_⟩
 dsimp! [L2.start]
 simp! [Jf];have lss:=hs.1;refine⟨l,ys,ss,rfl,hl,by lia,hs,λlv kvs H1 hlv lv1=>?_⟩
 intro gn hgn;have gG:=zg hgn (nD P w gn []);have hg2:upd H1 gn (nD P w gn []) gn=some (nD P w gn []):=upd_same;have lv2:=lv1.mono gG;generalize upd H1 gn (nD P w gn [])=H2 at*;intro R hR;have gR:=zg hR (HO.lst []);have hR3:upd H2 R (HO.lst []) R=some (.lst []):=upd_same;have nR:∀p,zr kvs (kQ p)≠some (.ref R):=λp z=>by
  obtain⟨a,zs,e1,_,e3,_⟩:=lv2.ent _ _ z
  cases e1;rw[hR] at e3
  cases e3
 have lv3:=lv2.mono gR;have hgnH:H gn=none:=lv1.same.free hgn;have hRH:H R=none:=lv2.same.free hR;have hg3:=gR _ _ hg2;generalize upd H2 R (HO.lst [])=H3 at*;refine yo ?_;simp! [zX];refine⟨⟨_,.of (lv3.same _ _ hl)⟩,?_⟩;refine xz (K:=K) (a:=l) (xs:=ys) (RingI P w H l lv gn R kvs ss)
  ⟨[],[],[],[],none,rfl,lv3,hg3,λp hp=>(by cases hp),pG _,hR3,.nil,⟨λq hq=>(by cases hq),.refl _,Uw,λe he=>(by cases he),λe _ he=>(by cases he),λe=>⟨λz=>(by cases z),λz=>(by cases z)⟩⟩,.nil,λe he=>(by rw[Qs] at he;cases he)⟩ (λi σ H' _ iv=>.of (by obtain⟨_,_,_,_,_,_,lv',_⟩:=iv;exact lv'.same _ _ hl)) ?_ ?_
 ·intro _ _;rintro i v σ H4 hi ⟨zs,gk,qs,gl,o,rfl,lv4,hg4,hk4,lg,hR4,hq4,fd4,rn4,al⟩;obtain⟨p,e,rfl,he',hp⟩:=hs.2 i v hi;have hi':=(pF.mp hi).1;have hp4:=wJ _ _ _ _ (zI lv4.same) hp;have gkm:gn≠R:=λz=>by rw[z,hR4] at hg4;cases hg4
  have hes:=pX he';simp! [X8];refine⟨gk,.inl hg4,hk4.kn,kE e,hp4.nk,ite2 (λc=>?_) λc=>?_⟩
  ·have hn':¬y8 gk e:=λz=>by unfold y8 at z;rw[z] at c;cases c
   have gll:gl.length<=ss.length:=vV _ _ fd4.nd fd4.sub;have gkl:gk.length<=10000:=by lia
   refine⟨xB hR4,H,p,lv,gn,kvs,gk,ss,e,rfl,hp4,lv4,by lia,hg4,hk4,gkl,Fe,hes,λR' us rs t H5 gk' sg5 hg5 hk5 hh lg5 tl hR' hR5 hu5 lu d1 d2 cl no fn=>?_⟩
   have lv5:=lv4.sameT sg5 hg4 hgnH;have hRR:H5 R=some (.lst zs):=sg5 _ _ gkm.symm hR4;have hq5:LR (RgN R) H5 zs qs:=hq4.imp λp r t=>⟨t.1,t.2.sameT sg5 hg4⟩;have u5:LR (RgN R) H5 us rs:=hu5.imp λp r⟨x1,_,_,x4⟩=>⟨(λz=>by rw[z,hR4] at x1;cases x1),x4⟩
   have fd5:=fd4.put Fe hes hn' hh d1 d2 cl no;have lzs:zs.length<=191:=by
    rw[hq4.1];have a:=flat_len3' (os:=qs) λq hq=>(fd4.rg q hq).2;rw[fd4.pm.length_eq] at a;lia
   simp! [Wn,hR5];refine⟨zs,hRR,UE (small1000 (by lia)),?_⟩
   have hg5:H5 gn=some (nD P w gn gk'):=hg5;refine⟨zs++us,gk',qs++rs,_,_,rfl,lv5.put hRR hRH nR,yY (u:=.lst []) gkm hg5,hk5.ts (yS hRR),?_,upd_same,?_,fd5,by rw[fn];exact .go rn4 he' (λz=>hn' ((fd4.gone e).mpr z)) cl no,λf hf=>?_⟩
   ·rw[pK,pC,uS];lia
   ·exact rgn_put (hq5.app u5) hRR _
   ·rw[uA,he'] at hf;rw[hh];rcases pd.mp hf with hf|hf
    ·exact .inl (al f hf)
    ·have:f=e:=by simpa using hf
     rw[this];exact .inr (pL.mpr ⟨0,pQ.mpr (by lia),rfl⟩)
  ·have hy:y8 gk e:=by
    unfold y8
    cases z:(yR gk (kE e)).isSome with
    |true=>rfl
    |false=>exact absurd (by rw[z];rfl) c
   refine⟨zs,gk,qs,gl,_,rfl,lv4,hg4,hk4,lg,hR4,hq4,fd4,.skip rn4 he' ((fd4.gone e).mp hy),λf hf=>?_⟩;rw[uA,he'] at hf;rcases pd.mp hf with hf|hf
   ·exact al f hf
   ·have:f=e:=by simpa using hf
    rw[this];exact hy
 ·rintro σ H4 ⟨zs,gk,qs,gl,o,rfl,lv4,hg4,hk4,lg,hR4,hq4,fd4,rn4,al⟩;rw[pV (Qi hs.1.symm)] at al;have gp:gl.Perm ss:=zgh fd4.nd Fe.nd λx=>⟨fd4.sub x,λhx=>(fd4.gone x).mp (al x hx)⟩;have pms:=fd4.pm.trans gp;have three:∀q,q∈qs->3<=q.length:=λq hq=>Fe.three (fd4.rg q hq).2 λe he=>pms.mem_iff.mp (YI hq he);have lq3:=zbz three;rw[pms.length_eq] at lq3;simp! [];refine y9 ?_;simp! [zX];refine⟨⟨_,.of hR4⟩,λD hD=>?_⟩;refine xG (xs:=zs) (λi us H'=>ze H4 H'/\H' D=some (.lst us)/\us.length=i/\∃cs,LR (λH1 p r=>H p=none/\RgN D H1 p r) H' us cs/\∀(j:Nat) c q,cs[j]?=some c->qs[j]?=some q->xm c q) ⟨zg hD _,upd_same,rfl,[],.nil,λj c q z=>(by cases z)⟩ (λi us H' iv=>.of (iv.1 _ _ hR4)) ?_ ?_
  ·rintro i us H5 v hi hv ⟨g5,hD5,lu,cs,hcs,can⟩;obtain⟨p,q,rfl,hq',_,ws,hw,hws⟩:=hq4.2 i v hv;have hqm:=pX hq';have r3:=three q hqm;have r10:=Wf hqm;rw[pms.length_eq] at r10;simp! [];refine⟨p,ws,q,rfl,g5 _ _ hw,hws.same g5,by lia,by lia,λE1 es c H6 hE g6 hE6 he6 ic=>?_⟩
   have hD6:=g6 _ _ hD5;have nE:E1≠D:=λz=>by rw[z,hD5] at hE;cases hE
   refine cw_put hi hD6 (small1000 (by have:=hq4.1;lia)) ⟨zW (g5.trans g6) hD,upd_same,by rw[pK,lu];rfl,cs++[c],?_,λj c' q' h1 h2=>?_⟩
   ·exact((hcs.imp (R':=λH1 p r=>H p=none/\RgN D H1 p r) λp r t=>⟨t.1,t.2.1,t.2.2.same g6⟩).snoc (R:=λH1 p r=>H p=none/\RgN D H1 p r) ⟨(lv4.same.trans g5).free hE,nE,es,hE6,he6⟩).imp λp r t=>⟨t.1,t.2.1,t.2.2.put t.2.1 hD6⟩
   ·have lc:cs.length=i:=by rw[←hcs.1,lu]
    by_cases e:j<cs.length
    ·rw[uX e] at h1;exact can j c' q' h1 h2
    ·rw[uJ (by lia)] at h1
     have ej:j=i:=by
      have:=(pF.mp h1).1;simp only[uN,Uj] at this;lia
     subst ej;rw[lc,Bw] at h1
     cases h1;rw[hq'] at h2
     cases h2;exact ic
  ·rintro us H5 ⟨g5,hD5,lu,cs,hcs,can⟩;have lcs:cs.length=qs.length:=by rw[←hcs.1,lu,hq4.1]
   have at_:∀c,c∈cs->∃q,q∈qs/\xm c q:=λc hc=>by
    obtain⟨j,hj⟩:=Ql.mp hc;have hj':j<qs.length:=by rw[←lcs];exact(pF.mp hj).1
    exact⟨qs[j],UJ _,can j c _ hj (pJ hj')⟩
   have cpm:=(zbo lcs can).trans pms;have c3:∀c,c∈cs->3<=c.length:=λc hc=>by
    obtain⟨q,hq,ic⟩:=at_ c hc;rw[ic.len];exact three q hq
   have nd:cs.Nodup:=zfo (λc hc=>Av (c3 c hc)) (cpm.nodup_iff.mpr Fe.nd);have g05:=lv4.same.trans g5;refine⟨D,us,cs,λp=>H p=none/\H5 p≠none,rfl,hD5,by have:=hcs.1;lia,hcs.imp (λp r t=>⟨⟨t.1,λz=>by obtain⟨u,h1,_⟩:=t.2.2;rw[z] at h1;cases h1⟩,t.2.2⟩),λc hc=>by have:=Wf hc;rw[cpm.length_eq] at this;lia,nd,lt.same g05,λF zs6 os g H6 hF st6 lt6 hF6 ho pm gw od=>?_⟩
   refine k F zs6 os g H6 (g05.free hF) (zE.trans (zE.of g05) st6) lt6 hF6 (ho.imp λp r t=>⟨t.1.1,λz=>t.1.2 (by rw[z];exact hF),t.2⟩) ⟨λr hr=>gw r (pm.mem_iff.mp hr),od,λq hq=>?_,λq hq x hx=>?_,?_,qs,gl,cs,by rw[hs.1] at rn4;exact rn4,λq hq=>(fd4.rg q hq).1,lcs,can,pm⟩
   ·have hq:=pm.mem_iff.mp hq;obtain⟨r,hr,ic⟩:=at_ q hq;exact⟨ic.nodup (fd4.rg r hr).1,c3 q hq⟩
   ·have hq:=pm.mem_iff.mp hq;obtain⟨r,hr,ic⟩:=at_ q hq;exact ic.least hx
   ·exact(pm.flatMap_right sds).trans cpm
def C3H(H:Hp)(p:Addr)(c:Int×Int×Int):Prop:=H p=some (.tup [.int c.1,.int c.2.1,.int c.2.2])/\0<=c.1/\c.1<=6/\0<=c.2.1/\c.2.1<=6/\0<=c.2.2/\c.2.2<=3
def qe:∀(H H':Hp)(p:Addr)(c:Int×Int×Int),zJ H H'->C3H H p c->C3H H' p c:=λ_ _ _ _ g h=>⟨g _ _ h.1,h.2⟩
def jj(w h:Int)(i:Nat)(cs:List (Int×Int×Int)):Prop:=cs.Nodup/\∀c,c∈cs->c.1<w/\c.2.1<h/\4*(c.2.1*w+c.1)+c.2.2<i
inductive zd0 (K:pI) (vs:List V) (H:Hp) (Q:VK) (E:XK):Prop
 |mk (a:Addr) (ns:List Int) (w h:Int) (_:vs=[.ref a,.int w,.int h]) (_:SqL K H a (ns.map V.int)) (_:1<=w) (_:w<=4) (_:1<=h) (_:h<=3) (_:∀D zs cs H',H D=none->ze H H'->H' D=some (.lst zs)->zs.length<=196->LR C3H H' zs cs->jj w h 196 cs->Q (.ref D) H'):zd0 K vs H Q E
theorem zga(T:Txt K mg ad fd):zv P w K mg base CX0 2 (ad 27) (fd 27) ["_law_script","_law_wide","_law_high"] (zd0 K):=by
 refine T.law_cells.fn.ok W0 (λvs H Q E h=>?_) (λcdv A outer s H vs Q E hr h=>?_)
 ·obtain⟨a,ns,w,h,rfl,_⟩:=h;rfl
 obtain⟨a,ns,wd,hg,rfl,hS,w1,w4,h1,h3,k⟩:=h;refine⟨_,
  (pss3
   (zk 3 W0.nd (yN yM))
   (yv uE rfl (wG rfl T.b_range (pa1 (zc zN (zc y4 za (pm 1)) (pm 2)) zx)) (zD 4 W0.nd) (zp (zL (zM qf (zc yn (zu (xW T) T.law_cell hr (pa2 (pm 0) zb (zc zQ za (pm 4)) zx)) za) za (nomark _)) (zp (xD (xM uQ uo uq xU (pm 3) (pa1 (ye (pa3 (zc jx (zc wQ (pm 4) za) (pm 1)) zx (zc wW (zc wQ (pm 4) za) (pm 1)) zx (zc yn (pm 4) za) zx)) xI)))) zR)))
   (zq (pm 3)))
  ,?_⟩
 dsimp! [L2.start]
 simp! [];intro D hD;have gD:=zg hD (HO.lst []);refine yo ?_;simp! [wv];have e8:(2:Nat)^8=256:=rfl;have ub:4*wd*hg<=196:=by
  have:4*wd*hg<=16*3:=Gr (by lia) h3 (by lia) (by lia)
  lia
 have lb:0<=4*wd*hg:=Uf (by lia) (by lia)
 refine⟨.inl ⟨by decide,by decide⟩,cbig (m:=8) (n:=8) (by lia) (by lia),by lia,by lia,vH (λi σ H'=>ze H H'/\∃(zs:List V)(cs:List (Int×Int×Int))(o:Option V),σ=[some (V.ref a),some (V.int wd),some (V.int hg),some (V.ref D),o]/\H' D=some (.lst zs)/\zs.length<=i/\LR C3H H' zs cs/\jj wd hg i cs) ⟨gD,[],[],none,rfl,upd_same,pG _,.nil,Uw,λc hc=>(by cases hc)⟩ ?_ ?_⟩
 ·intro _ _;rintro i σ H2 hi ⟨g2,zs,cs,o,rfl,hD2,hn,hz,ci⟩;have hi196:(i:Int)<4*wd*hg:=by lia
  simp! [QY];refine⟨a,ns,_,rfl,g2.seq hS,by lia,by lia,λ⟨v,_⟩=>⟨_,rfl,by decide,ite2 (λ_=>?_) λ_=>?_⟩⟩
  ·have wn:wd≠0:=by lia
   refine⟨xB hD2,⟨by decide,by decide⟩,wn,⟨by decide,by decide⟩,cdivb wn (n:=8) (by lia),by decide,λp hp=>?_⟩
   rw[Us _ (by lia),UQ _ (by lia)]
   have j0:0<=(i:Int)/4:=by lia
   have j1:(i:Int)/4<wd*hg:=by
    have:4*wd*hg=4*(wd*hg):=by rw[BV]
    lia
   have q0:0<=(i:Int)%4/\(i:Int)%4<=3:=by lia
   have hnum:4*((i:Int)/4/wd*wd+(i:Int)/4%wd)+(i:Int)%4=i:=by
    have e1:=Eb ((i:Int)/4) wd;rw[UO] at e1;lia
   generalize (i:Int)/4=j at*;generalize (i:Int)%4=qq at*;have m0:=ET j wn;have m1:=DI j (show 0<wd by lia)
   have d0:0<=j/wd:=Int.ediv_nonneg j0 (by lia)
   have d1:j/wd<hg:=Int.ediv_lt_of_lt_mul (by lia) (by rw[UO];exact j1)
   generalize j%wd=cx at*;generalize j/wd=cy at*;have g3:=zg hp (HO.tup [V.int cx,V.int cy,V.int qq]);have h3':upd H2 p (HO.tup [V.int cx,V.int cy,V.int qq]) p=some (HO.tup [V.int cx,V.int cy,V.int qq]):=upd_same;generalize upd H2 p (HO.tup [V.int cx,V.int cy,V.int qq])=H3 at*;have hD3:=g3 _ _ hD2;refine⟨zs,hD3,small1000 (by lia),zW (g2.trans g3) hD,by rw[pK,uz];lia,_,((hz.ts qe (zI g3)).snoc (a:=(cx,cy,qq)) ⟨h3',by show 0<=cx;lia,by show cx<=6;lia,by show 0<=cy;lia,by show cy<=6;lia,by show 0<=qq;lia,by show qq<=3;lia⟩).ts qe (yS hD3),UB.mpr ⟨ci.1,US.mpr ⟨λz=>(by cases z),Uw⟩,λx hx y hy z=>(by rw[z,pZ.mp hy] at hx;have:=(ci.2 _ hx).2.2;dsimp only at this;lia)⟩,λc hc=>?_⟩
   rcases pd.mp hc with z|z
   ·obtain⟨c1,c2,c3⟩:=ci.2 c z;exact⟨c1,c2,by lia⟩
   ·rw[pZ.mp z];exact⟨m1,d1,by dsimp only;lia⟩
  ·exact⟨g2,zs,hD2,by lia,cs,hz,ci.1,λc hc=>by obtain⟨c1,c2,c3⟩:=ci.2 c hc;exact⟨c1,c2,by lia⟩⟩
 ·rintro σ H2 ⟨g2,zs,cs,o,rfl,hD2,hn,hz,ci⟩;simp! [];exact k D zs cs H2 hD g2 hD2 (by lia) hz ⟨ci.1,λc hc=>by obtain⟨c1,c2,c3⟩:=ci.2 c hc;exact⟨c1,c2,by lia⟩⟩
inductive Zz (vs:List V) (H:Hp) (Q:VK) (E:XK):Prop
 |mk (p:Addr) (c:Int×Int×Int) (_:vs=[.ref p]) (_:C3H H p c) (_:∀D e0 e1 e2 a0 a1 a2 k0 k1 k2 H',H D=none->ze H H'->H' D=some (.lst [.ref e0,.ref e1,.ref e2])->P2H H' e0 a0->P2H H' e1 a1->P2H H' e2 a2->Bx a0->Bx a1->Bx a2->yx c=[(a0,k0),(a1,k1),(a2,k2)]->stp a0 k0=a1->stp a1 k1=a2->stp a2 k2=a0->Q (.ref D) H'):Zz vs H Q E
theorem ziv(T:Txt K mg ad fd):zv P w K mg base CX0 1 (ad 28) (fd 28) ["_law_cell_here"] Zz:=by
 refine T.law_ends.fn.ok YM (λvs H Q E h=>?_) (λcdv A outer s H vs Q E hr h=>?_)
 ·obtain⟨p,c,rfl,_⟩:=h;rfl
 obtain⟨p,⟨cx,cy,qq⟩,rfl,⟨hp,x0,x1,y0,y1,q0,q1⟩,k⟩:=h;dsimp only at hp x0 x1 y0 y1 q0 q1;refine⟨_,
  (pss4
   (zk 1 YM.nd (zc y4 za (zd yP (pm 0) za)))
   (zk 2 YM.nd (zc y4 za (zd yP (pm 0) za)))
   (zk 3 YM.nd (yN (pa5 (ye (pa2 (pm 1) zb (pm 2) zb)) xI (ye (pa2 (zc zQ (pm 1) za) zx (pm 2) zb)) xI (ye (pa2 (zc zQ (pm 1) za) zx (zc zQ (pm 2) za) zx)) xI (ye (pa2 (pm 1) zb (zc zQ (pm 2) za) zx)) xI (ye (pa2 (pm 1) zb (pm 2) zb)) xI)))
   (zq (yN (pa3 (zd y6 (pm 3) (zd yP (pm 0) za)) zY (zd y6 (pm 3) (zc zQ (zd yP (pm 0) za) za)) zY (ye (pa2 (zc zQ (pm 1) za) zx (zc zQ (pm 2) za) zx)) xI))))
  ,?_⟩
 dsimp! [L2.start]
 simp! [hp];refine⟨.inl ⟨by decide,by decide⟩,.inl ⟨by decide,by decide⟩,?_⟩
 intro p1 n1;have g1:=zg n1 (HO.tup [V.int (2*cx),V.int (2*cy)]);have h1:upd H p1 (HO.tup [V.int (2*cx),V.int (2*cy)]) p1=some (HO.tup [V.int (2*cx),V.int (2*cy)]):=upd_same;generalize upd H p1 (HO.tup [V.int (2*cx),V.int (2*cy)])=K1 at*;intro p2 n2;have g2:=zg n2 (HO.tup [V.int (2*cx+2),V.int (2*cy)]);have h2:upd K1 p2 (HO.tup [V.int (2*cx+2),V.int (2*cy)]) p2=some (HO.tup [V.int (2*cx+2),V.int (2*cy)]):=upd_same;generalize upd K1 p2 (HO.tup [V.int (2*cx+2),V.int (2*cy)])=K2 at*;intro p3 n3;have g3:=zg n3 (HO.tup [V.int (2*cx+2),V.int (2*cy+2)]);have h3:upd K2 p3 (HO.tup [V.int (2*cx+2),V.int (2*cy+2)]) p3=some (HO.tup [V.int (2*cx+2),V.int (2*cy+2)]):=upd_same;generalize upd K2 p3 (HO.tup [V.int (2*cx+2),V.int (2*cy+2)])=K3 at*;intro p4 n4;have g4:=zg n4 (HO.tup [V.int (2*cx),V.int (2*cy+2)]);have h4:upd K3 p4 (HO.tup [V.int (2*cx),V.int (2*cy+2)]) p4=some (HO.tup [V.int (2*cx),V.int (2*cy+2)]):=upd_same;generalize upd K3 p4 (HO.tup [V.int (2*cx),V.int (2*cy+2)])=K4 at*;intro p5 n5;have g5:=zg n5 (HO.tup [V.int (2*cx),V.int (2*cy)]);have h5:upd K4 p5 (HO.tup [V.int (2*cx),V.int (2*cy)]) p5=some (HO.tup [V.int (2*cx),V.int (2*cy)]):=upd_same;generalize upd K4 p5 (HO.tup [V.int (2*cx),V.int (2*cy)])=K5 at*;refine⟨by decide,λL nL=>?_⟩
 have g6:=zg nL (HO.lst [V.ref p1,V.ref p2,V.ref p3,V.ref p4,V.ref p5]);have h6:upd K5 L (HO.lst [V.ref p1,V.ref p2,V.ref p3,V.ref p4,V.ref p5]) L=some (HO.lst [V.ref p1,V.ref p2,V.ref p3,V.ref p4,V.ref p5]):=upd_same;generalize upd K5 L (HO.lst [V.ref p1,V.ref p2,V.ref p3,V.ref p4,V.ref p5])=K6 at*;have g46:=g5.trans g6;have g36:=g4.trans g46;have g26:=g3.trans g36;have g16:=g2.trans g26;have g06:=g1.trans g16;have hp6:=g06 _ _ hp;obtain⟨A0,A1,a0,a1,k0,k1,k2,e0,e1,hA0,hA1,b0,b1,tk,s0,s1,s2⟩:∃(A0 A1:Addr)(a0 a1:Int×Int)(k0 k1 k2:Fin 8),atI [V.ref p1,V.ref p2,V.ref p3,V.ref p4,V.ref p5] qq=some (.ref A0)/\atI [V.ref p1,V.ref p2,V.ref p3,V.ref p4,V.ref p5] (qq+1)=some (.ref A1)/\P2H K6 A0 a0/\P2H K6 A1 a1/\Bx a0/\Bx a1/\yx (cx,cy,qq)=[(a0,k0),(a1,k1),((2*cx+1,2*cy+1),k2)]/\stp a0 k0=a1/\stp a1 k1=(2*cx+1,2*cy+1)/\stp (2*cx+1,2*cy+1) k2=a0:=by
  have t1:P2H K6 p1 (2*cx,2*cy):=g16 _ _ h1;have t2:P2H K6 p2 (2*cx+2,2*cy):=g26 _ _ h2;have t3:P2H K6 p3 (2*cx+2,2*cy+2):=g36 _ _ h3;have t4:P2H K6 p4 (2*cx,2*cy+2):=g46 _ _ h4;have t5:P2H K6 p5 (2*cx,2*cy):=g6 _ _ h5;have se:∀{x y x' y':Int},x=x'->y=y'->((x,y):Int×Int)=(x',y'):=λh1 h2=>by rw[h1,h2]
  have bx:∀{x y:Int},0<=x->x<=14->0<=y->y<=14->Bx (x,y):=λa b c d=>⟨a,b,c,d⟩;rcases(by lia:qq=0∨qq=1∨qq=2∨qq=3) with e|e|e|e<;>subst e
  ·exact⟨p1,p2,_,_,0,3,5,at0,at1,t1,t2,bx (by lia) (by lia) (by lia) (by lia),bx (by lia) (by lia) (by lia) (by lia),rfl,se (by show 2*cx+(2)=2*cx+2;lia) (by show 2*cy+(0)=2*cy;lia),se (by show 2*cx+2+(-1)=2*cx+1;lia) (by show 2*cy+(1)=2*cy+1;lia),se (by show 2*cx+1+(-1)=2*cx;lia) (by show 2*cy+1+(-1)=2*cy;lia)⟩
  ·exact⟨p2,p3,_,_,2,5,7,at1,at2,t2,t3,bx (by lia) (by lia) (by lia) (by lia),bx (by lia) (by lia) (by lia) (by lia),rfl,se (by show 2*cx+2+(0)=2*cx+2;lia) (by show 2*cy+(2)=2*cy+2;lia),se (by show 2*cx+2+(-1)=2*cx+1;lia) (by show 2*cy+2+(-1)=2*cy+1;lia),se (by show 2*cx+1+(1)=2*cx+2;lia) (by show 2*cy+1+(-1)=2*cy;lia)⟩
  ·exact⟨p3,p4,_,_,4,7,1,at2,at3,t3,t4,bx (by lia) (by lia) (by lia) (by lia),bx (by lia) (by lia) (by lia) (by lia),rfl,se (by show 2*cx+2+(-2)=2*cx;lia) (by show 2*cy+2+(0)=2*cy+2;lia),se (by show 2*cx+(1)=2*cx+1;lia) (by show 2*cy+2+(-1)=2*cy+1;lia),se (by show 2*cx+1+(1)=2*cx+2;lia) (by show 2*cy+1+(1)=2*cy+2;lia)⟩
  ·exact⟨p4,p5,_,_,6,1,3,at3,at4,t4,t5,bx (by lia) (by lia) (by lia) (by lia),bx (by lia) (by lia) (by lia) (by lia),rfl,se (by show 2*cx+(0)=2*cx;lia) (by show 2*cy+2+(-2)=2*cy;lia),se (by show 2*cx+(1)=2*cx+1;lia) (by show 2*cy+(1)=2*cy+1;lia),se (by show 2*cx+1+(-1)=2*cx;lia) (by show 2*cy+1+(1)=2*cy+2;lia)⟩
 refine⟨_,hp6,_,at2,_,_,rfl,rfl,_,e0,_,hp6,_,at2,_,rfl,_,e1,λc nc=>?_⟩;have g7:=zg nc (HO.tup [V.int (2*cx+1),V.int (2*cy+1)]);have h7:upd K6 c (HO.tup [V.int (2*cx+1),V.int (2*cy+1)]) c=some (HO.tup [V.int (2*cx+1),V.int (2*cy+1)]):=upd_same;generalize upd K6 c (HO.tup [V.int (2*cx+1),V.int (2*cy+1)])=K7 at*;intro D hD;have g8:=zg hD (HO.lst [V.ref A0,V.ref A1,V.ref c]);have g08:=g06.trans (g7.trans g8);exact k D A0 A1 c a0 a1 (2*cx+1,2*cy+1) k0 k1 k2 _ ((g06.trans g7).free hD) g08 upd_same (xC _ _ _ _ (zI (g7.trans g8)) hA0) (xC _ _ _ _ (zI (g7.trans g8)) hA1) (g8 _ _ h7) b0 b1 ⟨by show 0<=2*cx+1;lia,by show 2*cx+1<=14;lia,by show 0<=2*cy+1;lia,by show 2*cy+1<=14;lia⟩ tk s0 s1 s2
noncomputable def kP(a:Int×Int):List Key:=[.inl a.1,.inl a.2]
def Yk{a b:Int×Int}(h:kP a=kP b):a=b:=by
 obtain⟨x,y⟩:=a;obtain⟨x',y'⟩:=b;unfold kP at h
 cases h;rfl
def EdH(H:Hp)(p:Addr)(e:E2):Prop:=(∃c d,H p=some (.tup [.ref c,.ref d])/\P2H H c e.1/\P2H H d e.2)/\Bx e.1/\Bx e.2/\e.1≠e.2
def jA:∀(H H':Hp)(p:Addr)(e:E2),zJ H H'->EdH H p e->EdH H' p e:=λ_ _ _ _ g⟨⟨c,d,h1,h2,h3⟩,b⟩=>⟨⟨c,d,g _ _ h1,g _ _ h2,g _ _ h3⟩,b⟩
def EdH.nk{H:Hp}{p:Addr}{e:E2}(h:EdH H p e):NK H p [kP e.1,kP e.2]:=by
 obtain⟨⟨c,d,h1,h2,h3⟩,_⟩:=h;exact NK.two h1 h2 h3
def EdK(H:Hp)(kvs:List N3):Prop:=∀p,p∈kvs->∃e,p.1=[kP e.1,kP e.2]/\EdH H p.2.1 e
def EdK.kn{H:Hp}{kvs:List N3}(h:EdK H kvs):KN H kvs:=λp hp=>by
 obtain⟨e,e1,e2⟩:=h p hp;rw[e1];exact e2.nk
def EdK.ts{H H':Hp}{kvs:List N3}(h:EdK H kvs)(g:zJ H H'):EdK H' kvs:=λp hp=>by
 obtain⟨e,e1,e2⟩:=h p hp;exact⟨e,e1,jA _ _ _ _ g e2⟩
def EdK.put{H:Hp}{kvs:List N3}{b:Addr}{e:E2}{v:V}(h:EdK H kvs)(hb:EdH H b e):EdK H (yV kvs [kP e.1,kP e.2] b v):=by
 unfold yV
 split
 ·intro p hp;obtain⟨q,hq,z⟩:=pL.mp hp;obtain⟨f,f1,f2⟩:=h q hq;rw[←z]
  split
  ·exact⟨f,f1,f2⟩
  ·exact⟨f,f1,f2⟩
 ·intro p hp;rcases pd.mp hp with hp|hp
  ·exact h p hp
  ·rw[pZ.mp hp];exact⟨e,rfl,hb⟩
noncomputable def kk(e:E2):K2:=[kP e.1,kP e.2]
def kk_inj{e f:E2}(h:kk e=kk f):e=f:=by
 unfold kk at h
 injection h with h1 h2
 injection h2 with h2 _
 exact Qg (Yk h1) (Yk h2)
def vo(kvs:List N3)(e:E2):Prop:=(yR kvs (kk e)).isSome=true
theorem zi5{kvs:List N3}{e f:E2}{b:Addr}{v:V}:vo (yV kvs (kk e) b v) f↔vo kvs f∨f=e:=by
 unfold vo;rw[vh,vh,Wo]
 split
 ·rename_i c
  refine⟨.inl,λz=>z.elim id λz=>?_⟩;rw[z,←vh];exact c
 ·rw[pd,pZ];exact or_congr DV ⟨kk_inj,λz=>by rw[z]⟩
noncomputable def ofK:K2->E2
 |[[.inl x,.inl y],[.inl z,.inl t]]=>((x,y),(z,t))
 |_=>((0,0),(0,0))
noncomputable def esK(kvs:List N3):List E2:=kvs.map λp=>ofK p.1
def EdK.at{H:Hp}{kvs:List N3}(h:EdK H kvs){p:N3}(hp:p∈kvs):p.1=kk (ofK p.1):=by
 obtain⟨e,e1,_⟩:=h p hp;rw[e1];rfl
def EdK.mem{H:Hp}{kvs:List N3}(h:EdK H kvs){e:E2}:e∈esK kvs↔vo kvs e:=by
 unfold vo;rw[vh];unfold esK;rw[pL,pL];exact⟨λ⟨p,hp,z⟩=>⟨p,hp,by rw[h.at hp,z]⟩,λ⟨p,hp,z⟩=>⟨p,hp,by rw[z];rfl⟩⟩
def EdK.nodup{H:Hp}{kvs:List N3}(h:EdK H kvs)(nd:(kvs.map (·.1)).Nodup):(esK kvs).Nodup:=by
 unfold esK;rw[pN,QM] at nd⊢;exact nd.imp_of_mem λ{a b} ha hb n z=>n (by rw[h.at ha,h.at hb,z])
noncomputable def w9(kvs:List N3)(n:Nat):List E2:=((esK kvs).take n).filter λe=> !(yR kvs (kk (e.2,e.1))).isSome
theorem stp_ne(a:Int×Int)(k:Fin 8):a≠stp a k:=λz=>by
 unfold stp at z;have h1:=congrArg CB z;have h2:=congrArg Hc z;dsimp only at h1 h2;exact dv_ne k (Qg (by show(dv k).1=0;lia) (by show(dv k).2=0;lia))
def sd_snoc{cs:List C3}{c:C3}{e:E2}:Sd (cs++[c]) e↔Sd cs e∨∃x,x∈yx c/\e=(x.1,stp x.1 x.2):=by
 unfold Sd
 constructor
 ·rintro⟨d,hd,a,k,h1,h2⟩;rcases pd.mp hd with z|z
  ·exact .inl ⟨d,z,a,k,h1,h2⟩
  ·rw[pZ.mp z] at h1;exact .inr ⟨(a,k),h1,h2⟩
 ·rintro(⟨d,hd,a,k,h1,h2⟩|⟨⟨a,k⟩,h1,h2⟩)
  ·exact⟨d,Qp _ hd,a,k,h1,h2⟩
  ·exact⟨c,pY _ (pZ.mpr rfl),a,k,h1,h2⟩
inductive zdd (vs:List V) (H:Hp) (Q:VK) (E:XK):Prop
 |mk (l:Addr) (zs:List V) (cs:List (Int×Int×Int)) (_:vs=[.ref l]) (_:H l=some (.lst zs)) (_:zs.length<=196) (_:LR C3H H zs cs) (_:∀D ys es H',H D=none->ze H H'->H' D=some (.lst ys)->ys.length<=588->LR EdH H' ys es->es.Nodup->Edg cs es->Q (.ref D) H'):zdd vs H Q E
theorem zgi(T:Txt K mg ad fd):zv P w K mg base CX0 2 (ad 29) (fd 29) ["_law_cells_here"] zdd:=by
 refine T.law_edges.fn.ok jR (λvs H Q E h=>?_) (λcdv A outer s H vs Q E hr h=>?_)
 ·obtain⟨l,zs,cs,rfl,_⟩:=h;rfl
 obtain⟨l,zs,cs,rfl,hl,hn,hz,k⟩:=h;refine⟨_,
  (pss3
   (Vg (i:=1) jR.nd rfl (Dc rfl) (ZG (P:=P) (w:=w) rfl rfl))
   (yv uE rfl (yd (pm 0)) (zD 2 jR.nd) (pss2
   (zk 3 jR.nd (zu (ziv T) T.law_ends hr (pa1 (pm 2) zb)))
   (yv uE rfl (wG rfl T.b_range (pa1 za yy)) (zD 4 jR.nd) (zp (ZV (P:=P) (w:=w) rfl rfl (hu64 hr) (pm 1) (ye (pa2 (zd yg (pm 3) (pm 4)) zY (zd yg (pm 3) (zc yn (zc zQ (pm 4) za) za)) zY)) wD rfl)))))
   (zq (xT jR ["_law_side"] [1] (zj6 (P:=P) (w:=w) rfl rfl (pm 1)) (λcl C fp s2 H2 xe=>⟨(zD 0 (show UG (["_law_side","_law_sides"]:List Str) from by decide+kernel)),(js (Yn (Zo (P:=P) (w:=w) rfl rfl (hu64 hr) (ye (pa2 (zd zf (pm 0) za) zY (zd zf (pm 0) za) zY)) (pm 1)))),(pm 0)⟩))))
  ,?_⟩
 dsimp! [L2.start]
 simp! [Jf];intro S hS;have gS:=zg hS (nD P w S []);refine yo ?_;simp! [zX];refine⟨⟨_,.of (gS _ _ hl)⟩,?_⟩;refine xz (K:=K) (a:=l) (xs:=zs) (λi σ H'=>ze H H'/\∃(kvs:List N3)(o1 o2 o3:Option V),σ=[some (V.ref l),some (V.ref S),o1,o2,o3]/\H' S=some (nD P w S kvs)/\kvs.length<=3*i/\EdK H' kvs/\(kvs.map (·.1)).Nodup/\∀e,vo kvs e↔Sd (cs.take i) e) ⟨gS,[],none,none,none,rfl,upd_same,pG _,(λp hp=>by cases hp),Uw,λe=>⟨λz=>(by cases z),λ⟨c,hc,_⟩=>(by rw[Qs] at hc;cases hc)⟩⟩ (λi σ H' _ iv=>.of (iv.1 _ _ hl)) ?_ ?_
 ·intro _ _;rintro i v σ H2 hi ⟨g2,kvs,o1,o2,o3,rfl,hS2,hk,ek,nd,has⟩;obtain⟨p,c,rfl,hc',hc⟩:=hz.2 i v hi;have hi':=(pF.mp hi).1;simp! [];refine⟨p,c,rfl,qe _ _ _ _ (zI g2) hc,λL e0 e1 e2 a0 a1 a2 k0 k1 k2 H3 hL g3 hL3 p0 p1 p2 b0 b1 b2 tk s0 s1 s2=>?_⟩;have g03:=g2.trans g3;refine yo ?_;simp! [wv];have nLS:L≠S:=(xu hS2 hL).symm;refine⟨by decide,by decide,vH (λj σ H'=>ze H H'/\zJ H3 H'/\H' L=some (.lst [.ref e0,.ref e1,.ref e2])/\∃(kvs:List N3)(o:Option V),σ=[some (V.ref l),some (V.ref S),some (V.ref p),some (V.ref L),o]/\H' S=some (nD P w S kvs)/\kvs.length<=3*i+j/\EdK H' kvs/\(kvs.map (·.1)).Nodup/\∀e,vo kvs e↔Sd (cs.take i) e∨∃x,x∈(yx c).take j/\e=(x.1,stp x.1 x.2)) ⟨g03,λ_ _ h=>h,hL3,kvs,o3,rfl,g3 _ _ hS2,hk,ek.ts (zI g3),nd,λe=>⟨λz=>.inl ((has e).mp z),λz=>z.elim (has e).mpr λ⟨x,hx,_⟩=>(by rw[Qs] at hx;cases hx)⟩⟩ ?_ ?_⟩
  ·intro _ _;rintro j σ H4 hj ⟨g4,t4,hL4,kvs,o,rfl,hS4,hk4,ek4,nd4,has4⟩;obtain⟨A0,A1,f0,f1,kf,e0',e1',q0,q1,c0,c1,sf,tf⟩:∃(A0 A1:Addr)(f0 f1:Int×Int)(kf:Fin 8),atI [V.ref e0,V.ref e1,V.ref e2] (j:Int)=some (.ref A0)/\atI [V.ref e0,V.ref e1,V.ref e2] (((j:Int)+1)%3)=some (.ref A1)/\P2H H3 A0 f0/\P2H H3 A1 f1/\Bx f0/\Bx f1/\stp f0 kf=f1/\(yx c)[j]?=some (f0,kf):=by
    have hj3:j<3:=hj;rcases(by lia:j=0∨j=1∨j=2) with e|e|e<;>subst e
    ·exact⟨e0,e1,_,_,k0,at0,at1,p0,p1,b0,b1,s0,by rw[tk];rfl⟩
    ·exact⟨e1,e2,_,_,k1,at1,at2,p1,p2,b1,b2,s1,by rw[tk];rfl⟩
    ·exact⟨e2,e0,_,_,k2,at2,at0,p2,p0,b2,b0,s2,by rw[tk];rfl⟩
   simp! [XW,QY,hL4,e0',e1'];refine⟨by decide,λt ht=>?_⟩
   have g5:=zg ht (HO.tup [V.ref A0,V.ref A1]);have h5:upd H4 t (HO.tup [V.ref A0,V.ref A1]) t=some (HO.tup [V.ref A0,V.ref A1]):=upd_same;generalize upd H4 t (HO.tup [V.ref A0,V.ref A1])=H5 at*;have hS5:=g5 _ _ hS4;have t35:=XX t4 (zI g5);have ed:EdH H5 t (f0,f1):=⟨⟨A0,A1,h5,t35 _ _ q0,t35 _ _ q1⟩,c0,c1,by show f0≠f1;rw[←sf];exact stp_ne _ _⟩
   have ek5:=ek4.ts (zI g5);refine⟨kvs,hS5,ek5.kn,[kP f0,kP f1],ed.nk,small1000 (by lia),zW (g4.trans g5) hS,XX t35 (YX hS5),?_,_,rfl,pz (Ws _ _ _ _) (by lia),(ek5.put ed).ts (YX hS5),ZO nd4,λe=>?_⟩
   ·rw[zh nLS];exact g5 _ _ hL4
   ·show vo (yV kvs (kk (f0,f1)) t _) e↔_
    rw[zi5,has4,uA,tf,←sf]
    constructor
    ·rintro((z|⟨x,hx,z⟩)|z)
     ·exact .inl z
     ·exact .inr ⟨x,Qp _ hx,z⟩
     ·exact .inr ⟨(f0,kf),pY _ (pZ.mpr rfl),z⟩
    ·rintro(z|⟨x,hx,z⟩)
     ·exact .inl (.inl z)
     ·rcases pd.mp hx with hx|hx
      ·exact .inl (.inr ⟨x,hx,z⟩)
      ·rw[pZ.mp hx] at z;exact .inr z
  ·rintro σ H4 ⟨g4,t4,hL4,kvs,o,rfl,hS4,hk4,ek4,nd4,has4⟩;refine⟨g4,⟨_,_,_,rfl⟩,kvs,hS4,by have:(Int.toNat 3)=3:=rfl;lia,ek4,nd4,λe=>?_⟩
   rw[has4,uA,hc'];show _↔Sd (cs.take i++[c]) e;rw[sd_snoc,pV (l:=yx c) (by rw[tk];exact pG _)]
 ·rintro σ H2 ⟨g2,kvs,o1,o2,o3,rfl,hS2,hk,ek,nd,has⟩;simp! [];refine y9 ?_;simp! [zea];refine⟨kvs,hS2,λo D hD=>?_⟩;have gF:ze H (upd H2 S (HO.frz o (nD P w S kvs))):=zW g2 hS;have hSF:upd H2 S (HO.frz o (nD P w S kvs)) S=some (HO.frz o (nD P w S kvs)):=upd_same;have ekF:=ek.ts (YX (o:=HO.frz o (nD P w S kvs)) hS2);generalize upd H2 S (HO.frz o (nD P w S kvs))=H3 at*;have lk:(kvs.map λp=>p.2.1).length=kvs.length:=pC _;rw[pV (Qi hz.1.symm)] at has;refine zhz (λi ys H'=>ze H3 H'/\H' D=some (.lst ys)/\ys.length<=i/\LR EdH H' ys (w9 kvs i)) ⟨zg hD _,upd_same,pG _,.nil⟩ (λi ys H' z=>z.1 _ _ hSF) ?_ ?_
  ·rintro i ys H4 b hb ⟨g4,hD4,hy,he⟩;have hi:=(pF.mp hb).1;rw[pT] at hb;obtain⟨q,hq,eb⟩:=Qr.mp hb;obtain⟨e,e1,e2⟩:=ekF q (pX hq);have eq:(esK kvs)[i]?=some e:=by
    unfold esK;rw[pT,hq,Ug,e1];rfl
   rw[eb] at e2;have e4:=jA _ _ _ _ (zI g4) e2;obtain⟨⟨c,d,h1,h2,h3⟩,b1,b2,ne⟩:=id e4;simp! [X8,h1];intro t ht;have g5:=zg ht (HO.tup [V.ref d,V.ref c]);have h5:upd H4 t (HO.tup [V.ref d,V.ref c]) t=some (HO.tup [V.ref d,V.ref c]):=upd_same;generalize upd H4 t (HO.tup [V.ref d,V.ref c])=H5 at*;have g35:=g4.trans g5;have ek5:=ekF.ts (zI g35);have e5:=jA _ _ _ _ (zI g5) e4;have hD5:=g5 _ _ hD4;refine⟨kvs,.inr ⟨o,g35 _ _ hSF⟩,ek5.kn,[kP e.2,kP e.1],NK.two h5 (g5 _ _ h3) (g5 _ _ h2),ite2 (λcc=>?_) λcc=>?_⟩
   ·refine cw_put hi hD5 (small1000 (by rw[lk] at hi;lia)) ⟨zW g35 hD,upd_same,by rw[pK,uz];lia,?_⟩
    have en:w9 kvs (i+1)=w9 kvs i++[e]:=by
     unfold w9;rw[uA,eq,uZ]
     congr 1
     exact Dy cc
    rw[en];exact((he.ts jA (zI g5)).snoc e5).ts jA (yS hD5)
   ·refine cw_skip hi (ys:=ys) ⟨g35,hD5,by lia,?_⟩
    have en:w9 kvs (i+1)=w9 kvs i:=by
     unfold w9;rw[uA,eq,uZ];rw[show(some e).toList=[e] from rfl,Dz (a:=e) (l:=[]) cc,List.filter_nil,uR]
    rw[en];exact he.ts jA (zI g5)
  ·rintro ys H4 ⟨g4,hD4,hy,he⟩;rw[lk] at hy;have ae:w9 kvs (kvs.map λp=>p.2.1).length=(esK kvs).filter λe=> !(yR kvs (kk (e.2,e.1))).isSome:=by
    unfold w9;rw[pV (by unfold esK;rw[pC,pC];exact pG _)]
   rw[ae] at he;refine k D ys _ H4 (gF.free hD) (gF.trans g4) hD4 (by lia) he ((ekF.nodup nd).filter _) λe=>?_
   rw[pg,ekF.mem,has];refine and_congr DV ?_;rw[←has (e.2,e.1)];unfold vo
   cases(yR kvs (kk (e.2,e.1))).isSome<;>simp
def qa(ss:List (E2))(e:E2)(p:Int×Int):lvP (ss++[e]) p=lvP ss p++if e.1=p then[e.2] else[]:=by
 unfold lvP;rw[uZ,uF]
 congr 1
 by_cases c:e.1=p
 ·rw[if_pos c,QX,if_pos (decide_eq_true c)];rfl
 ·rw[if_neg c,QX,if_neg (λz=>c (of_decide_eq_true z))];rfl
def lvP_len(ss:List (E2))(p:Int×Int):(lvP ss p).length<=ss.length:=by
 unfold lvP;rw[pC];exact Qm _ _
structure LvP(H0 H:Hp)(d:Addr)(kvs:List (List Key×V))(ss:List (E2)):Prop where
 same:ze H0 H
 new:H0 d=none
 at_:H d=some (.dT kvs)
 len:kvs.length<=ss.length
 ent:∀p v,zr kvs (kP p)=some v->∃a zs,v=.ref a/\H0 a=none/\H a=some (.lst zs)/\LR P2H H zs (lvP ss p)
 non:∀p,zr kvs (kP p)=none->lvP ss p=[]
 dis:∀p p' v,zr kvs (kP p)=some v->zr kvs (kP p')=some v->p=p'
variable{ss:List (E2)}
def LvP.mono{H0 H H':Hp}{d:Addr}{kvs:List (List Key×V)}(h:LvP H0 H d kvs ss)(g:ze H H'):LvP H0 H' d kvs ss:=
 ⟨h.same.trans g,h.new,g _ _ h.at_,h.len,λk v e=>by
  obtain⟨a,ys,e1,e2,e3,e4⟩:=h.ent k v e;exact⟨a,ys,e1,e2,g _ _ e3,e4.ts xC (zI g)⟩,h.non,h.dis⟩
theorem LvP.app{H0 H:Hp}{d a t b:Addr}{kvs:List (List Key×V)}{p q:Int×Int}{Qc:VK}(h:LvP H0 H d kvs ss)(hm:ss.length<900)(ha:P2H H a p)(hb:P2H H b q)(ht:H t=none)
  (k:∀(l:Addr)(H1:Hp)(zs:List V) kvs',H1 l=some (.lst zs)->zs.length<sizeLine->LvP H0 (upd H1 l (.lst (zs++[.ref b]))) d kvs' (ss++[(p,q)])->Qc (.ref l) H1):rSD d (.ref a) (.ref t) (upd H t (.lst [])) Qc:=by
 have g:=zg ht (HO.lst []);have hg:=h.mono g;refine⟨kvs,kP p,a,hg.at_,rfl,g _ _ ha,small1000 (by have:=h.len;lia),λv hv=>?_,λhv=>?_⟩
 ·obtain⟨l,ys,rfl,e2,e3,e4⟩:=hg.ent _ _ hv;have ly:ys.length<=ss.length:=by rw[e4.1];exact lvP_len _ _
  refine k l _ ys kvs e3 (small1000 (by lia)) ⟨zW hg.same e2,h.new,?_,by have:=h.len;rw[pK];lia,λp' v' hv'=>?_,λp' hv'=>?_,h.dis⟩
  ·rw[zh (λz=>by rw[←z,hg.at_] at e3;cases e3)]
   exact hg.at_
  ·obtain⟨l',ys',rfl,f2,f3,f4⟩:=hg.ent _ _ hv'
   by_cases el:l'=l
   ·subst el;rw[e3] at f3
    cases f3;have pp:=h.dis _ _ _ hv' hv;subst pp;refine⟨l',_,rfl,f2,upd_same,?_⟩;rw[qa,if_pos rfl];exact(e4.snoc (xC _ _ _ _ (zI g) hb)).ts xC (yS e3)
   ·refine⟨l',ys',rfl,f2,by rw[zh el];exact f3,?_⟩
    rw[qa,if_neg (λz=>el (by
     have z':p=p':=z;rw[←z'] at hv';rw[hv] at hv'
     cases hv';rfl)),uR]
    exact f4.ts xC (yS e3)
  ·rw[qa,h.non _ hv',if_neg (λz=>by
    have z':p=p':=z;rw[z',hv'] at hv
    cases hv)]
   rfl
 ·have td:t≠d:=λz=>by rw[z,h.at_] at ht;cases ht
  have h0t:=h.same.free ht;have up:∀b' o,b'≠d->H b'=some o->upd (upd (upd H t (.lst [])) d (.dT (putK kvs (kP p) (.ref t)))) t (.lst [.ref b]) b'=some o:=λb' o nb hb'=>by
   have nt:b'≠t:=λz=>by rw[z,ht] at hb';cases hb'
   rw[zh nt,zh nb,zh nt];exact hb'
  have ts:zJ H (upd (upd (upd H t (.lst [])) d (.dT (putK kvs (kP p) (.ref t)))) t (.lst [.ref b])):=λb' xs hb'=>up b' _ (λz=>by rw[z,h.at_] at hb';cases hb') hb'
  have nt:∀p',zr kvs (kP p')≠some (.ref t):=λp' z=>by
   obtain⟨l',ys',e,f2,f3,f4⟩:=h.ent _ _ z
   cases e;rw[ht] at f3
   cases f3
  refine k t _ [] (putK kvs (kP p) (.ref t)) (by rw[zh td];exact upd_same) (small1000 (by simp)) ⟨λb' o hb'=>up b' o (λz=>by rw[z,h.new] at hb';cases hb') (h.same _ _ hb'),h.new,by rw[zh td.symm];exact upd_same,pz (vk _ _ _) (by have:=h.len;rw[pK];exact gK this),λp' v' hv'=>?_,λp' hv'=>?_,λp' p2 v' h1 h2=>?_⟩
  ·rw[vf] at hv'
   by_cases ek:kP p'=kP p
   ·rw[if_pos ek] at hv'
    cases hv';have e':=Yk ek;subst e';refine⟨t,[.ref b],rfl,h0t,upd_same,?_⟩;rw[qa,if_pos rfl,h.non _ hv];exact LR.one (R:=P2H) (xC _ _ _ _ ts hb)
   ·rw[if_neg ek] at hv';obtain⟨l',ys',rfl,f2,f3,f4⟩:=h.ent _ _ hv';refine⟨l',ys',rfl,f2,up _ _ (λz=>by rw[z,h.at_] at f3;cases f3) f3,?_⟩
    rw[qa,if_neg (λz=>ek (by have z':p=p':=z;rw[z'])),uR]
    exact f4.ts xC ts
  ·rw[vf] at hv'
   by_cases ek:kP p'=kP p
   ·rw[if_pos ek] at hv'
    cases hv'
   ·rw[if_neg ek] at hv';rw[qa,h.non _ hv',if_neg (λz=>ek (by have z':p=p':=z;rw[z']))]
    rfl
  ·rw[vf] at h1 h2
   by_cases e1:kP p'=kP p
   ·by_cases e2:kP p2=kP p
    ·rw[Yk e1,Yk e2]
    ·rw[if_pos e1] at h1;rw[if_neg e2] at h2
     cases h1;exact absurd h2 (nt _)
   ·by_cases e2:kP p2=kP p
    ·rw[if_neg e1] at h1;rw[if_pos e2] at h2
     cases h2;exact absurd h1 (nt _)
    ·rw[if_neg e1] at h1;rw[if_neg e2] at h2;exact h.dis _ _ _ h1 h2
noncomputable def d2(a:Int×Int):De:=.tuple [.int a.1,.int a.2]
def qB{K:pI}{H:Hp}{p:Addr}{a:Int×Int}(h:P2H H p a):RdD K H (d2 a) (.ref p):=by
 unfold d2;rw[RdD];refine⟨p,_,rfl,.of h,?_⟩;rw[zO];refine⟨_,_,rfl,by rw[RdD],?_⟩
 rw[zO];refine⟨_,_,rfl,by rw[RdD],?_⟩
 rw[zO]
def Zi(a:Int×Int):Qq (d2 a)=true:=by
 simp[d2,Qq,UI,uU,Qw,uT]
def Va(a b:Int×Int):ut (d2 a) (d2 b)=decide (a=b):=by
 rw[Qa];obtain⟨x,y⟩:=a;obtain⟨x',y'⟩:=b
 simp[d2,ut,uP]
def Wv(a:Int×Int):(d2 a).canLay0=true/\(d2 a).depth<=3:=by
 simp[d2,UI,uU,Qw,uT]
theorem ZJ(F:List (Int×Int)):uU (F.map d2)=true/\uT (F.map d2)<=3:=by
 induction F with
 |nil=>exact⟨rfl,by simp[uT]⟩
 |cons r F ih=>
  have h:=Wv r;rw[pR]
  constructor
  ·rw[uU,h.1,ih.1];rfl
  ·rw[uT];have:=h.2;have:=ih.2;lia
theorem rd_p2{K:pI}{H:Hp}:∀{us:List V}{cs:List (Int×Int)},LR P2H H us cs->zO K H (cs.map d2) us
 |[],[],_=>by rw[QF,zO]
 |[],_::_,h=>by cases h.1
 |_::_,[],h=>by cases h.1
 |u::us,c::cs,h=>by
  obtain⟨a,as',e,⟨p,rfl,hp⟩,ht⟩:=h.cons_inv
  cases e;rw[pR,zO];exact⟨_,_,rfl,qB hp,rd_p2 ht⟩
def LvP.keep{H0 H:Hp}{d D:Addr}{kvs:List (List Key×V)}{fs:List E2}{zs:List V}(h:LvP H0 H d kvs fs)(hD:H D=some (.lst zs))(h0:H0 D=none)(nD:∀p,zr kvs (kP p)≠some (.ref D)):LvP H0 (upd H D (.lst us)) d kvs fs:=by
 refine⟨zW h.same h0,h.new,?_,h.len,λp v e=>?_,h.non,h.dis⟩
 ·rw[zh (λz=>by rw[←z,h.at_] at hD;cases hD)]
  exact h.at_
 ·obtain⟨a,ys,e1,e2,e3,e4⟩:=h.ent p v e;refine⟨a,ys,e1,e2,?_,e4.ts xC (yS hD)⟩;rw[zh (λz=>nD p (by rw[e,e1,z]))]
  exact e3
inductive zb1 (vs:List V) (H:Hp) (Q:VK) (E:XK):Prop
 |mk (H0:Hp) (d p q:Addr) (kvs:List (List Key×V)) (es:List E2) (a b:Int×Int) (_:vs=[.ref d,.ref p,.ref q]) (_:LvP H0 H d kvs es) (_:es.length<=900) (_:P2H H p a) (_:P2H H q b) (_:∀H',ze H H'->Q (.bl (str es a b)) H'):zb1 vs H Q E
theorem zdj(T:Txt K mg ad fd):zv P w K mg base CX0 1 (ad 30) (fd 30) ["_law_starts","_law_begin","_law_end"] zb1:=by
 refine T.law_straight.fn.ok ze7 (λvs H Q E h=>?_) (λcdv A outer s H vs Q E hr h=>?_)
 ·obtain⟨H0,d,p,q,kvs,es,a,b,rfl,_⟩:=h;rfl
 obtain⟨H0,d,p,q,kvs,es,a,b,rfl,st,hm,hp,hq,k⟩:=h;refine⟨_,
  (pss2
   (zk 3 ze7.nd (Z8 (xj hr) (pm 0) (pm 2) (yN yM) ⟨rfl,rfl,rfl,rfl⟩))
   (zq (qw (xq wz (ya y7 rfl T.b_len yG (pa1 (pm 3) zb)) za (nomark _)) (Yt (xq (Y4 (hu64 hr)) (zd y6 (pm 3) za) (ye (pa2 (zc yr (zc y4 za (zd yP (pm 2) za)) (zd yP (pm 1) za)) zx (zc yr (zc y4 za (zd yP (pm 2) za)) (zd yP (pm 1) za)) zx)) (nomark _))))))
  ,?_⟩
 dsimp! [L2.start]
 have hp':H p=some (.tup [.int a.1,.int a.2]):=hp;have hq':H q=some (.tup [.int b.1,.int b.2]):=hq;simp! [V5];refine⟨qL st.at_,λt ht=>?_⟩;have g:=zg ht (HO.lst []);have ht1:upd H t (HO.lst []) t=some (HO.lst []):=upd_same;generalize upd H t (HO.lst [])=H1 at*;have st1:=st.mono g;have hp1:H1 p=some (.tup [.int a.1,.int a.2]):=g _ _ hp;have hq1:H1 q=some (.tup [.int b.1,.int b.2]):=g _ _ hq;refine⟨zr kvs (kP b),.t (k:=kP b) st1.at_ hq1,?_⟩
 cases e:zr kvs (kP b) with
 |none=>
  have e0:=st1.non _ e;have sf:str es a b=false:=decide_eq_false (by rw[e0];exact λz=>by cases z)
  rw[sf] at k;refine⟨t,rfl,[],.inl ht1,?_⟩;rw[decide_eq_false (by decide)]
  exact yE (k H1 g)
 |some v=>
  obtain⟨l,ys,rfl,_,e3,e4⟩:=st1.ent _ _ e;refine⟨l,rfl,ys,.inl e3,ite2 (λc=>?_) λc=>?_⟩
  ·have c:=of_decide_eq_true c;have c1:ys.length=1:=by lia
   have c2:(lvP es b).length=1:=by rw[←e4.1];exact c1
   obtain⟨cu,ecu⟩:=List.length_eq_one_iff.mp c2;rw[ecu] at e4;obtain⟨pu,cu',e5,e6,hu⟩:=e4.at (j:=0) (by lia)
   cases e6;refine⟨l,rfl,_,e3,_,yl (j:=0) e5,?_⟩;simp! [hp1,hq1];refine⟨.inl ⟨by decide,by decide⟩,.inl ⟨by decide,by decide⟩,λr hr'=>?_⟩
   have g2:=zg hr' (HO.tup [V.int (2*b.1-a.1),V.int (2*b.2-a.2)]);have h2:P2H (upd H1 r (HO.tup [V.int (2*b.1-a.1),V.int (2*b.2-a.2)])) r (onP a b):=upd_same;generalize upd H1 r (HO.tup [V.int (2*b.1-a.1),V.int (2*b.2-a.2)])=H2 at*;refine⟨_,_,qB (xC _ _ _ _ (zI g2) hu),qB h2,Zi _,Zi _,?_⟩;rw[Va];have sf:str es a b=decide (cu=onP a b):=by
    unfold str;rw[ecu];refine decide_eq_decide.mpr ⟨λz=>(List.cons.inj z).1,λz=>by rw[z]⟩
   rw[sf] at k;exact k H2 (g.trans g2)
  ·have sf:str es a b=false:=decide_eq_false λz=>c (decide_eq_true (by
    have:=e4.1;rw[z] at this;show((ys.length:Nat):Int)=1;rw[this];rfl))
   rw[sf] at k;exact k H1 g
noncomputable def isB(es:List E2)(e:E2):Bool:= !(decide (e.1∈lvP es (onP e.2 e.1))&&str es (onP e.2 e.1) e.1)
def FcR(es fs ws:List E2):Prop:=fs.length=ws.length/\∀(j:Nat) e w,fs[j]?=some e->ws[j]?=some w->w.1=e.1/\Goes es e.1 e.2 w.2
theorem FcR.snoc{es fs ws:List E2}{e w:E2}(h:FcR es fs ws)(h1:w.1=e.1)(h2:Goes es e.1 e.2 w.2):FcR es (fs++[e]) (ws++[w]):=by
 refine⟨by rw[pK,pK,h.1];rfl,λj f v hf hv=>?_⟩
 by_cases c:j<fs.length
 ·rw[uX c] at hf;rw[uX (by rw[←h.1];exact c)] at hv
  exact h.2 j f v hf hv
 ·have ej:j=fs.length:=by
   have:=(pF.mp hf).1;rw[pK,uz] at this;lia
  rw[ej,uJ (pG _),Bw] at hf;rw[ej,h.1,uJ (pG _),Bw] at hv
  cases hf
  cases hv;exact⟨h1,h2⟩
def zcd{es:List E2}{a:Int×Int}{k:Fin 8}:isB es (a,stp a k)=true↔Bgn es a k:=by
 unfold isB Bgn;dsimp only;rw[zhm,←XT]
 by_cases c:a∈lvP es (stp a (k+4))<;>cases str es (stp a (k+4)) a<;>simp[c]
theorem wys_of{cs:List C3}{es ws:List E2}(E:Edg cs es)(nd:es.Nodup)(F:FcR es (es.filter (isB es)) ws):Wys es ws:=by
 have key:∀(j:Nat) w,ws[j]?=some w->∃k m,(es.filter (isB es))[j]?=some (w.1,stp w.1 k)/\Wy es w.1 w.2 k m/\Bgn es w.1 k:=λj w hw=>by
  have hj:j<(es.filter (isB es)).length:=by rw[F.1];exact(pF.mp hw).1
  have he:=pJ hj;generalize (es.filter (isB es))[j]=e at he;obtain⟨h1,h2⟩:=F.2 j e w he hw;obtain⟨m1,m2⟩:=pg.mp (pX he);obtain⟨k,hk⟩:=E.ray m1;obtain⟨m,wy⟩:=h2.wy hk m1;have ee:e=(w.1,stp w.1 k):=Qg h1.symm (by rw[h1];exact hk)
  rw[ee] at m2 he;rw[←h1] at wy;exact⟨k,m,he,wy,zcd.mp m2⟩
 refine⟨?_,λw hw=>?_,λa k h1 h2=>?_⟩
 ·rw[pN,List.pairwise_iff_getElem];intro i j hi hj hij z;obtain⟨k,m,e1,w1,_⟩:=key i _ (pJ hi);obtain⟨k',m',e2,w2,_⟩:=key j _ (pJ hj);rw[z] at e1 w1;have:=w1.dir w2;subst this;have n1:=(pF.mp e1);have n2:=(pF.mp e2);have:=(BJ (nd.filter (isB es))).mp (n1.2.trans n2.2.symm);lia
 ·obtain⟨j,hj⟩:=Ql.mp hw;obtain⟨k,m,_,w1,b⟩:=key j w hj;exact⟨k,m,w1,b⟩
 ·obtain⟨j,hj⟩:=Ql.mp (pg.mpr ⟨h1,zcd.mpr h2⟩);have hj':j<ws.length:=by rw[←F.1];exact(pF.mp hj).1
  obtain⟨e1,e2⟩:=F.2 j _ _ hj (pJ hj');obtain⟨m,wy⟩:=e2.wy rfl h1;refine⟨_,m,?_,wy⟩;have:(a,(ws[j]).2)=ws[j]:=Qg e1.symm rfl;rw[this];exact UJ _
def WyH(H:Hp)(p:Addr)(e:E2):Prop:=(∃c d,H p=some (.tup [.ref c,.ref d])/\P2H H c e.1/\P2H H d e.2)/\Bx e.1/\Bx e.2
def YN:∀(H H':Hp)(p:Addr)(e:E2),zJ H H'->WyH H p e->WyH H' p e:=λ_ _ _ _ g⟨⟨c,d,h1,h2,h3⟩,b⟩=>⟨⟨c,d,g _ _ h1,g _ _ h2,g _ _ h3⟩,b⟩
inductive JX (vs:List V) (H:Hp) (Q:VK) (E:XK):Prop
 |mk (l:Addr) (ys:List V) (es:List E2) (_:vs=[.ref l]) (_:H l=some (.lst ys)) (_:ys.length<=588) (_:LR EdH H ys es) (_:es.Nodup) (_:(∃cs,Edg cs es)) (_:∀D zs ws H',H D=none->ze H H'->H' D=some (.lst zs)->zs.length<=588->LR WyH H' zs ws->Wys es ws->Q (.ref D) H'):JX vs H Q E
noncomputable def mu(dx dy:Int)(H:Hp)(σ:St):Nat:=match(σ:List (Option V))[7]? with
 |some (some (V.ref p))=>(match H p with
  |some (.tup [.int x,.int y])=>(if 0<dx then 14-x else if dx<0 then x else if 0<dy then 14-y else y).toNat
  |_=>0)
 |_=>0
theorem mu_of{dx dy:Int}{H:Hp}{v0 v1 v2 v3 v4 v5 v6:Option V}{p:Addr}{a:Int×Int}(h:P2H H p a):mu dx dy H [v0,v1,v2,v3,v4,v5,v6,some (.ref p)]=(if 0<dx then 14-a.1 else if dx<0 then a.1 else if 0<dy then 14-a.2 else a.2).toNat:=by
 unfold P2H at h;show(match H p with
  |some (.tup [.int x,.int y])=>(if 0<dx then 14-x else if dx<0 then x else if 0<dy then 14-y else y).toNat
  |_=>0)=_
 rw[h]
theorem mu_less{dx dy:Int}{a b:Int×Int}(ha:Bx a)(hb:Bx b)(e1:b.1-a.1=dx)(e2:b.2-a.2=dy)(n:¬(dx=0/\dy=0)):(if 0<dx then 14-b.1 else if dx<0 then b.1 else if 0<dy then 14-b.2 else b.2).toNat<(if 0<dx then 14-a.1 else if dx<0 then a.1 else if 0<dy then 14-a.2 else a.2).toNat:=by
 obtain⟨a1,a2,a3,a4⟩:=ha;obtain⟨b1,b2,b3,b4⟩:=hb
 by_cases c1:0<dx
 ·rw[if_pos c1,if_pos c1];lia
 ·rw[if_neg c1,if_neg c1]
  by_cases c2:dx<0
  ·rw[if_pos c2,if_pos c2];lia
  ·rw[if_neg c2,if_neg c2]
   by_cases c3:0<dy
   ·rw[if_pos c3,if_pos c3];lia
   ·rw[if_neg c3,if_neg c3];lia
theorem WE(a:Int×Int):∀ls:List (Int×Int),((ls.map d2).any λx=>x.eqv (d2 a))=decide (a∈ls)
 |[]=>rfl
 |x::ls=>by
  rw[pR,Di,WE a ls,Va]
  by_cases c:x=a
  ·rw[decide_eq_true c,HL,decide_eq_true (by rw[c];exact pj ..)]
  ·rw[decide_eq_false c,Gw];exact decide_eq_decide.mpr ⟨pE _,λz=>(pS.mp z).resolve_left λq=>c q.symm⟩
theorem isB_1{es:List E2}{e:E2}(h:(!((lvP es (onP e.2 e.1)).map d2).any λx=>x.eqv (d2 e.1))=true):isB es e=true:=by
 rw[WE] at h;unfold isB
 cases z:decide (e.1∈lvP es (onP e.2 e.1)) with
 |true=>rw[z] at h;cases h
 |false=>rfl
theorem isB_2{es:List E2}{e:E2}(h:(!str es (onP e.2 e.1) e.1)=true):isB es e=true:=by
 unfold isB
 cases z:str es (onP e.2 e.1) e.1 with
 |true=>rw[z] at h;cases h
 |false=>rw[Gj];rfl
theorem isB_3{es:List E2}{e:E2}(h1:¬(!((lvP es (onP e.2 e.1)).map d2).any λx=>x.eqv (d2 e.1))=true)(h2:¬(!str es (onP e.2 e.1) e.1)=true):¬isB es e=true:=by
 rw[WE] at h1;unfold isB
 cases z:decide (e.1∈lvP es (onP e.2 e.1)) with
 |false=>rw[z] at h1;exact absurd rfl h1
 |true=>
  cases z':str es (onP e.2 e.1) e.1 with
  |false=>rw[z'] at h2;exact absurd rfl h2
  |true=>decide
theorem zif(T:Txt K mg ad fd):zv P w K mg base CX0 2 (ad 31) (fd 31) ["_law_edges_here"] JX:=by
 refine T.law_long.fn.ok wk (λvs H Q E h=>?_) (λcdv A outer s H vs Q E hr h=>?_)
 ·obtain⟨l,ys,es,rfl,_⟩:=h;rfl
 obtain⟨l,ys,es,rfl,hl,hn,he,nd,⟨cs0,Eg⟩,k⟩:=h;have lse:=he.1;have hbx:∀e,e∈es->Bx e.1/\Bx e.2:=λe hm=>by
  obtain⟨j,hj⟩:=Ql.mp hm;obtain⟨p,f,_,e2,e3⟩:=he.at (j:=j) (by rw[lse];exact(pF.mp hj).1)
  rw[hj] at e2
  cases e2;exact⟨e3.2.1,e3.2.2.1⟩
 obtain⟨tl,htl,hk⟩:∃tl,PSs (wc CX0 P w K mg base ["_law_edges_here","_law_starts","_law_first","_law_last","_law_ways","_law_back_here","_law_begin","_law_end"] "_law_long" (zo qD) (ad 31) cdv A outer s H E).nox ((xw qD).drop 2) tl/\∀(d:Addr)(kvs:List (List Key×V))(H1:Hp)(o1 o2:Option V),LvP H H1 d kvs es->
   tl {nx:=λ_ H'=>Q .non H',rt:=Q} [some (.ref l),some (.ref d),o1,o2,none,none,none,none] H1:=by
  refine⟨_,
  (pss3
   (zk 4 wk.nd (yN yM))
   (yv uE rfl (yd (pm 0)) (vU (n:=2) rfl (xt (zD 2 wk.nd) (xt (zD 3 wk.nd) vI))) (pss2
   (zk 5 wk.nd (ye (pa2 (zc yr (zc y4 za (zd zf (pm 2) za)) (zd zf (pm 3) za)) zx (zc yr (zc y4 za (zd zf (pm 2) za)) (zd zf (pm 3) za)) zx)))
   (zL (PW.pt (vz (zM (zax (K':=K) rfl (hu64 hr)) (pm 2) (Z8 (xj hr) (pm 1) (pm 5) (yN yM) ⟨rfl,rfl,rfl,rfl⟩) rfl) (j4 (vQ (xc (zu (zdj T) T.law_straight hr (pa3 (pm 1) zb (pm 5) zb (pm 2) zb))))))) (pss4
   (zk 6 wk.nd (pm 2))
   (zk 7 wk.nd (pm 3))
   (Xk uE (xc (zu (zdj T) T.law_straight hr (pa3 (pm 1) zb (pm 6) zb (pm 7) zb))) (zp (Wb (i:=6) (j:=7) rfl wk.nd rfl rfl (by decide) rfl rfl (pa2 (pm 7) zb (ye (pa2 (zc yr (zc y4 za (zd zf (pm 7) za)) (zd zf (pm 6) za)) zx (zc yr (zc y4 za (zd zf (pm 7) za)) (zd zf (pm 6) za)) zx)) xI) rfl)))
   (xD (xM uQ uo uq xU (pm 4) (pa1 (ye (pa2 (pm 2) zb (pm 7) zb)) xI)))) zR)))
   (zq (pm 4)))
   ,λd kvs H1 o1 o2 st=>?_⟩
  skip
  simp! [];intro W hW;have nW:∀k,zr kvs (kP k)≠some (.ref W):=λk z=>by
   obtain⟨a,zs,e1,_,e3,_⟩:=st.ent k _ z
   cases e1;rw[hW] at e3
   cases e3
  have hW0:=st.same.free hW;have gW:=zg hW (HO.lst []);refine yo ?_;simp! [zX];refine⟨⟨_,.of (gW _ _ (st.same _ _ hl))⟩,?_⟩;refine xz (K:=K) (a:=l) (xs:=ys) (λi σ H'=>LvP H H' d kvs es/\∃(zs:List V)(ws:List E2)(o1 o2 o3 o4 o5:Option V),σ=[some (.ref l),some (.ref d),o1,o2,some (.ref W),o3,o4,o5]/\H' W=some (.lst zs)/\zs.length<=i/\LR WyH H' zs ws/\FcR es ((es.take i).filter (isB es)) ws) ⟨st.mono gW,[],[],o1,o2,none,none,none,rfl,upd_same,pG _,.nil,rfl,λj e w h=>(by rw[Qs] at h;cases h)⟩ (λi σ H' _ iv=>.of (iv.1.same _ _ hl)) ?_ ?_
  ·intro _ _;rintro i v σ H2 hi ⟨st2,zs,ws,o1,o2,o3,o4,o5,rfl,hW2,hz,hws,fc⟩;obtain⟨p,e,rfl,he',⟨c,c2,h1,h2,h3⟩,b1,b2,ne⟩:=he.2 i v hi;have hi':=(pF.mp hi).1;have h1':=st2.same _ _ h1;have h2':H2 c=some (.tup [.int e.1.1,.int e.1.2]):=st2.same _ _ h2;have h3':H2 c2=some (.tup [.int e.2.1,.int e.2.2]):=st2.same _ _ h3;refine⟨p,_,rfl,h1',rfl,_,_,rfl,_,_,rfl,rfl,?_⟩;refine ym λfX hX=>?_;simp! [h1',h2',h3'];refine⟨.inl ⟨by decide,by decide⟩,.inl ⟨by decide,by decide⟩,λt ht=>?_⟩
   have g3:=zg ht (HO.tup [V.int (2*e.1.1-e.2.1),V.int (2*e.1.2-e.2.2)]);have ht3:P2H (upd H2 t (HO.tup [V.int (2*e.1.1-e.2.1),V.int (2*e.1.2-e.2.2)])) t (onP e.2 e.1):=upd_same;generalize upd H2 t (HO.tup [V.int (2*e.1.1-e.2.1),V.int (2*e.1.2-e.2.2)])=H3 at*;have st3:=st2.mono g3;have f3:P2H H3 c e.1:=g3 _ _ h2';have l3:P2H H3 c2 e.2:=g3 _ _ h3';refine hX _ _ (ifG λfI gI hI hJ=>?_);simp! [V5,X1];refine⟨qL st3.at_,λu hu=>?_⟩;have g4:=zg hu (HO.lst []);have hu4:upd H3 u (HO.lst []) u=some (HO.lst []):=upd_same;generalize upd H3 u (HO.lst [])=H4 at*;have st4:=st3.mono g4;refine⟨zr kvs (kP (onP e.2 e.1)),.t (k:=kP (onP e.2 e.1)) st4.at_ (g4 _ _ ht3),?_⟩;obtain⟨L,us,hLv,hL4,hus⟩:∃L us,(zr kvs (kP (onP e.2 e.1))).getD (V.ref u)=.ref L/\H4 L=some (.lst us)/\LR P2H H4 us (lvP es (onP e.2 e.1)):=by
    cases ev:zr kvs (kP (onP e.2 e.1)) with
    |none=>exact⟨u,[],rfl,hu4,by rw[st4.non _ ev];exact .nil⟩
    |some v=>
     obtain⟨L,us,rfl,_,q3,q4⟩:=st4.ent _ _ ev;exact⟨L,us,rfl,q3,q4⟩
   have hcs:=rd_p2 (K:=K) hus;have hem:=pX he';have tk:es.take (i+1)=es.take i++[e]:=by rw[uA,he'];rfl
   have hWW4:∀{H7:Hp},ze H4 H7->H7 W=some (.lst zs):=λg=>g _ _ (g4 _ _ (g3 _ _ hW2));have wl:∀H5,ze H4 H5->isB es e=true->fI H5:=λH5 g5 hB=>by
    have st5:=st4.mono g5;have f5:P2H H5 c e.1:=g5 _ _ (g4 _ _ f3);have l5:P2H H5 c2 e.2:=g5 _ _ (g4 _ _ l3);have hWW5:∀{H7:Hp},ze H5 H7->H7 W=some (.lst zs):=λg=>g _ _ (g5 _ _ (g4 _ _ (g3 _ _ hW2)));refine hI _ ?_;simp! [];refine zib (λσ H'=>ze H5 H'/\∃(pb pe:Addr)(b e':Int×Int),σ=[some (V.ref l),some (V.ref d),some (V.ref c),some (V.ref c2),some (V.ref W),some (V.ref t),some (V.ref pb),some (V.ref pe)]/\P2H H' pb b/\P2H H' pe e'/\Bx e'/\e'.1-b.1=e.2.1-e.1.1/\e'.2-b.2=e.2.2-e.1.2/\∀x,Goes es b e' x->Goes es e.1 e.2 x) (λσ H'=>mu (e.2.1-e.1.1) (e.2.2-e.1.2) H' σ) ⟨.refl _,c,c2,e.1,e.2,rfl,f5,l5,b2,rfl,rfl,λ_ q=>q⟩ ?_;rintro σ H6 ⟨g6,pb,pe,b,e',rfl,hpb,hpe,bx,hdx,hdy,hgo⟩;have st6:=st5.mono g6;simp! [];refine⟨H,d,pb,pe,kvs,es,b,e',rfl,st6,by lia,hpb,hpe,λH7 g7=>⟨_,rfl,ite2 (λcc=>?_) λcc=>?_⟩⟩
    ·have hpb7:H7 pb=some (.tup [.int b.1,.int b.2]):=g7 _ _ hpb;have hpe7:H7 pe=some (.tup [.int e'.1,.int e'.2]):=g7 _ _ hpe;have bn:=(hbx _ (zbi cc)).2;refine⟨λσ' H'=>(ze H5 H'/\∃(pb pe:Addr)(b e':Int×Int),σ'=[some (V.ref l),some (V.ref d),some (V.ref c),some (V.ref c2),some (V.ref W),some (V.ref t),some (V.ref pb),some (V.ref pe)]/\P2H H' pb b/\P2H H' pe e'/\Bx e'/\e'.1-b.1=e.2.1-e.1.1/\e'.2-b.2=e.2.2-e.1.2/\∀x,Goes es b e' x->Goes es e.1 e.2 x)/\mu (e.2.1-e.1.1) (e.2.2-e.1.2) H' σ'<mu (e.2.1-e.1.1) (e.2.2-e.1.2) H6 [some (V.ref l),some (V.ref d),some (V.ref c),some (V.ref c2),some (V.ref W),some (V.ref t),some (V.ref pb),some (V.ref pe)],λσ' H'⟨⟨a1,pb,pe,b,e',a2,a3,a4,a5⟩,p2⟩=>⟨_,p2,rfl,a1,pb,pe,a2,b,a3,e',a4,a5⟩,?_⟩;simp! [hpb7,hpe7];refine⟨.inl ⟨by decide,by decide⟩,.inl ⟨by decide,by decide⟩,λp hp=>?_⟩
     have n0:¬(e.2.1-e.1.1=0/\e.2.2-e.1.2=0):=λz=>ne (Qg (by lia) (by lia))
     have g8:=zg hp (HO.tup [V.int (2*e'.1-b.1),V.int (2*e'.2-b.2)]);have hn8:P2H (upd H7 p (HO.tup [V.int (2*e'.1-b.1),V.int (2*e'.2-b.2)])) p (onP b e'):=upd_same;have hpe8:P2H (upd H7 p (HO.tup [V.int (2*e'.1-b.1),V.int (2*e'.2-b.2)])) pe e':=g8 _ _ hpe7;refine⟨(g6.trans g7).trans g8,⟨e',hpe8,onP b e',hn8,bn,?_,?_,λx q=>hgo x (.step cc q)⟩,?_⟩
     ·show 2*e'.1-b.1-e'.1=_
      lia
     ·show 2*e'.2-b.2-e'.2=_
      lia
     ·rw[mu_of hn8,mu_of hpe];exact mu_less bx bn (by show 2*e'.1-b.1-e'.1=_;lia) (by show 2*e'.2-b.2-e'.2=_;lia) n0
    ·have g67:=g6.trans g7;have hW7:=hWW5 g67;have c7:P2H H7 c e.1:=g67 _ _ f5;have pe7:P2H H7 pe e':=g7 _ _ hpe;have st7:=st6.mono g7;have ws7:=hws.ts YN (zI (((g3.trans g4).trans g5).trans g67));refine⟨xB hW7,λp hp=>?_⟩;have g8:=zg hp (HO.tup [V.ref c,V.ref pe]);have hW8:=g8 _ _ hW7;have st8:=st7.mono g8;have hp8:upd H7 p (HO.tup [V.ref c,V.ref pe]) p=some (HO.tup [V.ref c,V.ref pe]):=upd_same;have c8:P2H (upd H7 p (HO.tup [V.ref c,V.ref pe])) c e.1:=g8 _ _ c7;have pe8:P2H (upd H7 p (HO.tup [V.ref c,V.ref pe])) pe e':=g8 _ _ pe7;have ws8:=ws7.ts YN (zI g8);generalize upd H7 p (HO.tup [V.ref c,V.ref pe])=H8 at*;have gw:zJ H8 (upd H8 W (HO.lst (zs++[V.ref p]))):=λb xs q=>by
      rw[zh (λz=>by rw[z,hW8] at q;cases q)]
      exact q
     refine⟨zs,hW8,QN (pz hz (pz (UE hi') hn)) (by decide),st8.keep hW8 hW0 nW,?_,_,(ws8.ts YN gw).snoc (a:=(e.1,e')) ⟨⟨c,pe,gw _ _ hp8,gw _ _ c8,gw _ _ pe8⟩,b1,bx⟩,?_⟩
     ·rw[pK];exact gK hz
     ·rw[tk,uZ,show[e].filter (isB es)=[e] from Dy (hB)];exact fc.snoc rfl (hgo _ (.stop (CC.mpr cc)))
   refine⟨d2 e.1,qB (xC _ _ _ _ (zI g4) f3),(lvP es (onP e.2 e.1)).map d2,?_,(Wv e.1).1,(ZJ _).1,pz (Wv e.1).2 (by decide),ite2 (λx1=>?_) λx1=>?_⟩
   ·rw[hLv,RdD];exact⟨L,us,rfl,.of hL4,hcs⟩
   ·exact wl _ (.refl _) (isB_1 x1)
   ·refine⟨H,d,t,c,kvs,es,onP e.2 e.1,e.1,rfl,st4,by lia,g4 _ _ ht3,g4 _ _ f3,λH5 g5=>⟨_,rfl,ite2 (λx2=>?_) λx2=>?_⟩⟩
    ·exact wl _ g5 (isB_2 x2)
    ·refine hJ _ ?_;simp! [];refine⟨st4.mono g5,zs,hWW4 g5,by lia,ws,hws.ts YN (zI ((g3.trans g4).trans g5)),?_⟩
     rw[tk,uZ,show[e].filter (isB es)=[] from Dz (isB_3 x1 x2),uR];exact fc
  ·rintro σ H2 ⟨st2,zs,ws,o1,o2,o3,o4,o5,rfl,hW2,hz,hws,fc⟩;simp! [];rw[pV (Qi lse.symm)] at fc;exact k W zs ws H2 hW0 st2.same hW2 (by lia) hws (wys_of Eg nd fc)
 refine⟨_,
  (zK (zk 1 wk.nd Xz)
   (zK (yv uE rfl (yd (pm 0)) (vU (n:=2) rfl (xt (zD 2 wk.nd) (xt (zD 3 wk.nd) vI))) (zp (xD (xM uQ uo uq xU (zdo (xj hr) (pm 1) (pm 2) (yN yM) ⟨rfl,rfl,rfl,rfl⟩) (pa1 (pm 3) zb)))))
   htl))
  ,?_⟩
 clear htl;simp! [XD];intro d hd;have g1:=zg hd (HO.dT []);have st0:LvP H (upd H d (HO.dT [])) d [] (es.take 0):=⟨g1,hd,upd_same,uL _,(λk v e=>by cases e),λp z=>rfl,λp p' v z=>by cases z⟩
 refine yo ?_;simp! [zX];refine⟨⟨_,.of (g1 _ _ hl)⟩,?_⟩;refine xz (K:=K) (a:=l) (xs:=ys) (λi σ H'=>∃(kvs:List (List Key×V))(o1 o2:Option V),σ=[some (.ref l),some (.ref d),o1,o2,none,none,none,none]/\LvP H H' d kvs (es.take i)) ⟨[],none,none,rfl,st0⟩ (λi σ H' _ iv=>by
  obtain⟨kvs,o1,o2,_,h⟩:=iv;exact .of (h.same _ _ hl)) ?_ ?_
 ·intro _ _;rintro i v σ H2 hi ⟨kvs,o1,o2,rfl,st⟩;obtain⟨p,e,rfl,he',⟨c,d2',h1,h2,h3⟩,b1,b2,ne⟩:=he.2 i v hi;have hi':=(pF.mp hi).1;have h1':=st.same _ _ h1;have h2':P2H H2 c e.1:=st.same _ _ h2;have h3':P2H H2 d2' e.2:=st.same _ _ h3;simp! [tDSd,h1'];refine⟨qL st.at_,λt ht=>?_⟩;refine st.app (p:=e.1) (q:=e.2) (by rw[uI];lia) h2' h3' ht λl1 H4 zs kvs' h4 z4 st4=>?_
  rw[uA,he'];exact⟨xB h4,l1,rfl,zs,h4,z4,kvs',st4⟩
 ·rintro σ H2 ⟨kvs,o1,o2,rfl,st⟩;rw[pV (Qi lse.symm)] at st;exact hk d kvs H2 o1 o2 st
inductive zcn (vs:List V) (H:Hp) (Q:VK) (E:XK):Prop
 |mk (a l:Addr) (x:Int×Int) (f:Fr) (_:vs=[.ref a,.ref l]) (_:P2H H a x) (_:FmH H l f) (_:Bx x) (_:∀p H',ze H H'->P2H H' p (mv f x)->Q (.ref p) H'):zcn vs H Q E
theorem zar(T:Txt K mg ad fd):zv P w K mg base CX0 1 (ad 33) (fd 33) ["_law_place_here","_law_frame_here"] zcn:=by
 refine T.law_moved.fn.ok zec (λvs H Q E h=>?_) (λcdv A outer s H vs Q E hr h=>?_)
 ·obtain⟨a,l,x,f,rfl,_⟩:=h;rfl
 obtain⟨a,l,x,f,rfl,hx,⟨xs,hl,a0,a1,a2,a3,a4,a5,a6,fb⟩,bx,k⟩:=h;unfold P2H at hx;refine⟨_,
  (pss2
   (zk 2 zec.nd (zc zQ (zc zQ (zc zN (zd yg (pm 1) za) (zd zf (pm 0) za)) (zc zN (zd yg (pm 1) za) (zd zf (pm 0) za))) (zd yg (pm 1) za)))
   (zq (ye (pa2 (pm 2) zb (zc zQ (zc zQ (zc zN (zd yg (pm 1) za) (zd zf (pm 0) za)) (zc zN (zd yg (pm 1) za) (zd zf (pm 0) za))) (zd yg (pm 1) za)) zx))))
  ,?_⟩
 dsimp! [L2.start]
 simp! [hx,hl,a0,a1,a2,a3,a4,a5];obtain⟨⟨f1,f2⟩,⟨f3,f4⟩,⟨f5,f6⟩,⟨f7,f8⟩,_⟩:=fb;obtain⟨x1,x2,x3,x4⟩:=bx;have e8:(2:Nat)^10=1024:=rfl;exact⟨cbig (m:=10) (n:=10) (by lia) (by lia),cbig (m:=10) (n:=10) (by lia) (by lia),cbig (m:=10) (n:=10) (by lia) (by lia),cbig (m:=10) (n:=10) (by lia) (by lia),λp hp=>k p _ (zg hp _) upd_same⟩
def MwH(f:Fr)(H:Hp)(p:Addr)(e:E2):Prop:=(∃c d,H p=some (.tup [.ref c,.ref d])/\P2H H c (mv f e.1)/\P2H H d (mv f e.2))/\Bx e.1/\Bx e.2
def Xo{f:Fr}:∀(H H':Hp)(p:Addr)(e:E2),zJ H H'->MwH f H p e->MwH f H' p e:=λ_ _ _ _ g⟨⟨c,d,h1,h2,h3⟩,b⟩=>⟨⟨c,d,g _ _ h1,g _ _ h2,g _ _ h3⟩,b⟩
inductive zah (vs:List V) (H:Hp) (Q:VK) (E:XK):Prop
 |mk (l m:Addr) (zs:List V) (cs:List (Int×Int×Int)) (f:Fr) (_:vs=[.ref l,.ref m]) (_:H l=some (.lst zs)) (_:zs.length<=196) (_:LR C3H H zs cs) (_:FmH H m f) (_:∀D ys ws es H',H D=none->ze H H'->H' D=some (.lst ys)->ys.length<=588->LR (MwH f) H' ys ws->es.Nodup->Edg cs es->Wys es ws->Q (.ref D) H'):zah vs H Q E
theorem zhh(T:Txt K mg ad fd):zv P w K mg base CX0 3 (ad 34) (fd 34) ["_law_cells_here","_law_frame_here"] zah:=by
 refine T.law_land.fn.ok J6 (λvs H Q E h=>?_) (λcdv A outer s H vs Q E hr h=>?_)
 ·obtain⟨l,m,zs,cs,f,rfl,_⟩:=h;rfl
 obtain⟨l,m,zs,cs,f,rfl,hl,hn,hz,hf,k⟩:=h;refine⟨_,
  (pss2
   (XC 2 J6 ["_law_first","_law_last"] [1] (yd (zu (zif T) T.law_long hr (pa1 (zu (zgi T) T.law_edges hr (pa1 (pm 0) zb)) yw))) (λcl C fp s2 H2 xe=>⟨(vU (n:=2) rfl (xt (qg (i:=0) (show UG (["_law_first","_law_last","_law_frame_here"]:List Str) from by decide+kernel) rfl (Ef rfl) (Dc rfl)) (xt (qg (i:=1) (show UG (["_law_first","_law_last","_law_frame_here"]:List Str) from by decide+kernel) rfl (Ef rfl) (Dc rfl)) vI))),wI,(ye (pa2 (zu (zar T) T.law_moved hr (pa2 (pm 0) zb (pm 2) zb)) yw (zu (zar T) T.law_moved hr (pa2 (pm 1) zb (pm 2) zb)) yw))⟩))
   (zq (ya (zii (hu100 hr)) rfl T.b_sorted zak (pa1 (pm 2) zb))))
  ,?_⟩
 dsimp! [L2.start]
 simp! [];refine y9 ?_;simp! [zX];refine⟨l,zs,cs,rfl,hl,hn,hz,λD1 ys es H1 hD1 g1 h1 n1 he nd Eg=>?_⟩;refine⟨D1,ys,es,rfl,h1,n1,he,nd,⟨cs,Eg⟩,λD2 zs2 ws H2 hD2 g2 h2 n2 hw W=>?_⟩;have g02:=g1.trans g2;refine⟨D2,rfl,⟨_,.of h2⟩,λD3 hD3=>?_⟩;refine xG (xs:=zs2) (vB (MwH f) ws H2 D3) (qp hD3) (λi qs H' q=>.of (q.1 _ _ h2)) ?_ ?_
 ·rintro i qs H3 v hi hv iv;obtain⟨g3,hD33,lq,hq⟩:=id iv;obtain⟨p,e,rfl,he',⟨c,d,e1,e2,e3⟩,b1,b2⟩:=hw.2 i v hv;have e1':=g3 _ _ e1;simp! [e1'];refine⟨c,m,e.1,f,rfl,g3 _ _ e2,hf.same (g02.trans g3),b1,λpa H4 g4 ha=>?_⟩;refine⟨d,m,e.2,f,rfl,g4 _ _ (g3 _ _ e3),hf.same ((g02.trans g3).trans g4),b2,λpb H5 g5 hb=>?_⟩;intro t ht;have g6:=zg ht (HO.tup [V.ref pa,V.ref pb]);have h6:upd H5 t (HO.tup [V.ref pa,V.ref pb]) t=some (HO.tup [V.ref pa,V.ref pb]):=upd_same;generalize upd H5 t (HO.tup [V.ref pa,V.ref pb])=H6 at*;have a6:P2H H6 pa (mv f e.1):=g6 _ _ (g5 _ _ ha);have b6:P2H H6 pb (mv f e.2):=g6 _ _ hb;exact qh Xo hD3 (by lia) iv hi he' ((g4.trans g5).trans g6) ⟨⟨pa,pb,h6,a6,b6⟩,b1,b2⟩
 ·rintro qs H3 ⟨g3,hD33,lq,hq⟩;rw[pV (Qi hw.1.symm)] at hq;have g03:=g02.trans g3;refine⟨D3,qs,rfl,hD33,?_,λD4 qs4 hD4 pm=>?_⟩
  ·intro v hv;obtain⟨j,hj⟩:=List.getElem?_of_mem hv;obtain⟨p,e,rfl,_,⟨c,d,e1,e2,e3⟩,_⟩:=hq.2 j v hj;exact⟨p,c,d,_,_,_,_,rfl,e1,e2,e3⟩
  ·obtain⟨ws',pw,hw'⟩:=LR.perm pm.symm hq;have g4:=zg hD4 (HO.lst qs4);exact k D4 qs4 ws' es _ (g03.free hD4) (g03.trans g4) upd_same (by rw[pm.length_eq];lia) (hw'.ts Xo (zI g4)) nd Eg ⟨pw.nodup_iff.mp W.nd,λw hw=>W.of w (pw.mem_iff.mpr hw),λa k h1 h2=>by
    obtain⟨c,m,z1,z2⟩:=W.all a k h1 h2;exact⟨c,m,pw.mem_iff.mp z1,z2⟩⟩
inductive zca (vs:List V) (H:Hp) (Q:VK) (E:XK):Prop
 |mk (l:Addr) (ys:List V) (ws:List E2) (f:Fr) (_:vs=[.ref l,.int f.w]) (_:H l=some (.lst ys)) (_:ys.length<=588) (_:LR (MwH f) H ys ws) (_:FrB f) (_:∀D zs H',H D=none->ze H H'->H' D=some (.lst zs)->LR S2H H' zs (ws.map (tdF f))->Q (.ref D) H'):zca vs H Q E
theorem zfa(T:Txt K mg ad fd):zv P w K mg base CX0 3 (ad 35) (fd 35) ["_law_ways","_law_share"] zca:=by
 refine T.law_told.fn.ok zb2 (λvs H Q E h=>?_) (λcdv A outer s H vs Q E hr h=>?_)
 ·obtain⟨l,ys,ws,f,rfl,_⟩:=h;rfl
 obtain⟨l,ys,ws,f,rfl,hl,hn,hw,fb,k⟩:=h;refine⟨_,
  (zp (zq (xT zb2 ["_law_a","_law_b"] [1] (yd (pm 0)) (λcl C fp s2 H2 xe=>⟨(vU (n:=2) rfl (xt (qg (i:=0) (show UG (["_law_a","_law_b","_law_share"]:List Str) from by decide+kernel) rfl (Ef rfl) (Dc rfl)) (xt (qg (i:=1) (show UG (["_law_a","_law_b","_law_share"]:List Str) from by decide+kernel) rfl (Ef rfl) (Dc rfl)) vI))),wI,(ye (pa2 (zu (YV T) T.law_point hr (pa3 (zd zf (pm 0) za) zY (zd zf (pm 0) za) zY (pm 2) zb)) yw (zu (YV T) T.law_point hr (pa3 (zd zf (pm 1) za) zY (zd zf (pm 1) za) zY (pm 2) zb)) yw))⟩))))
  ,?_⟩
 dsimp! [L2.start]
 simp! [];refine y9 ?_;simp! [zX];refine⟨⟨_,.of hl⟩,λD hD=>?_⟩;refine xG (xs:=ys) (vB (λH p w=>S2H H p (tdF f w)) ws H D) (qp hD) (λi qs H' q=>.of (q.1 _ _ hl)) ?_ ?_
 ·rintro i qs H3 v hi hv iv;obtain⟨g3,hD33,lq,hq⟩:=id iv;obtain⟨p,e,rfl,he',⟨c,d,e1,e2,e3⟩,b1,b2⟩:=hw.2 i v hv;have e1':=g3 _ _ e1;have e2':H3 c=some (.tup [.int (mv f e.1).1,.int (mv f e.1).2]):=g3 _ _ e2;have e3':H3 d=some (.tup [.int (mv f e.2).1,.int (mv f e.2).2]):=g3 _ _ e3;have w1:=fb.2.2.2.2.2.2.1;simp! [e1',e2'];refine⟨_,_,_,rfl,jE fb b1,by lia,λpa H4 g4 ha=>?_⟩
  have e4':=g4 _ _ e3';simp! [e4'];refine⟨_,_,_,rfl,jE fb b2,by lia,λpb H5 g5 hb=>?_⟩
  intro t ht;have g6:=zg ht (HO.tup [V.ref pa,V.ref pb]);have h6:upd H5 t (HO.tup [V.ref pa,V.ref pb]) t=some (HO.tup [V.ref pa,V.ref pb]):=upd_same;generalize upd H5 t (HO.tup [V.ref pa,V.ref pb])=H6 at*;have fin:S2H H6 t (tdF f e):=⟨pa,pb,h6,(ha.same g5).same g6,hb.same g6⟩;exact qh (R:=λH p w=>S2H H p (tdF f w)) (a:=e) (λ_ _ _ _=>wJ _ _ _ _) hD (by lia) iv hi he' ((g4.trans g5).trans g6) fin
 ·rintro qs H3 ⟨g3,hD33,lq,hq⟩;rw[pV (Qi hw.1.symm)] at hq;exact k D qs H3 hD g3 hD33 hq.map
theorem zdh{ss:List (Q3×Q3)}(F:Fen ss){e:Q3×Q3}(he:e∈ss):∀t,(∀j,0<j->j<=t->itr ss e j≠e)->Way ss e t (wyF ss e t).1 (wyF ss e t).2
 |0,_=>Way.start
 |t+1,no=>by
  have ih:=zdh F he t λj h1 h2=>no j h1 (by lia)
  have hn:suc ss (itr ss e t)≠e:=no (t+1) (by lia) (pG _)
  by_cases c:(itr ss e t).2∈(wyF ss e t).1
  ·obtain⟨i,hi,ei⟩:=UC.mp c;have z:=ih.cut F he hi (by rw[xg hi];exact ei) hn
   have fn:=z.fn;rw[fn];exact z
  ·have z:=ih.push hn c;have fn:=z.fn;rw[fn];exact z
def WR{g:α->β}{l:List α}(h:(l.map g).Nodup):l.Nodup:=by
 rw[pN] at h⊢;rw[QM] at h;exact h.imp λn e=>n (by rw[e])
noncomputable def su{α:Type}(f:α->Int):List α->Int
 |[]=>0
 |a::l=>f a+su f l
theorem xP(f:α->Int)(a b:List α):su f (a++b)=su f a+su f b:=by
 induction a with
 |nil=>exact(QY _).symm
 |cons x a ih=>show f x+su f (a++b)=f x+su f a+su f b;lia
theorem jB(f:α->Int){a b:List α}(h:a.Perm b):su f a=su f b:=by
 induction h with
 |nil=>rfl
 |cons x _ ih=>show f x+_=f x+_;lia
 |swap x y l=>show f y+(f x+_)=f x+(f y+_);lia
 |trans _ _ i1 i2=>lia
theorem zP{α:Type}{f g:α->Int}:∀{l:List α},(∀x,x∈l->f x=g x)->su f l=su g l
 |[],_=>rfl
 |x::l,h=>by
  show f x+su f l=g x+su g l
  rw[h x (by simp),zP λy hy=>h y (pE _ hy)]
theorem xA{α:Type}(f g:α->Int):∀l:List α,su (λx=>f x-g x) l=su f l-su g l
 |[]=>rfl
 |x::l=>by
  show f x-g x+su _ l=f x+su f l-(g x+su g l)
  have:=xA f g l;lia
theorem Ya{α:Type}(f g:α->Int):∀l:List α,su (λx=>f x+g x) l=su f l+su g l
 |[]=>rfl
 |x::l=>by
  show f x+g x+su _ l=f x+su f l+(g x+su g l)
  have:=Ya f g l;lia
theorem ji{α:Type}(c:Int)(f:α->Int):∀l:List α,su (λx=>c*f x) l=c*su f l
 |[]=>(Uy c).symm
 |x::l=>by
  show c*f x+su _ l=c*(f x+su f l)
  rw[ji c f l,Ae]
theorem wj{α:Type}:∀l:List α,su (λ_=>0) l=0
 |[]=>rfl
 |x::l=>by show 0+su _ l=0;rw[wj l];rfl
theorem VZ{α:Type}(f:α->Int):∀l:List (List α),su f l.flatten=su (su f) l
 |[]=>rfl
 |x::l=>by rw[Aw,xP,VZ f l];rfl
theorem jg{α β:Type}(f:β->Int)(g:α->β):∀l:List α,su f (l.map g)=su (λx=>f (g x)) l
 |[]=>rfl
 |x::l=>by rw[pR];show f (g x)+_=f (g x)+_;rw[jg f g l]
def up(e:E2)(r:Int):Prop:=e.1.2<=r/\r<e.2.2
instance:Decidable (up e r):=inferInstanceAs (Decidable (_/\_))
noncomputable def rv(e:E2):E2:=(e.2,e.1)
noncomputable def mid(e:E2):Int:=2*(e.1.1+e.2.1)
noncomputable def Uc(e:E2)(r t:Int):Int:=if up e r/\mid e<t then 1 else 0
noncomputable def wst(e:E2)(r t:Int):Int:=Uc e r t-Uc (rv e) r t
noncomputable def ct(s:E2)(l:List E2):Int:=su (λe=>if e=s then 1 else 0) l
def okE(e:E2):Prop:=∃u j,okp u j/\e=(u,stp u j)
theorem okE.rv{e:E2}(h:okE e):okE (rv e):=by
 obtain⟨u,j,h,rfl⟩:=h;refine⟨stp u j,j+4,jd.mpr h,?_⟩;rw[wg];rfl
theorem okE.ar{e:E2}(h:okE e):(e.1.1%2=0/\e.1.2%2=0/\((e.2.1=e.1.1+2/\e.2.2=e.1.2)∨(e.2.1=e.1.1/\e.2.2=e.1.2+2)∨(e.2.1=e.1.1-2/\e.2.2=e.1.2)∨(e.2.1=e.1.1/\e.2.2=e.1.2-2)))∨(((e.1.1%2=0/\e.1.2%2=0)∨(e.1.1%2=1/\e.1.2%2=1))/\((e.2.1=e.1.1+1/\e.2.2=e.1.2+1)∨(e.2.1=e.1.1-1/\e.2.2=e.1.2+1)∨(e.2.1=e.1.1-1/\e.2.2=e.1.2-1)∨(e.2.1=e.1.1+1/\e.2.2=e.1.2-1))):=by
 obtain⟨⟨x,y⟩,j,h,rfl⟩:=h;obtain⟨d0,d1,d2,d3,d4,d5,d6,d7⟩:=wK;unfold okp at h;dsimp only at h;unfold stp;dsimp only;have ev:∀j:Fin 8,j.val%2=0->((x%2=0/\y%2=0)∨(x%2=1/\y%2=1/\j.val%2=1))->x%2=0/\y%2=0:=λj z h=>h.elim id λq=>by lia
 have od:((x%2=0/\y%2=0)∨(x%2=1/\y%2=1/\j.val%2=1))->(x%2=0/\y%2=0)∨(x%2=1/\y%2=1):=λh=>h.imp id λz=>⟨z.1,z.2.1⟩;have o:=od h;rcases k8 j with rfl|rfl|rfl|rfl|rfl|rfl|rfl|rfl<;>simp only[d0,d1,d2,d3,d4,d5,d6,d7]
 ·obtain⟨a,b⟩:=ev 0 rfl h
  exact .inl ⟨a,b,.inl ⟨by first|trivial|lia,by first|trivial|lia⟩⟩
 ·exact .inr ⟨o,.inl ⟨by first|trivial|lia,by first|trivial|lia⟩⟩
 ·obtain⟨a,b⟩:=ev 2 rfl h
  exact .inl ⟨a,b,.inr (.inl ⟨by first|trivial|lia,by first|trivial|lia⟩)⟩
 ·exact .inr ⟨o,.inr (.inl ⟨by first|trivial|lia,by first|trivial|lia⟩)⟩
 ·obtain⟨a,b⟩:=ev 4 rfl h
  exact .inl ⟨a,b,.inr (.inr (.inl ⟨by first|trivial|lia,by first|trivial|lia⟩))⟩
 ·exact .inr ⟨o,.inr (.inr (.inl ⟨by first|trivial|lia,by first|trivial|lia⟩))⟩
 ·obtain⟨a,b⟩:=ev 6 rfl h
  exact .inl ⟨a,b,.inr (.inr (.inr ⟨by first|trivial|lia,by first|trivial|lia⟩))⟩
 ·exact .inr ⟨o,.inr (.inr (.inr ⟨by first|trivial|lia,by first|trivial|lia⟩))⟩
noncomputable def Wp(l:List E2)(r t:Int):Int:= -su (λe=>wst e r t) l
noncomputable def yp(c:C3):Int:=if c.2.2=2 then 2*c.2.1+1 else 2*c.2.1
noncomputable def xk(c:C3):Int:=8*c.1+(if c.2.2=1 then 7 else if c.2.2=3 then 1 else 4)
noncomputable def Wd(l:List E2)(c:C3):Int:=Wp l (yp c) (xk c)
def Clo(l:List E2):Prop:=∀φ:Int×Int->Int,su (λe=>φ e.2-φ e.1) l=0
def qb{a b c d:Int}{e:E2}:e=((a,b),(c,d))↔e.1.1=a/\e.1.2=b/\e.2.1=c/\e.2.2=d:=by
 obtain⟨⟨x,y⟩,⟨z,w⟩⟩:=e;simp only[QZ,and_assoc]
variable{t t':Int}
theorem zci{e:E2}{r:Int}{s:E2}(ht:t<=t')(k:(up e r/\t<=mid e/\mid e<t')↔e=s):Uc e r t'-Uc e r t=if e=s then 1 else 0:=by
 unfold Uc
 by_cases u:up e r
 ·by_cases c:mid e<t
  ·rw[if_pos ⟨u,by lia⟩,if_pos ⟨u,c⟩,if_neg (λz=>by have:=(k.mpr z).2.1;omega)]
   rfl
  ·rw[if_neg (show ¬(up e r/\mid e<t) from λz=>c z.2)]
   by_cases d:mid e<t'
   ·rw[if_pos ⟨u,d⟩,if_pos (k.mp ⟨u,by omega,d⟩)]
    rfl
   ·rw[if_neg (λz=>d z.2),if_neg (λz=>d (k.mpr z).2.2)];rfl
 ·rw[if_neg (λz=>u z.1),if_neg (λz=>u z.1),if_neg (λz=>u (k.mpr z).1)];rfl
theorem Yi{l:List E2}{r:Int}{s:E2}(ok:∀e,e∈l->okE e)(ht:t<=t')(k:∀e,okE e->((up e r/\t<=mid e/\mid e<t')↔e=s)):Wp l r t-Wp l r t'=ct s l-ct (rv s) l:=by
 have z:∀e,e∈l->wst e r t'-wst e r t=(if e=s then 1 else 0)-(if e=rv s then 1 else 0):=λe he=>by
  have a:=zci ht (k e (ok e he));have b:=zci (e:=rv e) (t:=t) (t':=t') (r:=r) (s:=s) ht (k (rv e) (ok e he).rv);have c:(if rv e=s then(1:Int) else 0)=if e=rv s then 1 else 0:=by
   by_cases q:rv e=s
   ·rw[if_pos q,if_pos (by rw[←q];rfl)]
   ·rw[if_neg q,if_neg (λz=>q (by rw[z];rfl))]
  rw[c] at b;unfold wst;lia
 unfold Wp ct;have:=zP z;rw[xA,xA] at this;lia
theorem r1(x y:Int)(e:E2)(h:okE e):(up e (2*y)/\8*x+1<=mid e/\mid e<8*x+4)↔e=((2*x,2*y),(2*x+1,2*y+1)):=by
 rw[qb];unfold up mid;refine⟨λz=>?_,λ⟨a,b,c,d⟩=>by omega⟩
 rcases h.ar with⟨a,b,c|c|c|c⟩|⟨a,c|c|c|c⟩<;>omega
theorem r2(x y:Int)(e:E2)(h:okE e):(up e (2*y)/\8*x+4<=mid e/\mid e<8*x+7)↔e=((2*x+2,2*y),(2*x+1,2*y+1)):=by
 rw[qb];unfold up mid;refine⟨λz=>?_,λ⟨a,b,c,d⟩=>by lia⟩
 rcases h.ar with⟨a,b,c|c|c|c⟩|⟨a,c|c|c|c⟩<;>lia
theorem r3(x y:Int)(e:E2)(h:okE e):(up e (2*y)/\8*x+7<=mid e/\mid e<8*(x+1)+1)↔e=((2*x+2,2*y),(2*x+2,2*y+2)):=by
 rw[qb];unfold up mid;refine⟨λz=>?_,λ⟨a,b,c,d⟩=>by omega⟩
 rcases h.ar with⟨a,b,c|c|c|c⟩|⟨a,c|c|c|c⟩<;>omega
theorem r4(x y:Int)(e:E2)(h:okE e):(up e (2*y+1)/\8*x+1<=mid e/\mid e<8*x+4)↔e=((2*x+1,2*y+1),(2*x,2*y+2)):=by
 rw[qb];unfold up mid;refine⟨λz=>?_,λ⟨a,b,c,d⟩=>by omega⟩
 rcases h.ar with⟨a,b,c|c|c|c⟩|⟨a,c|c|c|c⟩<;>omega
theorem r5(x y:Int)(e:E2)(h:okE e):(up e (2*y+1)/\8*x+4<=mid e/\mid e<8*x+7)↔e=((2*x+1,2*y+1),(2*x+2,2*y+2)):=by
 rw[qb];unfold up mid;refine⟨λz=>?_,λ⟨a,b,c,d⟩=>by omega⟩
 rcases h.ar with⟨a,b,c|c|c|c⟩|⟨a,c|c|c|c⟩<;>omega
noncomputable def phi(r t:Int)(v:Int×Int):Int:=if v.2=r+1/\4*v.1<t then 1 else 0
theorem zdx{e:E2}{r:Int}(h:e.1.2<e.2.2)(h2:e.2.2<=e.1.2+2)(c1:e.1.2=r+1->(mid e<t↔4*e.1.1<t))(c2:e.2.2=r+1->(mid e<t↔4*e.2.1<t)):Uc e r t-Uc e (r+1) t=phi r t e.2-phi r t e.1:=by
 unfold Uc phi up
 by_cases a:e.2.2=r+1
 ·rw[if_neg (show ¬((e.1.2<=r+1/\r+1<e.2.2)/\mid e<t) by omega),if_neg (show ¬(e.1.2=r+1/\4*e.1.1<t) by lia)]
  by_cases m:mid e<t
  ·rw[if_pos ⟨⟨by omega,by omega⟩,m⟩,if_pos ⟨a,(c2 a).mp m⟩]
  ·rw[if_neg (λz=>m z.2),if_neg (λz=>m ((c2 a).mpr z.2))]
 ·rw[if_neg (show ¬(e.2.2=r+1/\4*e.2.1<t) by omega)]
  by_cases b:e.1.2=r+1
  ·rw[if_neg (show ¬((e.1.2<=r/\r<e.2.2)/\mid e<t) by omega)]
   by_cases m:mid e<t
   ·rw[if_pos ⟨⟨by lia,by lia⟩,m⟩,if_pos ⟨b,(c1 b).mp m⟩]
   ·rw[if_neg (λz=>m z.2),if_neg (λz=>m ((c1 b).mpr z.2))]
  ·rw[if_neg (show ¬(e.1.2=r+1/\4*e.1.1<t) by lia)]
   by_cases m:mid e<t
   ·by_cases s:e.1.2<=r/\r<e.2.2
    ·rw[if_pos ⟨s,m⟩,if_pos ⟨⟨by lia,by lia⟩,m⟩]
     rfl
    ·rw[if_neg (λz=>s z.1),if_neg (λz=>s (by omega))]
   ·rw[if_neg (λz=>m z.2),if_neg (λz=>m z.2)]
theorem vC{e:E2}{r:Int}(h:e.2.2<=e.1.2):Uc e r t=0:=by
 unfold Uc up;exact if_neg (by lia)
theorem zbe{e:E2}{r:Int}(h1:e.2.2<=e.1.2+2)(h2:e.1.2<=e.2.2+2)(c1:e.1.2=r+1->e.2.2≠r+1->(mid e<t↔4*e.1.1<t))(c2:e.2.2=r+1->e.1.2≠r+1->(mid e<t↔4*e.2.1<t)):wst e r t-wst e (r+1) t=if e.1.2=e.2.2 then 0 else phi r t e.2-phi r t e.1:=by
 unfold wst
 by_cases c:e.1.2=e.2.2
 ·rw[if_pos c,vC (e:=e) (by lia),vC (e:=rv e) (by show e.1.2<=e.2.2;lia),vC (e:=e) (by lia),vC (e:=rv e) (by show e.1.2<=e.2.2;lia)]
  rfl
 ·rw[if_neg c];have mm:mid (rv e)=mid e:=by unfold mid rv;dsimp only;lia
  by_cases d:e.1.2<e.2.2
  ·rw[vC (e:=rv e) (by show e.1.2<=e.2.2;lia),vC (e:=rv e) (by show e.1.2<=e.2.2;lia)]
   have:=zdx (r:=r) (t:=t) d h1 (λz=>c1 z (by lia)) (λz=>c2 z (by lia))
   lia
  ·rw[vC (e:=e) (by lia),vC (e:=e) (by lia)]
   have:=zdx (e:=rv e) (r:=r) (t:=t) (by show e.2.2<e.1.2;lia) h2 (λz=>by rw[mm];exact c2 z (by show e.1.2≠r+1;have:e.2.2=r+1:=z;lia)) (λz=>by rw[mm];exact c1 z (by have:e.1.2=r+1:=z;lia))
   have e1:(rv e).2=e.1:=rfl;have e2:(rv e).1=e.2:=rfl;rw[e1,e2] at this;lia
theorem YL{l:List E2}(ok:∀e,e∈l->okE e)(cl:Clo l){x y t:Int}(ht:t=8*x+1∨t=8*x+7):Wp l (2*y) t=Wp l (2*y+1) t:=by
 have z:∀e,e∈l->wst e (2*y) t-wst e (2*y+1) t=phi (2*y) t e.2-phi (2*y) t e.1:=λe he=>by
  have h:=(ok e he).ar;have w:wst e (2*y) t-wst e (2*y+1) t=if e.1.2=e.2.2 then 0 else phi (2*y) t e.2-phi (2*y) t e.1:=by
   refine zbe ?_ ?_ (λz n=>?_) (λz n=>?_)
   ·rcases h with⟨a,b,c|c|c|c⟩|⟨a,c|c|c|c⟩<;>omega
   ·rcases h with⟨a,b,c|c|c|c⟩|⟨a,c|c|c|c⟩<;>omega
   ·unfold mid;rcases h with⟨a,b,c|c|c|c⟩|⟨a,c|c|c|c⟩<;>rcases ht with rfl|rfl<;>omega
   ·unfold mid;rcases h with⟨a,b,c|c|c|c⟩|⟨a,c|c|c|c⟩<;>rcases ht with rfl|rfl<;>omega
  rw[w]
  by_cases c:e.1.2=e.2.2
  ·rw[if_pos c];have o:e.1.2≠2*y+1:=by rcases h with⟨a,b,c|c|c|c⟩|⟨a,c|c|c|c⟩<;>omega
   unfold phi;rw[if_neg (λz=>o (by omega)),if_neg (λz=>o z.1)]
   rfl
  ·rw[if_neg c]
 unfold Wp;have:=zP z;rw[xA,cl] at this;omega
theorem zaq{u x:Int}(h:u%2=0):(if 4*(u+2)<8*x+4 then(1:Int) else 0)=(if 4*u<8*x+4 then 1 else 0)-(if u=2*x then 1 else 0):=by
 by_cases z:u=2*x
 ·rw[if_pos z,if_pos (show 4*u<8*x+4 by lia),if_neg (show ¬4*(u+2)<8*x+4 by lia)]
  rfl
 ·rw[if_neg z,BM];have:4*(u+2)<8*x+4↔4*u<8*x+4:=by lia
  simp only[this]
theorem ph_h{u v x:Int}(hu:u%2=0)(hv:v=u+2∨v=u-2):(if 4*v<8*x+4 then(1:Int) else 0)-(if 4*u<8*x+4 then 1 else 0)=(if u=2*x+2/\v=2*x then 1 else 0)-(if u=2*x/\v=2*x+2 then 1 else 0):=by
 rcases hv with rfl|hv
 ·have e:(u=2*x/\u+2=2*x+2)↔u=2*x:=by lia
  rw[zaq hu,if_neg (show ¬(u=2*x+2/\u+2=2*x) by lia)]
  simp only[e];lia
 ·obtain rfl:u=v+2:=by lia
  have e:(v+2=2*x+2/\v=2*x)↔v=2*x:=by lia
  rw[zaq (show v%2=0 by lia),if_neg (show ¬(v+2=2*x/\v=2*x+2) by lia)]
  simp only[e];lia
theorem wp_v2{l:List E2}(ok:∀e,e∈l->okE e)(cl:Clo l)(x y:Int):Wp l (2*y+1) (8*x+4)-Wp l (2*(y+1)) (8*x+4)=ct ((2*x+2,2*y+2),(2*x,2*y+2)) l-ct ((2*x,2*y+2),(2*x+2,2*y+2)) l:=by
 have z:∀e,e∈l->wst e (2*y+1) (8*x+4)-wst e (2*y+1+1) (8*x+4)=(phi (2*y+1) (8*x+4) e.2-phi (2*y+1) (8*x+4) e.1)-((if e=((2*x+2,2*y+2),(2*x,2*y+2)) then 1 else 0)-(if e=((2*x,2*y+2),(2*x+2,2*y+2)) then 1 else 0)):=λe he=>by
  have h:=(ok e he).ar;have w:wst e (2*y+1) (8*x+4)-wst e (2*y+1+1) (8*x+4)=if e.1.2=e.2.2 then 0 else phi (2*y+1) (8*x+4) e.2-phi (2*y+1) (8*x+4) e.1:=by
   refine zbe ?_ ?_ (λz n=>?_) (λz n=>?_)
   ·rcases h with⟨a,b,c|c|c|c⟩|⟨a,c|c|c|c⟩<;>omega
   ·rcases h with⟨a,b,c|c|c|c⟩|⟨a,c|c|c|c⟩<;>omega
   ·unfold mid;rcases h with⟨a,b,c|c|c|c⟩|⟨a,c|c|c|c⟩<;>omega
   ·unfold mid;rcases h with⟨a,b,c|c|c|c⟩|⟨a,c|c|c|c⟩<;>omega
  rw[w];simp only[qb]
  by_cases c:e.1.2=e.2.2
  ·rw[if_pos c];have hz:e.1.1%2=0/\(e.2.1=e.1.1+2∨e.2.1=e.1.1-2):=by rcases h with⟨a,b,c|c|c|c⟩|⟨a,c|c|c|c⟩<;>omega
   have q:=ph_h (x:=x) hz.1 hz.2;unfold phi
   by_cases l:e.1.2=2*y+2
   ·have l':e.2.2=2*y+2:=c▸l;have m:2*y+1+1=2*y+2:=by omega
    simp only[l,l',m,true_and,and_true];omega
   ·have l':¬e.2.2=2*y+2:=c▸l;have m:2*y+1+1=2*y+2:=by omega
    simp only[l,l',m,false_and,and_false,if_false];rfl
  ·rw[if_neg c,if_neg (λz=>c (by omega)),if_neg (λz=>c (by omega))]
   omega
 unfold Wp ct;have:=zP z;have c0:=cl (phi (2*y+1) (8*x+4));rw[xA] at c0;rw[xA,xA,xA,xA] at this;rw[show 2*(y+1)=2*y+1+1 by omega]
 omega
section
variable{l:List E2}(ok:∀e,e∈l->okE e)(cl:Clo l)
def wd0(x y:Int):Wd l (x,y,0)=Wp l (2*y) (8*x+4):=rfl
def wd1(x y:Int):Wd l (x,y,1)=Wp l (2*y) (8*x+7):=rfl
def wd2(x y:Int):Wd l (x,y,2)=Wp l (2*y+1) (8*x+4):=rfl
def wd3(x y:Int):Wd l (x,y,3)=Wp l (2*y) (8*x+1):=rfl
include ok
theorem b1(x y:Int):Wd l (x,y,3)-Wd l (x,y,0)=ct ((2*x,2*y),(2*x+1,2*y+1)) l-ct ((2*x+1,2*y+1),(2*x,2*y)) l:=by
 rw[wd0,wd3];exact Yi ok (by lia) (r1 x y)
theorem b2(x y:Int):Wd l (x,y,0)-Wd l (x,y,1)=ct ((2*x+2,2*y),(2*x+1,2*y+1)) l-ct ((2*x+1,2*y+1),(2*x+2,2*y)) l:=by
 rw[wd0,wd1];exact Yi ok (by lia) (r2 x y)
theorem b3(x y:Int):Wd l (x,y,1)-Wd l (x+1,y,3)=ct ((2*x+2,2*y),(2*x+2,2*y+2)) l-ct ((2*x+2,2*y+2),(2*x+2,2*y)) l:=by
 rw[wd1,wd3];exact Yi ok (by lia) (r3 x y)
include cl
theorem b4(x y:Int):Wd l (x,y,3)-Wd l (x,y,2)=ct ((2*x+1,2*y+1),(2*x,2*y+2)) l-ct ((2*x,2*y+2),(2*x+1,2*y+1)) l:=by
 rw[wd2,wd3,YL ok cl (.inl rfl)];exact Yi ok (by lia) (r4 x y)
theorem b5(x y:Int):Wd l (x,y,2)-Wd l (x,y,1)=ct ((2*x+1,2*y+1),(2*x+2,2*y+2)) l-ct ((2*x+2,2*y+2),(2*x+1,2*y+1)) l:=by
 rw[wd2,wd1,YL ok cl (.inr rfl)];exact Yi ok (by lia) (r5 x y)
theorem b6(x y:Int):Wd l (x,y,2)-Wd l (x,y+1,0)=ct ((2*x+2,2*y+2),(2*x,2*y+2)) l-ct ((2*x,2*y+2),(2*x+2,2*y+2)) l:=by
 rw[wd2,wd0];exact wp_v2 ok cl x y
theorem jump{a:Int×Int}{k:Fin 8}(h:okp a k):Wd l (zj a k)-Wd l (zj a (k+7))=ct (a,stp a k) l-ct (stp a k,a) l:=by
 obtain⟨d0,d1,d2,d3,d4,d5,d6,d7⟩:=wK;obtain⟨a1,a2⟩:=a;rcases h with⟨h1,h2⟩|⟨h1,h2,h3⟩
 ·dsimp only at h1 h2;obtain⟨x,rfl⟩:∃x,a1=2*x:=⟨a1/2,by lia⟩
  obtain⟨y,rfl⟩:∃y,a2=2*y:=⟨a2/2,by lia⟩
  rw[yk (a:=(2*x,2*y)) h1,yk (a:=(2*x,2*y)) h1];have ex:(2*x)/2=x:=by lia
  have ey:(2*y)/2=y:=by lia
  unfold stp;dsimp only;rw[ex,ey];rcases k8 k with rfl|rfl|rfl|rfl|rfl|rfl|rfl|rfl
  ·show Wd l (x,y,0)-Wd l (x,y-1,2)=ct ((2*x,2*y),(2*x+2,2*y+0)) l-ct ((2*x+2,2*y+0),(2*x,2*y)) l
   have:=b6 ok cl x (y-1);rw[show y-1+1=y by lia,show 2*(y-1)+2=2*y by lia] at this
   rw[UH];lia
  ·show Wd l (x,y,3)-Wd l (x,y,0)=ct ((2*x,2*y),(2*x+1,2*y+1)) l-ct ((2*x+1,2*y+1),(2*x,2*y)) l
   exact b1 ok x y
  ·show Wd l (x-1,y,1)-Wd l (x,y,3)=ct ((2*x,2*y),(2*x+0,2*y+2)) l-ct ((2*x+0,2*y+2),(2*x,2*y)) l
   have:=b3 ok (x-1) y;rw[show x-1+1=x by lia,show 2*(x-1)+2=2*x by lia] at this
   rw[UH];exact this
  ·show Wd l (x-1,y,0)-Wd l (x-1,y,1)=ct ((2*x,2*y),(2*x+ -1,2*y+1)) l-ct ((2*x+ -1,2*y+1),(2*x,2*y)) l
   have:=b2 ok (x-1) y;rw[show 2*(x-1)+2=2*x by lia,show 2*(x-1)+1=2*x+ -1 by lia] at this
   exact this
  ·show Wd l (x-1,y-1,2)-Wd l (x-1,y,0)=ct ((2*x,2*y),(2*x+ -2,2*y+0)) l-ct ((2*x+ -2,2*y+0),(2*x,2*y)) l
   have:=b6 ok cl (x-1) (y-1);rw[show y-1+1=y by lia,show 2*(y-1)+2=2*y by lia,show 2*(x-1)+2=2*x by lia,show 2*(x-1)=2*x+ -2 by lia] at this
   rw[UH];exact this
  ·show Wd l (x-1,y-1,1)-Wd l (x-1,y-1,2)=ct ((2*x,2*y),(2*x+ -1,2*y+ -1)) l-ct ((2*x+ -1,2*y+ -1),(2*x,2*y)) l
   have:=b5 ok cl (x-1) (y-1);rw[show 2*(y-1)+2=2*y by lia,show 2*(x-1)+2=2*x by lia,show 2*(x-1)+1=2*x+ -1 by lia,show 2*(y-1)+1=2*y+ -1 by lia] at this
   lia
  ·show Wd l (x,y-1,3)-Wd l (x-1,y-1,1)=ct ((2*x,2*y),(2*x+0,2*y+ -2)) l-ct ((2*x+0,2*y+ -2),(2*x,2*y)) l
   have:=b3 ok (x-1) (y-1);rw[show x-1+1=x by lia,show 2*(x-1)+2=2*x by lia,show 2*(y-1)+2=2*y by lia,show 2*(y-1)=2*y+ -2 by lia] at this
   rw[UH];lia
  ·show Wd l (x,y-1,2)-Wd l (x,y-1,3)=ct ((2*x,2*y),(2*x+1,2*y+ -1)) l-ct ((2*x+1,2*y+ -1),(2*x,2*y)) l
   have:=b4 ok cl x (y-1);rw[show 2*(y-1)+2=2*y by lia,show 2*(y-1)+1=2*y+ -1 by lia] at this
   lia
 ·dsimp only at h1 h2;obtain⟨x,rfl⟩:∃x,a1=2*x+1:=⟨a1/2,by lia⟩
  obtain⟨y,rfl⟩:∃y,a2=2*y+1:=⟨a2/2,by lia⟩
  rw[yL (a:=(2*x+1,2*y+1)) h1,yL (a:=(2*x+1,2*y+1)) h1];have ex:(2*x+1)/2=x:=by lia
  have ey:(2*y+1)/2=y:=by lia
  unfold stp;dsimp only;rw[ex,ey];rcases k8 k with rfl|rfl|rfl|rfl|rfl|rfl|rfl|rfl
  ·exact absurd h3 (by decide)
  ·show Wd l (x,y,2)-Wd l (x,y,1)=ct ((2*x+1,2*y+1),(2*x+1+1,2*y+1+1)) l-ct ((2*x+1+1,2*y+1+1),(2*x+1,2*y+1)) l
   rw[show 2*x+1+1=2*x+2 by lia,show 2*y+1+1=2*y+2 by lia]
   exact b5 ok cl x y
  ·exact absurd h3 (by decide)
  ·show Wd l (x,y,3)-Wd l (x,y,2)=ct ((2*x+1,2*y+1),(2*x+1+ -1,2*y+1+1)) l-ct ((2*x+1+ -1,2*y+1+1),(2*x+1,2*y+1)) l
   rw[show 2*x+1+ -1=2*x by lia,show 2*y+1+1=2*y+2 by lia]
   exact b4 ok cl x y
  ·exact absurd h3 (by decide)
  ·show Wd l (x,y,0)-Wd l (x,y,3)=ct ((2*x+1,2*y+1),(2*x+1+ -1,2*y+1+ -1)) l-ct ((2*x+1+ -1,2*y+1+ -1),(2*x+1,2*y+1)) l
   rw[show 2*x+1+ -1=2*x by lia,show 2*y+1+ -1=2*y by lia]
   have:=b1 ok x y;lia
  ·exact absurd h3 (by decide)
  ·show Wd l (x,y,1)-Wd l (x,y,0)=ct ((2*x+1,2*y+1),(2*x+1+1,2*y+1+ -1)) l-ct ((2*x+1+1,2*y+1+ -1),(2*x+1,2*y+1)) l
   rw[show 2*x+1+1=2*x+2 by lia,show 2*y+1+ -1=2*y by lia]
   have:=b2 ok x y;lia
end
noncomputable def ovC(c:C3):C3:=if c.2.2=0 then(c.1,c.2.1-1,2) else if c.2.2=1 then(c.1+1,c.2.1,3) else if c.2.2=2 then(c.1,c.2.1+1,0) else(c.1-1,c.2.1,1)
noncomputable def nbs(c:C3):List C3:=[(c.1,c.2.1,(c.2.2+1)%4),(c.1,c.2.1,(c.2.2+3)%4),ovC c]
def vq(c:C3):Prop:=0<=c.2.2/\c.2.2<=3
def vq3(x y q:Int)(h1:0<=q)(h2:q<=3):vq (x,y,q):=⟨h1,h2⟩
theorem vq4{c:C3}(h:vq c):∃x y,c=(x,y,0)∨c=(x,y,1)∨c=(x,y,2)∨c=(x,y,3):=by
 obtain⟨x,y,q⟩:=c;obtain⟨h1,h2⟩:=h;dsimp only at h1 h2;refine⟨x,y,?_⟩;rcases(by lia:q=0∨q=1∨q=2∨q=3) with rfl|rfl|rfl|rfl
 ·exact .inl rfl
 ·exact .inr (.inl rfl)
 ·exact .inr (.inr (.inl rfl))
 ·exact .inr (.inr (.inr rfl))
def nbs0(x y:Int):nbs (x,y,0)=[(x,y,1),(x,y,3),(x,y-1,2)]:=rfl
def nbs1(x y:Int):nbs (x,y,1)=[(x,y,2),(x,y,0),(x+1,y,3)]:=rfl
def nbs2(x y:Int):nbs (x,y,2)=[(x,y,3),(x,y,1),(x,y+1,0)]:=rfl
def nbs3(x y:Int):nbs (x,y,3)=[(x,y,0),(x,y,2),(x-1,y,1)]:=rfl
def mem3{c a b d:C3}:c∈[a,b,d]↔c=a∨c=b∨c=d:=by
 simp only[pS,Qe,or_false]
def nb_vq{c d:C3}(h:vq c)(hd:d∈nbs c):vq d:=by
 obtain⟨x,y,h⟩:=vq4 h;rcases h with rfl|rfl|rfl|rfl
 ·rw[nbs0,mem3] at hd;rcases hd with rfl|rfl|rfl<;>exact vq3 _ _ _ (by decide) (by decide)
 ·rw[nbs1,mem3] at hd;rcases hd with rfl|rfl|rfl<;>exact vq3 _ _ _ (by decide) (by decide)
 ·rw[nbs2,mem3] at hd;rcases hd with rfl|rfl|rfl<;>exact vq3 _ _ _ (by decide) (by decide)
 ·rw[nbs3,mem3] at hd;rcases hd with rfl|rfl|rfl<;>exact vq3 _ _ _ (by decide) (by decide)
theorem ZB{c d:C3}(h:vq c)(hd:d∈nbs c):c∈nbs d:=by
 obtain⟨x,y,h⟩:=vq4 h;rcases h with rfl|rfl|rfl|rfl
 ·rw[nbs0,mem3] at hd;rcases hd with rfl|rfl|rfl
  ·rw[nbs1,mem3];exact .inr (.inl rfl)
  ·rw[nbs3,mem3];exact .inl rfl
  ·rw[nbs2,mem3];exact .inr (.inr (zB rfl (by lia) rfl))
 ·rw[nbs1,mem3] at hd;rcases hd with rfl|rfl|rfl
  ·rw[nbs2,mem3];exact .inr (.inl rfl)
  ·rw[nbs0,mem3];exact .inl rfl
  ·rw[nbs3,mem3];exact .inr (.inr (zB (by lia) rfl rfl))
 ·rw[nbs2,mem3] at hd;rcases hd with rfl|rfl|rfl
  ·rw[nbs3,mem3];exact .inr (.inl rfl)
  ·rw[nbs1,mem3];exact .inl rfl
  ·rw[nbs0,mem3];exact .inr (.inr (zB rfl (by lia) rfl))
 ·rw[nbs3,mem3] at hd;rcases hd with rfl|rfl|rfl
  ·rw[nbs0,mem3];exact .inr (.inl rfl)
  ·rw[nbs2,mem3];exact .inl rfl
  ·rw[nbs1,mem3];exact .inr (.inr (zB (by lia) rfl rfl))
theorem Wx(a:Int×Int)(k:Fin 8):vq (zj a k):=by
 by_cases h:a.1%2=0
 ·rw[yk h];rcases k8 k with rfl|rfl|rfl|rfl|rfl|rfl|rfl|rfl
  ·exact vq3 _ _ 0 (by decide) (by decide)
  ·exact vq3 _ _ 3 (by decide) (by decide)
  ·exact vq3 _ _ 1 (by decide) (by decide)
  ·exact vq3 _ _ 0 (by decide) (by decide)
  ·exact vq3 _ _ 2 (by decide) (by decide)
  ·exact vq3 _ _ 1 (by decide) (by decide)
  ·exact vq3 _ _ 3 (by decide) (by decide)
  ·exact vq3 _ _ 2 (by decide) (by decide)
 ·rw[yL (by lia)]
  exact vq3 _ _ _ (by revert k;decide) (by revert k;decide)
theorem Xy{a:Int×Int}{k:Fin 8}(h:okp a k):zj a (k+7)∈nbs (zj a k):=by
 obtain⟨a1,a2⟩:=a;rcases h with⟨h1,h2⟩|⟨h1,h2,h3⟩
 ·dsimp only at h1 h2;obtain⟨x,rfl⟩:∃x,a1=2*x:=⟨a1/2,by lia⟩
  obtain⟨y,rfl⟩:∃y,a2=2*y:=⟨a2/2,by lia⟩
  rw[yk (a:=(2*x,2*y)) h1,yk (a:=(2*x,2*y)) h1];have ex:(2*x)/2=x:=by lia
  have ey:(2*y)/2=y:=by lia
  dsimp only;rw[ex,ey];rcases k8 k with rfl|rfl|rfl|rfl|rfl|rfl|rfl|rfl
  ·show(x,y-1,2)∈nbs (x,y,0)
   rw[nbs0,mem3];exact .inr (.inr rfl)
  ·show(x,y,0)∈nbs (x,y,3)
   rw[nbs3,mem3];exact .inl rfl
  ·show(x,y,3)∈nbs (x-1,y,1)
   rw[nbs1,mem3];exact .inr (.inr (zB (by lia) rfl rfl))
  ·show(x-1,y,1)∈nbs (x-1,y,0)
   rw[nbs0,mem3];exact .inl rfl
  ·show(x-1,y,0)∈nbs (x-1,y-1,2)
   rw[nbs2,mem3];exact .inr (.inr (zB rfl (by lia) rfl))
  ·show(x-1,y-1,2)∈nbs (x-1,y-1,1)
   rw[nbs1,mem3];exact .inl rfl
  ·show(x-1,y-1,1)∈nbs (x,y-1,3)
   rw[nbs3,mem3];exact .inr (.inr rfl)
  ·show(x,y-1,3)∈nbs (x,y-1,2)
   rw[nbs2,mem3];exact .inl rfl
 ·dsimp only at h1 h2;rw[yL (a:=(a1,a2)) h1,yL (a:=(a1,a2)) h1];rcases k8 k with rfl|rfl|rfl|rfl|rfl|rfl|rfl|rfl
  ·exact absurd h3 (by decide)
  ·show(a1/2,a2/2,1)∈nbs (a1/2,a2/2,2)
   rw[nbs2,mem3];exact .inr (.inl rfl)
  ·exact absurd h3 (by decide)
  ·show(a1/2,a2/2,2)∈nbs (a1/2,a2/2,3)
   rw[nbs3,mem3];exact .inr (.inl rfl)
  ·exact absurd h3 (by decide)
  ·show(a1/2,a2/2,3)∈nbs (a1/2,a2/2,0)
   rw[nbs0,mem3];exact .inr (.inl rfl)
  ·exact absurd h3 (by decide)
  ·show(a1/2,a2/2,0)∈nbs (a1/2,a2/2,1)
   rw[nbs1,mem3];exact .inr (.inl rfl)
theorem xO(x y:Int)(k:Fin 8):zj (2*x+1,2*y+1) k=(x,y,([1,2,2,3,3,0,0,1]:List Int).getD k.val 0):=by
 rw[yL (by dsimp only;lia)]
 dsimp only;rw[show(2*x+1)/2=x by lia,show(2*y+1)/2=y by lia]
theorem cellK(x y:Int)(k:Fin 8):zj (2*x,2*y) k=[(x,y,0),(x,y,3),(x-1,y,1),(x-1,y,0),(x-1,y-1,2),(x-1,y-1,1),(x,y-1,3),(x,y-1,2)].getD k.val (0,0,0):=by
 rw[yk (by dsimp only;lia)]
 dsimp only;rw[show(2*x)/2=x by lia,show(2*y)/2=y by lia]
theorem okC(x y:Int){k:Fin 8}(h:k.val%2=1):okp (2*x+1,2*y+1) k:=.inr ⟨by dsimp only;lia,by dsimp only;lia,h⟩
theorem okK(x y:Int)(k:Fin 8):okp (2*x,2*y) k:=.inl ⟨by dsimp only;lia,by dsimp only;lia⟩
theorem jD{c d:C3}(h:vq c)(hd:d∈nbs c):∃a k,okp a k/\c=zj a k/\d=zj a (k+7):=by
 obtain⟨x,y,h⟩:=vq4 h;rcases h with rfl|rfl|rfl|rfl
 ·rw[nbs0,mem3] at hd;rcases hd with rfl|rfl|rfl
  ·exact⟨_,3,okK (x+1) y 3,by rw[cellK];exact zB (by lia) rfl rfl,by rw[cellK];exact zB (by lia) rfl rfl⟩
  ·exact⟨_,5,okC x y rfl,by rw[xO];rfl,by rw[xO];rfl⟩
  ·exact⟨_,0,okK x y 0,by rw[cellK];rfl,by rw[cellK];rfl⟩
 ·rw[nbs1,mem3] at hd;rcases hd with rfl|rfl|rfl
  ·exact⟨_,5,okK (x+1) (y+1) 5,by rw[cellK];exact zB (by lia) (by lia) rfl,by rw[cellK];exact zB (by lia) (by lia) rfl⟩
  ·exact⟨_,7,okC x y rfl,by rw[xO];rfl,by rw[xO];rfl⟩
  ·exact⟨_,2,okK (x+1) y 2,by rw[cellK];exact zB (by lia) rfl rfl,by rw[cellK];rfl⟩
 ·rw[nbs2,mem3] at hd;rcases hd with rfl|rfl|rfl
  ·exact⟨_,7,okK x (y+1) 7,by rw[cellK];exact zB rfl (by lia) rfl,by rw[cellK];exact zB rfl (by lia) rfl⟩
  ·exact⟨_,1,okC x y rfl,by rw[xO];rfl,by rw[xO];rfl⟩
  ·exact⟨_,4,okK (x+1) (y+1) 4,by rw[cellK];exact zB (by lia) (by lia) rfl,by rw[cellK];exact zB (by lia) rfl rfl⟩
 ·rw[nbs3,mem3] at hd;rcases hd with rfl|rfl|rfl
  ·exact⟨_,1,okK x y 1,by rw[cellK];rfl,by rw[cellK];rfl⟩
  ·exact⟨_,3,okC x y rfl,by rw[xO];rfl,by rw[xO];rfl⟩
  ·exact⟨_,6,okK x (y+1) 6,by rw[cellK];exact zB rfl (by lia) rfl,by rw[cellK];exact zB rfl (by lia) rfl⟩
def inB(X Y:Int)(c:C3):Prop:= -1<=c.1/\c.1<=X/\ -1<=c.2.1/\c.2.1<=Y/\vq c
theorem WS{X Y:Int}{Q:C3->Prop}(st:∀c d,inB X Y c->inB X Y d->d∈nbs c->Q c->Q d){c0:C3}(h0:inB X Y c0)(q0:Q c0):∀c,inB X Y c->Q c:=by
 have v0:vq ((0,0,0):C3):=⟨by decide,by decide⟩
 have iB':∀{x y:Int}{q:Int},-1<=x->x<=X-> -1<=y->y<=Y->0<=q->q<=3->inB X Y (x,y,q):=λa b c d e f=>⟨a,b,c,d,e,f⟩;have sq:∀x y,-1<=x->x<=X-> -1<=y->y<=Y->∀q,0<=q->q<=3->Q (x,y,q)->∀r,0<=r->r<=3->Q (x,y,r):=λx y x1 x2 y1 y2 q q1 q2 hq=>by
  have s:∀{q r:Int},0<=q->q<=3->0<=r->r<=3->(x,y,r)∈nbs (x,y,q)->Q (x,y,q)->Q (x,y,r):=λa b c d e f=>st _ _ (iB' x1 x2 y1 y2 a b) (iB' x1 x2 y1 y2 c d) e f;have h01:Q (x,y,0)->Q (x,y,1):=s (by decide) (by decide) (by decide) (by decide) (by rw[nbs0,mem3];exact .inl rfl)
  have h12:Q (x,y,1)->Q (x,y,2):=s (by decide) (by decide) (by decide) (by decide) (by rw[nbs1,mem3];exact .inl rfl)
  have h23:Q (x,y,2)->Q (x,y,3):=s (by decide) (by decide) (by decide) (by decide) (by rw[nbs2,mem3];exact .inl rfl)
  have h30:Q (x,y,3)->Q (x,y,0):=s (by decide) (by decide) (by decide) (by decide) (by rw[nbs3,mem3];exact .inl rfl)
  have q3:Q (x,y,3):=by
   rcases(by lia:q=0∨q=1∨q=2∨q=3) with rfl|rfl|rfl|rfl
   ·exact h23 (h12 (h01 hq))
   ·exact h23 (h12 hq)
   ·exact h23 hq
   ·exact hq
  intro r r1 r2;rcases(by lia:r=0∨r=1∨r=2∨r=3) with rfl|rfl|rfl|rfl
  ·exact h30 q3
  ·exact h01 (h30 q3)
  ·exact h12 (h01 (h30 q3))
  ·exact q3
 obtain⟨x0,y0,p0⟩:=c0;obtain⟨a1,a2,a3,a4,a5,a6⟩:=h0;dsimp only at a1 a2 a3 a4 a5 a6;have S0:=sq x0 y0 a1 a2 a3 a4 p0 a5 a6 q0;have E:∀n:Nat,x0+n<=X->∀r,0<=r->r<=3->Q (x0+n,y0,r):=λn=>by
  induction n with
  |zero=>exact λ_=>by rw[show x0+((0:Nat):Int)=x0 by lia];exact S0
  |succ n ih=>
   intro h;have i:=ih (by lia) 1 (by decide) (by decide)
   refine sq _ y0 (by lia) (by lia) a3 a4 3 (by decide) (by decide) (st _ _ (iB' (by lia) (by lia) a3 a4 (by decide) (by decide)) (iB' (by lia) (by lia) a3 a4 (by decide) (by decide)) ?_ i)
   rw[nbs1,mem3];exact .inr (.inr (zB (by lia) rfl rfl))
 have F:∀n:Nat,-1<=x0-n->∀r,0<=r->r<=3->Q (x0-n,y0,r):=λn=>by
  induction n with
  |zero=>exact λ_=>by rw[show x0-((0:Nat):Int)=x0 by lia];exact S0
  |succ n ih=>
   intro h;have i:=ih (by lia) 3 (by decide) (by decide)
   refine sq _ y0 (by lia) (by lia) a3 a4 1 (by decide) (by decide) (st _ _ (iB' (by lia) (by lia) a3 a4 (by decide) (by decide)) (iB' (by lia) (by lia) a3 a4 (by decide) (by decide)) ?_ i)
   rw[nbs3,mem3];exact .inr (.inr (zB (by lia) rfl rfl))
 have R:∀x,-1<=x->x<=X->∀r,0<=r->r<=3->Q (x,y0,r):=λx x1 x2=>by
  rcases EL x0 x with z|z
  ·have:=E (x-x0).toNat (by lia)
   rw[show x0+((x-x0).toNat:Int)=x by lia] at this
   exact this
  ·have:=F (x0-x).toNat (by lia)
   rw[show x0-((x0-x).toNat:Int)=x by lia] at this
   exact this
 rintro⟨x,y,q⟩ ⟨b1,b2,b3,b4,b5,b6⟩;dsimp only at b1 b2 b3 b4 b5 b6;have E2:∀n:Nat,y0+n<=Y->∀r,0<=r->r<=3->Q (x,y0+n,r):=λn=>by
  induction n with
  |zero=>exact λ_=>by rw[show y0+((0:Nat):Int)=y0 by lia];exact R x b1 b2
  |succ n ih=>
   intro h;have i:=ih (by lia) 2 (by decide) (by decide)
   refine sq x _ b1 b2 (by lia) (by lia) 0 (by decide) (by decide) (st _ _ (iB' b1 b2 (by lia) (by lia) (by decide) (by decide)) (iB' b1 b2 (by lia) (by lia) (by decide) (by decide)) ?_ i)
   rw[nbs2,mem3];exact .inr (.inr (zB rfl (by lia) rfl))
 have F2:∀n:Nat,-1<=y0-n->∀r,0<=r->r<=3->Q (x,y0-n,r):=λn=>by
  induction n with
  |zero=>exact λ_=>by rw[show y0-((0:Nat):Int)=y0 by lia];exact R x b1 b2
  |succ n ih=>
   intro h;have i:=ih (by lia) 0 (by decide) (by decide)
   refine sq x _ b1 b2 (by lia) (by lia) 2 (by decide) (by decide) (st _ _ (iB' b1 b2 (by lia) (by lia) (by decide) (by decide)) (iB' b1 b2 (by lia) (by lia) (by decide) (by decide)) ?_ i)
   rw[nbs0,mem3];exact .inr (.inr (zB rfl (by lia) rfl))
 rcases EL y0 y with z|z
 ·have:=E2 (y-y0).toNat (by lia) q b5 b6
  rw[show y0+((y-y0).toNat:Int)=y by lia] at this
  exact this
 ·have:=F2 (y0-y).toNat (by lia) q b5 b6
  rw[show y0-((y0-y).toNat:Int)=y by lia] at this
  exact this
inductive Cn (S:C3->Prop) (c:C3):C3->Prop where
 |refl:S c->Cn S c c
 |step {d e}:Cn S c d->e∈nbs d->S e->Cn S c e
theorem Cn.trans{S:C3->Prop}{c d e:C3}(h:Cn S c d)(h':Cn S d e):Cn S c e:=by
 induction h' with
 |refl _=>exact h
 |step _ m s ih=>exact .step ih m s
theorem Cn.lst{S:C3->Prop}{c d:C3}(h:Cn S c d):S d:=by
 cases h with
 |refl s=>exact s
 |step _ _ s=>exact s
theorem Cn.symm{S:C3->Prop}(v:∀c,S c->vq c){c d:C3}(h:Cn S c d):Cn S d c:=by
 induction h with
 |refl s=>exact .refl s
 |step h m s ih=>exact Cn.trans (.step (.refl s) (ZB (v _ h.lst) m) h.lst) ih
theorem Cn.inv{S:C3->Prop}{f:C3->α}(k:∀c d,S c->S d->d∈nbs c->f d=f c){c d:C3}(h:Cn S c d):f d=f c:=by
 induction h with
 |refl _=>rfl
 |step h m s ih=>rw[k _ _ h.lst s m,ih]
noncomputable def dirE(e:E2):Fin 8:=if stp e.1 0=e.2 then 0 else if stp e.1 1=e.2 then 1 else if stp e.1 2=e.2 then 2 else if stp e.1 3=e.2 then 3 else if stp e.1 4=e.2 then 4 else if stp e.1 5=e.2 then 5 else if stp e.1 6=e.2 then 6 else 7
def za0(a:Int×Int)(k:Fin 8):dirE (a,stp a k)=k:=by
 have h:∀j,(stp a j=stp a k)=(j=k):=λj=>propext ⟨qx,λz=>by rw[z]⟩
 unfold dirE;simp only[h];clear h
 revert k
 decide
noncomputable def lfC(e:E2):C3:=zj e.1 (dirE e)
noncomputable def rtC(e:E2):C3:=zj e.1 (dirE e+7)
def yH(a:Int×Int)(k:Fin 8):lfC (a,stp a k)=zj a k:=by unfold lfC;rw[za0]
def xL(a:Int×Int)(k:Fin 8):rtC (a,stp a k)=zj a (k+7):=by unfold rtC;rw[za0]
def JG{a:Int×Int}{k:Fin 8}(h:okp a k):lfC (a,stp a k)=zj (stp a k) (k+4+7):=by
 have:=va (jd.mpr h);rw[wg,f44] at this;rw[yH,this]
section
variable{P:List C3}{es:List E2}
def Edg.at(E:Edg P es){a:Int×Int}{k:Fin 8}:(a,stp a k)∈es↔okp a k/\zj a k∈P/\¬zj a (k+7)∈P:=by
 rw[E];show Sd P (a,stp a k)/\¬Sd P (stp a k,a)↔_;rw[jX,jz];exact⟨λ⟨⟨h1,h2⟩,h3⟩=>⟨h1,h2,λz=>h3 ⟨h1,z⟩⟩,λ⟨h1,h2,h3⟩=>⟨⟨h1,h2⟩,λz=>h3 z.2⟩⟩
def Edg.bk(E:Edg P es){a:Int×Int}{k:Fin 8}:(stp a k,a)∈es↔okp a k/\zj a (k+7)∈P/\¬zj a k∈P:=by
 rw[E];show Sd P (stp a k,a)/\¬Sd P (a,stp a k)↔_;rw[jX,jz];exact⟨λ⟨⟨h1,h2⟩,h3⟩=>⟨h1,h2,λz=>h3 ⟨h1,z⟩⟩,λ⟨h1,h2,h3⟩=>⟨⟨h1,h2⟩,λz=>h3 z.2⟩⟩
def Edg.of(E:Edg P es){e:E2}(h:e∈es):∃a k,e=(a,stp a k)/\okp a k/\zj a k∈P/\¬zj a (k+7)∈P:=by
 obtain⟨k,hk⟩:=E.ray h;have e':e=(e.1,stp e.1 k):=Qg rfl hk;rw[e'] at h;exact⟨e.1,k,e',E.at.mp h⟩
theorem Edg.okE(E:Edg P es){e:E2}(h:e∈es):okE e:=by
 obtain⟨a,k,e1,h1,_⟩:=E.of h;exact⟨a,k,h1,e1⟩
def Edg.lf(E:Edg P es){e:E2}(h:e∈es):lfC e∈P/\¬rtC e∈P:=by
 obtain⟨a,k,rfl,h1,h2,h3⟩:=E.of h;rw[yH,xL];exact⟨h2,h3⟩
end
theorem Yy(v:Int×Int)(i:Fin 8):v.1/2-1<=(zj v i).1/\(zj v i).1<=v.1/2/\v.2/2-1<=(zj v i).2.1/\(zj v i).2.1<=v.2/2:=by
 have t:∀{a b c d:Int},a-1<=b->b<=a->c-1<=d->d<=c->a-1<=b/\b<=a/\c-1<=d/\d<=c:=λh1 h2 h3 h4=>⟨h1,h2,h3,h4⟩
 by_cases h:v.1%2=0
 ·rw[yk h];rcases k8 i with rfl|rfl|rfl|rfl|rfl|rfl|rfl|rfl
  ·exact t (QD _ (by decide)) (QU _) (QD _ (by decide)) (QU _)
  ·exact t (QD _ (by decide)) (QU _) (QD _ (by decide)) (QU _)
  ·exact t (QU _) (QD _ (by decide)) (QD _ (by decide)) (QU _)
  ·exact t (QU _) (QD _ (by decide)) (QD _ (by decide)) (QU _)
  ·exact t (QU _) (QD _ (by decide)) (QU _) (QD _ (by decide))
  ·exact t (QU _) (QD _ (by decide)) (QU _) (QD _ (by decide))
  ·exact t (QD _ (by decide)) (QU _) (QU _) (QD _ (by decide))
  ·exact t (QD _ (by decide)) (QU _) (QU _) (QD _ (by decide))
 ·rw[yL (by omega)]
  exact t (QD _ (by decide)) (QU _) (QD _ (by decide)) (QU _)
theorem arnd{X Y:Int}{v:Int×Int}{i j:Fin 8}(h:0<=(zj v j).1/\(zj v j).1<X/\0<=(zj v j).2.1/\(zj v j).2.1<Y):inB X Y (zj v i):=by
 have a:=Yy v i;have b:=Yy v j;exact⟨by omega,by lia,by omega,by omega,Wx _ _⟩
noncomputable def ad8(i:Fin 8):Nat->Fin 8
 |0=>i
 |m+1=>ad8 i m+1
def p17:∀k:Fin 8,k+1+7=k:=by decide
theorem fan1{v:Int×Int}(h:ok v)(k:Fin 8):zj v (k+7)=zj v k∨zj v (k+7)∈nbs (zj v k):=by
 rcases h with h|h
 ·exact .inr (Xy (.inl h))
 ·by_cases c:k.val%2=0
  ·exact .inl (Vq h.1 c).symm
  ·exact .inr (Xy (.inr ⟨h.1,h.2,by lia⟩))
theorem fan{S:C3->Prop}{v:Int×Int}(h:ok v)(i:Fin 8):∀n,(∀m,m<=n->S (zj v (ad8 i m)))->Cn S (zj v i) (zj v (ad8 i n))
 |0,s=>.refl (s 0 (pG _))
 |n+1,s=>by
  have ih:=fan h i n λm hm=>s m (by lia)
  have s1:=s (n+1) (pG _);have f:=fan1 h (ad8 i (n+1));have e:ad8 i (n+1)+7=ad8 i n:=p17 _;rw[e] at f;rcases f with f|f
  ·rw[←f];exact ih
  ·exact .step ih (ZB (Wx _ _) f) s1
def fanL':∀b0 b1 b2 b3 b4 b5 b6 b7:Bool,∀i j:Fin 8,iB (mkb b0 b1 b2 b3 b4 b5 b6 b7) i=true->oB (mkb b0 b1 b2 b3 b4 b5 b6 b7) j=true->(∀j',oB (mkb b0 b1 b2 b3 b4 b5 b6 b7) j'=true->rk i j<=rk i j')->∃n:Fin 8,(∀m:Fin 8,m<=n->mkb b0 b1 b2 b3 b4 b5 b6 b7 (ad8 j m.val)=true)/\ad8 j n.val=i+7:=by decide+kernel
theorem fanL{b:Fin 8->Bool}{i j:Fin 8}(h:iB b i=true)(h':oB b j=true)(k:∀j',oB b j'=true->rk i j<=rk i j'):∃n:Nat,(∀m,m<=n->b (ad8 j m)=true)/\ad8 j n=i+7:=by
 rw[X3 b] at h h' k⊢;obtain⟨n,h1,h2⟩:=fanL' _ _ _ _ _ _ _ _ i j h h' k;exact⟨n.val,λm hm=>h1 ⟨m,by lia⟩ hm,h2⟩
def Wa{v:Int×Int}{k:Fin 8}(h:okp v k):ok v:=h.imp id λz=>⟨z.1,z.2.1⟩
def zay{a:Int×Int}{k:Fin 8}(h:okp a k):ok (stp a k):=Wa (jd.mpr h)
section
variable{P:List C3}{es:List E2}
def sec_at{v:Int×Int}(h:ok v)(k:Fin 8):sec P v k=true↔zj v k∈P:=by
 unfold sec;rw[decide_eq_true_iff];exact⟨λz=>z.2,λz=>⟨h,z⟩⟩
def Edg.over(E:Edg P es){a:Int×Int}{k j:Fin 8}(h:(a,stp a k)∈es)(h':(stp a k,stp (stp a k) j)∈es)(m:∀j',oB (sec P (stp a k)) j'=true->rk (k+4) j<=rk (k+4) j'):Cn (λc=>c∈P) (lfC (stp a k,stp (stp a k) j)) (lfC (a,stp a k)):=by
 obtain⟨h1,_⟩:=E.at.mp h;have hv:=zay h1;have i:iB (sec P (stp a k)) (k+4)=true:=(E.inn (a:=stp a k) (k:=k+4)).mp (by rw[wg];exact h)
 obtain⟨n,f1,f2⟩:=fanL i (E.out.mp h') m;rw[JG h1,yH,←f2];exact fan hv j n λm hm=>(sec_at hv _).mp (f1 m hm)
end
def Chn{α:Type}:α->List (α×α)->α->Prop
 |a,[],b=>a=b
 |a,e::l,b=>e.1=a/\Chn e.2 l b
theorem Chn.su{φ:Int×Int->Int}:∀{l:List E2}{a b:Int×Int},Chn a l b->su (λe=>φ e.2-φ e.1) l=φ b-φ a
 |[],a,b,h=>by
  have h:a=b:=h;rw[h];exact(CD _).symm
 |e::l,a,b,h=>by
  obtain⟨h1,h2⟩:=h;have:=Chn.su (φ:=φ) h2;show φ e.2-φ e.1+Mine.su _ l=_;rw[this,h1];lia
theorem Chn.clo{l:List E2}{a:Int×Int}(h:Chn a l a):Clo l:=λφ=>by
 rw[h.su];lia
theorem xx{e:E2}:∀{l:List E2},¬e∈l->ct e l=0
 |[],_=>rfl
 |x::l,h=>by
  show(if x=e then(1:Int) else 0)+ct e l=0
  rw[if_neg (λz=>h (by rw[z];simp)),xx λz=>h (pE _ z)]
  rfl
theorem Y6{e:E2}:∀{l:List E2},l.Nodup->e∈l->ct e l=1
 |[],_,h=>by cases h
 |x::l,nd,h=>by
  obtain⟨n1,n2⟩:=US.mp nd;show(if x=e then(1:Int) else 0)+ct e l=1
  by_cases c:x=e
  ·rw[if_pos c,xx (by rw[←c];exact n1)]
   rfl
  ·rw[if_neg c,Y6 n2 ((pS.mp h).resolve_left λz=>c z.symm)];rfl
theorem wN{α:Type}(f:α->Int):∀l:List α,su (λx=> -f x) l= -su f l
 |[]=>rfl
 |x::l=>by
  show-f x+su _ l= -(f x+su f l)
  rw[wN f l];lia
theorem Xv{α:Type}{f:α->Int}:∀{l:List α},(∀x,x∈l->f x<=0)->su f l<=0
 |[],_=>QU _
 |x::l,h=>by
  have a:=h x (by simp)
  have b:=Xv λy hy=>h y (pE _ hy);show f x+su f l<=0;lia
theorem vE{α:Type}{f:α->Int}{x:α}:∀{l:List α},(∀x,x∈l->f x<=0)->x∈l->su f l<=f x
 |[],_,h=>by cases h
 |y::l,h,hx=>by
  have a:=h y (by simp)
  have h':=λz hz=>h z (pE y hz);show f y+su f l<=f x;rcases pS.mp hx with z|z
  ·have:=Xv h';rw[z];lia
  ·have:=vE h' z;lia
theorem Jc{α:Type}{f:α->Int}{x y:α}:∀{l:List α},(∀z,z∈l->f z<=0)->su f l= -1->x∈l->y∈l->f x= -1->f y= -1->x=y
 |[],_,_,h,_,_,_=>by cases h
 |z::l,h,s,hx,hy,fx,fy=>by
  have s:f z+su f l= -1:=s;have h':=λz' hz=>h z' (pE z hz);rcases pS.mp hx with a|a<;>rcases pS.mp hy with b|b
  ·rw[a,b]
  ·have:=vE h' b;rw[a] at fx;lia
  ·have:=vE h' a;rw[b] at fy;lia
  ·have z0:=h z (by simp)
   have:=vE h' a;exact Jc h' (by lia) a b fx fy
theorem su_ex{α:Type}{f:α->Int}:∀{l:List α},(∀z,z∈l->f z=0∨f z= -1)->su f l= -1->∃x,x∈l/\f x= -1
 |[],_,s=>by cases s
 |z::l,h,s=>by
  have s:f z+su f l= -1:=s;rcases h z (by simp) with a|a
  ·obtain⟨x,h1,h2⟩:=su_ex (λz' hz=>h z' (pE z hz)) (by lia)
   exact⟨x,pE _ h1,h2⟩
  ·exact⟨z,by simp,a⟩
structure Lps(X Y:Int)(P:List C3)(es:List E2)(Ls:List (List E2)):Prop where
 edg:Edg P es
 nd:es.Nodup
 pm:Ls.flatten.Perm es
 ne:∀l,l∈Ls->l≠[]
 cyc:∀l,l∈Ls->∃a,Chn a l a
 one:∀l,l∈Ls->∀e e',e∈l->e'∈l->e.1=e'.1->e=e'
 inn:∀c,c∈P->0<=c.1/\c.1<X/\0<=c.2.1/\c.2.1<Y/\vq c
 con:∀c d,c∈P->d∈P->Cn (λc=>c∈P) c d
 non:∃c,c∈P
def Vd(X Y:Int)(P:List C3)(c:C3):Prop:=inB X Y c/\¬c∈P
variable{c0:C3}{l':List E2}
section
variable{X Y:Int}{P:List C3}{es:List E2}{Ls:List (List E2)}(L:Lps X Y P es Ls)
include L
variable{l:List E2}{e:E2}
theorem Lps.sub(hl:l∈Ls)(he:e∈l):e∈es:=L.pm.mem_iff.mp (Uq.mpr ⟨l,hl,he⟩)
theorem Lps.ndl(hl:l∈Ls):l.Nodup:=by
 have:=pN.mp (L.pm.nodup_iff.mpr L.nd);rw[Ud] at this;exact pN.mpr (this.1 l hl)
theorem Lps.ok(hl:l∈Ls):∀e,e∈l->okE e:=λe he=>L.edg.okE (L.sub hl he)
theorem Lps.clo(hl:l∈Ls):Clo l:=by
 obtain⟨a,h⟩:=L.cyc l hl;exact h.clo
theorem Lps.okA:∀e,e∈es->okE e:=λe he=>L.edg.okE he
theorem Lps.cloA:Clo es:=λφ=>by
 rw[←jB _ L.pm,VZ,zP (g:=λ_=>0) λl hl=>L.clo hl φ,wj]
theorem Lps.at(he:e∈es):∃l,l∈Ls/\e∈l:=Uq.mp (L.pm.mem_iff.mpr he)
theorem Lps.sumW(c:C3):su (λl=>Wd l c) Ls=Wd es c:=by
 unfold Wd Wp;rw[wN,←jB _ L.pm,VZ]
variable{c d:C3}
theorem Lps.stay(hl:l∈Ls)(hc:vq c)(m:d∈nbs c)(h:c∈P↔d∈P):Wd l d=Wd l c:=by
 obtain⟨a,k,h1,rfl,rfl⟩:=jD hc m;have j:=jump (L.ok hl) (L.clo hl) h1;rw[xx (λz=>by obtain⟨_,x,y⟩:=L.edg.at.mp (L.sub hl z);exact y (h.mp x)),xx (λz=>by obtain⟨_,x,y⟩:=L.edg.bk.mp (L.sub hl z);exact y (h.mpr x))] at j
 lia
theorem Lps.vP(h:c∈P):vq c:=(L.inn c h).2.2.2.2
theorem Lps.onP(hl:l∈Ls)(hc:c∈P)(hd:d∈P):Wd l d=Wd l c:=(L.con c d hc hd).inv λc d h1 h2 m=>L.stay hl (L.vP h1) m ⟨λ_=>h2,λ_=>h1⟩
theorem Lps.offP(hl:l∈Ls)(h:Cn (Vd X Y P) c d):Wd l d=Wd l c:=h.inv λc d h1 h2 m=>L.stay hl h1.1.2.2.2.2 m ⟨λz=>absurd z h1.2,λz=>absurd z h2.2⟩
theorem Lps.drop(hl:l∈Ls)(he:e∈l):Wd l (lfC e)=Wd l (rtC e)+1:=by
 obtain⟨a,k,rfl,h1,h2,h3⟩:=L.edg.of (L.sub hl he);rw[yH,xL];have j:=jump (L.ok hl) (L.clo hl) h1;rw[Y6 (L.ndl hl) he,xx (λz=>h3 (L.edg.bk.mp (L.sub hl z)).2.1)] at j;lia
theorem Lps.rt(hl:l∈Ls)(he:e∈l)(hc:c∈P):Wd l (rtC e)=Wd l c-1:=by
 have:=L.drop hl he;have:=L.onP hl hc (L.edg.lf (L.sub hl he)).1;lia
theorem Lps.two(hl:l∈Ls)(h0:c0∈P):∀c,inB X Y c->Wd l c=Wd l c0∨Wd l c=Wd l c0-1:=by
 refine WS (Q:=λc=>Wd l c=Wd l c0∨Wd l c=Wd l c0-1) (λc d hc hd m q=>?_) (c0:=c0) (by obtain⟨a,b,c,d,e⟩:=L.inn c0 h0;exact⟨by lia,by lia,by lia,by lia,e⟩) (.inl rfl)
 obtain⟨a,k,h1,rfl,rfl⟩:=jD hc.2.2.2.2 m
 by_cases x:(a,stp a k)∈l
 ·have:=L.rt hl x h0;rw[xL] at this;exact .inr this
 ·by_cases y:(stp a k,a)∈l
  ·have:=L.onP hl h0 (L.edg.bk.mp (L.sub hl y)).2.1;exact .inl this
  ·have j:=jump (L.ok hl) (L.clo hl) h1;rw[xx x,xx y] at j;lia
theorem Lps.sum1(h0:c0∈P):∀c,inB X Y c->Wd es c=Wd es c0-if c∈P then 0 else 1:=by
 refine WS (Q:=λc=>Wd es c=Wd es c0-if c∈P then 0 else 1) (λc d hc hd m q=>?_) (c0:=c0) (by obtain⟨a,b,c,d,e⟩:=L.inn c0 h0;exact⟨by lia,by lia,by lia,by lia,e⟩) (by rw[if_pos h0];lia)
 obtain⟨a,k,h1,rfl,rfl⟩:=jD hc.2.2.2.2 m;have j:=jump L.okA L.cloA h1
 by_cases x:zj a k∈P<;>by_cases y:zj a (k+7)∈P
 ·rw[xx (λz=>(L.edg.at.mp z).2.2 y),xx (λz=>(L.edg.bk.mp z).2.2 x)] at j;rw[if_pos x] at q;rw[if_pos y];lia
 ·rw[Y6 L.nd (L.edg.at.mpr ⟨h1,x,y⟩),xx (λz=>(L.edg.bk.mp z).2.2 x)] at j;rw[if_pos x] at q;rw[if_neg y];lia
 ·rw[xx (λz=>x (L.edg.at.mp z).2.1),Y6 L.nd (L.edg.bk.mpr ⟨h1,y,x⟩)] at j;rw[if_neg x] at q;rw[if_pos y];lia
 ·rw[xx (λz=>x (L.edg.at.mp z).2.1),xx (λz=>y (L.edg.bk.mp z).2.1)] at j;rw[if_neg x] at q;rw[if_neg y];lia
theorem Lps.uniq(h0:c0∈P)(hc:inB X Y c)(n:¬c∈P)(hl:l∈Ls)(hl':l'∈Ls)(w:Wd l c=Wd l c0-1)(w':Wd l' c=Wd l' c0-1):l=l':=by
 have s:su (λl=>Wd l c-Wd l c0) Ls= -1:=by
  rw[xA,L.sumW,L.sumW,L.sum1 h0 c hc,if_neg n];lia
 exact Jc (f:=λl=>Wd l c-Wd l c0) (λl hl=>by rcases L.two hl h0 c hc with z|z<;>lia) s hl hl' (by lia) (by lia)
theorem Lps.rtB(he:e∈es):inB X Y (rtC e):=by
 obtain⟨a,k,rfl,h1,h2,h3⟩:=L.edg.of he;rw[xL];have:=L.inn _ h2;exact arnd (j:=k) ⟨this.1,this.2.1,this.2.2.1,this.2.2.2.1⟩
theorem Lps.reach:∀c,inB X Y c->c∈P∨∃e,e∈es/\Cn (Vd X Y P) (rtC e) c:=by
 obtain⟨c0,h0⟩:=L.non;refine WS (Q:=λc=>c∈P∨∃e,e∈es/\Cn (Vd X Y P) (rtC e) c) (λc d hc hd m q=>?_) (c0:=c0) (by obtain⟨a,b,c,d,e⟩:=L.inn c0 h0;exact⟨by lia,by lia,by lia,by lia,e⟩) (.inl h0)
 by_cases n:d∈P
 ·exact .inl n
 ·rcases q with q|⟨e,he,cn⟩
  ·obtain⟨a,k,h1,rfl,rfl⟩:=jD hc.2.2.2.2 m;refine .inr ⟨(a,stp a k),L.edg.at.mpr ⟨h1,q,n⟩,?_⟩;rw[xL];exact .refl ⟨hd,n⟩
  ·exact .inr ⟨e,he,.step cn m ⟨hd,n⟩⟩
end
structure Prt(S:C3->Prop)(Ps:List (List C3)):Prop where
 all:∀c,S c↔∃p,p∈Ps/\c∈p
 ne:∀p,p∈Ps->∃c,c∈p
 con:∀p,p∈Ps->∀c d,c∈p->d∈p->Cn S c d
 sep:∀p,p∈Ps->∀c d,c∈p->S d->d∈nbs c->d∈p
 dis:Ps.Pairwise λp q=>∀c,c∈p->¬c∈q
variable{d:C3}
theorem Prt.cn{S:C3->Prop}{Ps:List (List C3)}(h:Prt S Ps){p:List C3}(hp:p∈Ps){c:C3}(k:Cn S c d)(hc:c∈p):d∈p:=by
 induction k with
 |refl _=>exact hc
 |step k m s ih=>exact h.sep p hp _ _ ih s m
theorem Prt.conI{S:C3->Prop}{Ps:List (List C3)}(h:Prt S Ps){p:List C3}(hp:p∈Ps){c:C3}(hc:c∈p)(hd:d∈p):Cn (λc=>c∈p) c d:=by
 have k:=h.con p hp c d hc hd;clear hd
 induction k with
 |refl _=>exact .refl hc
 |step k m s ih=>exact .step ih m (h.sep p hp _ _ ih.lst s m)
theorem Prt.one{S:C3->Prop}{Ps:List (List C3)}(h:Prt S Ps){p q:List C3}(hp:p∈Ps)(hq:q∈Ps){c:C3}(cp:c∈p)(cq:c∈q):p=q:=by
 have d:=h.dis;clear h
 induction Ps with
 |nil=>cases hp
 |cons x Ps ih=>
  obtain⟨d1,d2⟩:=FX.mp d;rcases pS.mp hp with a|a<;>rcases pS.mp hq with b|b
  ·rw[a,b]
  ·rw[a] at cp;exact absurd cq (d1 q b c cp)
  ·rw[b] at cq;exact absurd cp (d1 p a c cq)
  ·exact ih a b d2
section
variable{X Y:Int}{P:List C3}{es:List E2}{Ls:List (List E2)}(L:Lps X Y P es Ls)
include L
theorem Lps.pos{e:E2}(he:e∈es):(0<=e.1.1/\e.1.1<=2*X+1/\0<=e.1.2/\e.1.2<=2*Y+1)/\(0<=e.2.1/\e.2.1<=2*X+1/\0<=e.2.2/\e.2.2<=2*Y+1):=by
 obtain⟨a,k,rfl,h1,h2,h3⟩:=L.edg.of he;have e1:=JG h1;rw[yH] at e1;have i:=L.inn _ h2;have b1:=Yy a k;rw[e1] at i;have b2:=Yy (stp a k) (k+4+7);rw[←e1] at i b2;dsimp only;omega
theorem Lps.far{l:List E2}(hl:∀e,e∈l->e∈es):Wd l (-1,-1,3)=0:=by
 show-su (λe=>wst e (2* -1) (8* -1+1)) l=0
 rw[zP (g:=λ_=>0) λe he=>?_,wj]
 ·rfl
 ·have p:=L.pos (hl e he);unfold wst Uc mid;rw[if_neg (λz=>by omega),if_neg (λz=>by have:=z.2;unfold rv at this;dsimp only at this;lia)]
  rfl
theorem Lps.farB:inB X Y (-1,-1,3)/\¬((-1,-1,3):C3)∈P:=by
 obtain⟨c,hc⟩:=L.non;have:=L.inn c hc;refine⟨⟨by decide,by dsimp only;omega,by decide,by dsimp only;lia,vq3 _ _ 3 (by decide) (by decide)⟩,λz=>?_⟩
 have:=(L.inn _ z).1;dsimp only at this;lia
theorem Lps.w01{l:List E2}(hl:l∈Ls)(h0:c0∈P):Wd l c0=0∨Wd l c0=1:=by
 have a:=L.two hl h0 _ L.farB.1;rw[L.far λe he=>L.sub hl he] at a;lia
theorem Lps.w1(h0:c0∈P):su (λl=>Wd l c0) Ls=1:=by
 have a:=L.sum1 h0 _ L.farB.1;rw[if_neg L.farB.2,L.far λe he=>he] at a;rw[L.sumW];lia
end
noncomputable def crs(e:E2):Int:=e.1.1*e.2.2-e.2.1*e.1.2
noncomputable def lace(l:List E2):Int:=su crs l
theorem XZ{α β:Type}(g:α->β->Int)(is:List α):∀l:List β,su (λi=>su (λe=>g i e) l) is=su (λe=>su (λi=>g i e) is) l
 |[]=>wj is
 |e::l=>by
  show su (λi=>g i e+su (λe=>g i e) l) is=su (λi=>g i e) is+su (λe=>su (λi=>g i e) is) l
  rw[Ya,XZ g is l]
theorem cnt{lo hi:Int}(h0:0<=lo)(h:lo<=hi):∀n:Nat,su (λi:Nat=>if lo<=(i:Int)/\(i:Int)<hi then 1 else 0) (pP n)=if(n:Int)<=lo then 0 else if(n:Int)<=hi then n-lo else hi-lo
 |0=>by
  rw[if_pos (by lia)]
  rfl
 |n+1=>by
  rw[QQ,xP,cnt h0 h n];show _+((if lo<=(n:Int)/\(n:Int)<hi then 1 else 0)+0)=_;rw[UH]
  by_cases a:((n+1:Nat):Int)<=lo
  ·rw[if_pos a,if_pos (by lia),if_neg (by lia)]
   rfl
  ·rw[if_neg a]
   by_cases b:((n+1:Nat):Int)<=hi
   ·rw[if_pos b]
    by_cases c:(n:Int)<=lo
    ·rw[if_pos c,if_pos (by lia)]
     lia
    ·rw[if_neg c,if_pos (show(n:Int)<=hi by lia),if_pos (by lia)]
     lia
   ·rw[if_neg b,if_neg (show ¬(lo<=(n:Int)/\(n:Int)<hi) by lia)]
    by_cases c:(n:Int)<=lo
    ·rw[if_pos c];lia
    ·rw[if_neg c]
     by_cases d:(n:Int)<=hi
     ·rw[if_pos d];lia
     ·rw[if_neg d];lia
theorem zas{lo hi:Int}(h0:0<=lo)(h:lo<=hi){n:Nat}(hn:hi<=n):su (λi:Nat=>if lo<=(i:Int)/\(i:Int)<hi then 1 else 0) (pP n)=hi-lo:=by
 rw[cnt h0 h]
 by_cases a:(n:Int)<=lo
 ·rw[if_pos a];lia
 ·rw[if_neg a]
  by_cases b:(n:Int)<=hi
  ·rw[if_pos b];lia
  ·rw[if_neg b]
theorem uc_j{e:E2}{r:Int}{T:Nat}(h1: -8<=mid e)(h2:mid e<=T-8):su (λj:Nat=>Uc e r ((j:Int)-7)) (pP T)=(T-(mid e+8))*(if up e r then 1 else 0):=by
 by_cases u:up e r
 ·rw[if_pos u,HW,←zas (lo:=mid e+8) (hi:=T) (n:=T) (by lia) (by lia) (QU _)]
  refine zP λj hj=>?_;have:=pQ.mp hj;unfold Uc
  by_cases c:mid e<(j:Int)-7
  ·rw[if_pos ⟨u,c⟩,if_pos ⟨by lia,by lia⟩]
  ·rw[if_neg (λz=>c z.2),if_neg (by omega)]
 ·rw[if_neg u,Uy,zP (g:=λ_=>0) λj _=>?_,wj];unfold Uc;exact if_neg λz=>u z.1
noncomputable def rise(e:E2):Int:=if e.1.2<e.2.2 then e.2.2-e.1.2 else 0
theorem up_i{e:E2}{R:Nat}(h1: -2<=e.1.2)(h2:e.2.2<=R-2):su (λi:Nat=>if up e ((i:Int)-2) then(1:Int) else 0) (pP R)=rise e:=by
 unfold rise
 by_cases c:e.1.2<e.2.2
 ·rw[if_pos c,show e.2.2-e.1.2=(e.2.2+2)-(e.1.2+2) by lia,←zas (lo:=e.1.2+2) (hi:=e.2.2+2) (n:=R) (by lia) (by lia) (by lia)]
  refine zP λi _=>?_
  by_cases d:up e ((i:Int)-2)
  ·rw[if_pos d,if_pos (by obtain⟨d1,d2⟩:=d;lia)]
  ·rw[if_neg d,if_neg (λz=>d ⟨by lia,by lia⟩)]
 ·rw[if_neg c,zP (g:=λ_=>0) λi _=>?_,wj];exact if_neg λ⟨d1,d2⟩=>by omega
def uc_ij{e:E2}{R T:Nat}(h1: -8<=mid e)(h2:mid e<=T-8)(h3: -2<=e.1.2)(h4:e.2.2<=R-2):su (λi:Nat=>su (λj:Nat=>Uc e ((i:Int)-2) ((j:Int)-7)) (pP T)) (pP R)=(T-(mid e+8))*rise e:=by
 rw[zP λi _=>uc_j h1 h2,ji,up_i h3 h4]
theorem crs_mid(e:E2):(e.2.2-e.1.2)*mid e=2*crs e+(2*(e.2.1*e.2.2)-2*(e.1.1*e.1.2)):=by
 obtain⟨⟨a,b⟩,⟨c,d⟩⟩:=e;unfold mid crs;dsimp only;rw[DW,Ex,Ae,Ae,UO d a,UO d c,UO b a,UO b c];lia
theorem edge_ij{e:E2}{R T:Nat}(h1: -8<=mid e)(h2:mid e<=T-8)(h3: -2<=e.1.2)(h4:e.2.2<=R-2)(h5: -2<=e.2.2)(h6:e.1.2<=R-2):su (λi:Nat=>su (λj:Nat=>wst e ((i:Int)-2) ((j:Int)-7)) (pP T)) (pP R)=(T-8)*(e.2.2-e.1.2)-(2*crs e+(2*(e.2.1*e.2.2)-2*(e.1.1*e.1.2))):=by
 have mm:mid (rv e)=mid e:=by unfold mid rv;dsimp only;lia
 have a:=uc_ij h1 h2 h3 h4;have b:=uc_ij (e:=rv e) (R:=R) (T:=T) (by rw[mm];exact h1) (by rw[mm];exact h2) h5 h6
 rw[mm] at b;unfold wst;rw[zP λi _=>xA _ _ _,xA,a,b,←crs_mid,←DX];have r:rise e-rise (rv e)=e.2.2-e.1.2:=by
  unfold rise rv;dsimp only
  by_cases c:e.1.2<e.2.2
  ·rw[if_pos c,if_neg (by lia)]
   lia
  ·rw[if_neg c]
   by_cases d:e.2.2<e.1.2
   ·rw[if_pos d];lia
   ·rw[if_neg d];lia
 rw[r,UO _ (mid e),←Ex,show(T:Int)-(mid e+8)=T-8-mid e by lia]
theorem lace_ij{l:List E2}(cl:Clo l){R T:Nat}(h:∀e,e∈l-> -8<=mid e/\mid e<=T-8/\ -2<=e.1.2/\e.2.2<=R-2/\ -2<=e.2.2/\e.1.2<=R-2):2*lace l=su (λi:Nat=>su (λj:Nat=>Wp l ((i:Int)-2) ((j:Int)-7)) (pP T)) (pP R):=by
 have a:su (λi:Nat=>su (λj:Nat=>Wp l ((i:Int)-2) ((j:Int)-7)) (pP T)) (pP R)= -su (λe=>su (λi:Nat=>su (λj:Nat=>wst e ((i:Int)-2) ((j:Int)-7)) (pP T)) (pP R)) l:=by
  unfold Wp;rw[zP λi _=>wN _ _,wN,zP λ(i:Nat) _=>XZ (λ(j:Nat) e=>wst e ((i:Int)-2) ((j:Int)-7)) (pP T) l,XZ (λ(i:Nat) e=>su (λj:Nat=>wst e ((i:Int)-2) ((j:Int)-7)) (pP T)) (pP R) l]
 rw[a,zP λe he=>by obtain⟨h1,h2,h3,h4,h5,h6⟩:=h e he;exact edge_ij h1 h2 h3 h4 h5 h6,xA,ji,cl λv=>v.2,Ya,ji,cl λv=>2*(v.1*v.2)]
 unfold lace;lia
theorem Xe{l:List E2}{r:Int}(ht:t<=t')(n:∀e,e∈l->e.1.2≠e.2.2->¬(t<=mid e/\mid e<t')):Wp l r t=Wp l r t':=by
 unfold Wp;rw[zP λe he=>?_];have u:∀e:E2,(e.1.2≠e.2.2->¬(t<=mid e/\mid e<t'))->Uc e r t=Uc e r t':=λe n=>by
  unfold Uc
  by_cases d:up e r
  ·have n:=n (by obtain⟨d1,d2⟩:=d;lia)
   by_cases c:mid e<t
   ·rw[if_pos ⟨d,c⟩,if_pos ⟨d,by lia⟩]
   ·rw[if_neg (λz=>c z.2),if_neg (λz=>n ⟨by lia,z.2⟩)]
  ·rw[if_neg (λz=>d z.1),if_neg (λz=>d z.1)]
 have mm:mid (rv e)=mid e:=by unfold mid rv;dsimp only;lia
 unfold wst;rw[u e (n e he),u (rv e) (by rw[mm];exact λz=>n e he λq=>z q.symm)]
theorem mid8{e:E2}(h:okE e)(n:e.1.2≠e.2.2):mid e%8=0∨mid e%8=2∨mid e%8=6:=by
 unfold mid;rcases h.ar with⟨a,b,c|c|c|c⟩|⟨a|a,c|c|c|c⟩<;>lia
theorem pt_cell{X Y:Int}{l:List E2}(ok:∀e,e∈l->okE e)(cl:Clo l){r t:Int}(h1: -2<=r)(h2:r<=2*Y+1)(h3: -7<=t)(h4:t<=8*X+8):∃c,inB X Y c/\Wp l r t=Wd l c:=by
 obtain⟨x,hx⟩:∃x,x=(t-1)/8:=⟨_,rfl⟩;obtain⟨y,hy⟩:∃y,y=r/2:=⟨_,rfl⟩;have x1: -1<=x:=by lia
 have x2:x<=X:=by lia
 have y1: -1<=y:=by lia
 have y2:y<=Y:=by lia
 have B:∀q,0<=q->q<=3->inB X Y (x,y,q):=λq a b=>⟨x1,x2,y1,y2,a,b⟩;have m8:∀e,e∈l->e.1.2≠e.2.2->mid e%8=0∨mid e%8=2∨mid e%8=6:=λe he=>mid8 (ok e he);have s1:t<=8*x+2->Wp l r t=Wp l r (8*x+1):=λz=>(Xe (by lia) λe he q=>by have:=m8 e he q;lia).symm
 have s2:8*x+3<=t->t<=8*x+6->Wp l r t=Wp l r (8*x+4):=λz z'=>by
  rw[←Xe (t:=8*x+3) (by lia) λe he q=>by have:=m8 e he q;lia]
  exact Xe (by lia) λe he q=>by have:=m8 e he q;lia
 have s3:8*x+7<=t->Wp l r t=Wp l r (8*x+7):=λz=>(Xe (by lia) λe he q=>by have:=m8 e he q;lia).symm
 rcases(by lia:r=2*y∨r=2*y+1) with e|e
 ·rcases(by lia:t<=8*x+2∨(8*x+3<=t/\t<=8*x+6)∨8*x+7<=t) with z|⟨z,z'⟩|z
  ·exact⟨_,B 3 (by decide) (by decide),by rw[s1 z,wd3,e]⟩
  ·exact⟨_,B 0 (by decide) (by decide),by rw[s2 z z',wd0,e]⟩
  ·exact⟨_,B 1 (by decide) (by decide),by rw[s3 z,wd1,e]⟩
 ·rcases(by lia:t<=8*x+2∨(8*x+3<=t/\t<=8*x+6)∨8*x+7<=t) with z|⟨z,z'⟩|z
  ·exact⟨_,B 3 (by decide) (by decide),by rw[s1 z,wd3,e,YL ok cl (.inl rfl)]⟩
  ·exact⟨_,B 2 (by decide) (by decide),by rw[s2 z z',wd2,e]⟩
  ·exact⟨_,B 1 (by decide) (by decide),by rw[s3 z,wd1,e,YL ok cl (.inr rfl)]⟩
theorem cell_pt{X Y:Int}{c:C3}(h:inB X Y c):(-2<=yp c/\yp c<=2*Y+1)/\ -7<=xk c/\xk c<=8*X+8:=by
 obtain⟨h1,h2,h3,h4,v⟩:=h;unfold yp xk;obtain⟨x,y,h⟩:=vq4 v;rcases h with rfl|rfl|rfl|rfl
 ·show(-2<=2*y/\2*y<=_)/\ -7<=8*x+4/\8*x+4<=_
  dsimp only at h1 h2 h3 h4;omega
 ·show(-2<=2*y/\2*y<=_)/\ -7<=8*x+7/\8*x+7<=_
  dsimp only at h1 h2 h3 h4;lia
 ·show(-2<=2*y+1/\2*y+1<=_)/\ -7<=8*x+4/\8*x+4<=_
  dsimp only at h1 h2 h3 h4;lia
 ·show(-2<=2*y/\2*y<=_)/\ -7<=8*x+1/\8*x+1<=_
  dsimp only at h1 h2 h3 h4;lia
section
variable{X Y:Int}{P:List C3}{es:List E2}{Ls:List (List E2)}(L:Lps X Y P es Ls)
include L
variable{l:List E2}
theorem Lps.lace2(hl:l∈Ls):2*lace l=su (λi:Nat=>su (λj:Nat=>Wp l ((i:Int)-2) ((j:Int)-7)) (pP (8*X+16).toNat)) (pP (2*Y+4).toNat):=by
 obtain⟨c,hc⟩:=L.non;have i:=L.inn c hc;refine lace_ij (L.clo hl) λe he=>?_;have p:=L.pos (L.sub hl he);unfold mid;omega
theorem Lps.wp(hl:l∈Ls){i j:Nat}(hi:i∈pP (2*Y+4).toNat)(hj:j∈pP (8*X+16).toNat):∃c,inB X Y c/\Wp l ((i:Int)-2) ((j:Int)-7)=Wd l c:=by
 have:=pQ.mp hi;have:=pQ.mp hj;exact pt_cell (L.ok hl) (L.clo hl) (by lia) (by lia) (by lia) (by lia)
theorem Lps.pw{c:C3}(h:inB X Y c):∃i j:Nat,i∈pP (2*Y+4).toNat/\j∈pP (8*X+16).toNat/\(i:Int)-2=yp c/\(j:Int)-7=xk c:=by
 obtain⟨⟨h1,h2⟩,h3,h4⟩:=cell_pt h;exact⟨(yp c+2).toNat,(xk c+7).toNat,pQ.mpr (by omega),pQ.mpr (by omega),by lia,by lia⟩
theorem Lps.neg(hl:l∈Ls)(h0:c0∈P)(w:Wd l c0=0):lace l<0:=by
 have s:=L.lace2 hl;obtain⟨e,m,he⟩:=BH (L.ne l hl);have he:e∈l:=by rw[he];simp
 obtain⟨i,j,hi,hj,ei,ej⟩:=L.pw (L.rtB (L.sub hl he));have le:∀i,i∈pP (2*Y+4).toNat->∀j,j∈pP (8*X+16).toNat->Wp l ((i:Int)-2) ((j:Int)-7)<=0:=λi hi j hj=>by
  obtain⟨c,hc,e⟩:=L.wp hl hi hj;rw[e];have:=L.two hl h0 c hc;lia
 have a:=vE (f:=λi:Nat=>su (λj:Nat=>Wp l ((i:Int)-2) ((j:Int)-7)) (pP (8*X+16).toNat)) (λi hi=>Xv (le i hi)) hi;have b:=vE (le i hi) hj;rw[ei,ej] at b;have c:Wp l (yp (rtC e)) (xk (rtC e))=Wd l c0-1:=L.rt hl he h0;rw[ei] at a;omega
theorem Lps.posL(hl:l∈Ls)(h0:c0∈P)(w:Wd l c0=1):0<lace l:=by
 have s:=L.lace2 hl;have i0:=L.inn c0 h0;obtain⟨i,j,hi,hj,ei,ej⟩:=L.pw (c:=c0) ⟨by omega,by lia,by lia,by omega,i0.2.2.2.2⟩
 have le:∀i,i∈pP (2*Y+4).toNat->∀j,j∈pP (8*X+16).toNat-> -Wp l ((i:Int)-2) ((j:Int)-7)<=0:=λi hi j hj=>by
  obtain⟨c,hc,e⟩:=L.wp hl hi hj;rw[e];have:=L.two hl h0 c hc;lia
 have a:=vE (f:=λi:Nat=>su (λj:Nat=> -Wp l ((i:Int)-2) ((j:Int)-7)) (pP (8*X+16).toNat)) (λi hi=>Xv (le i hi)) hi;have b:=vE (le i hi) hj;rw[ei,ej] at b;have c:Wp l (yp c0) (xk c0)=Wd l c0:=rfl;rw[ei] at a;rw[zP λi _=>wN _ _,wN] at a;omega
end
theorem lift{α β:Type}{g:α->β}{S:α->Prop}:∀{l:List β},(∀y,y∈l->∃x,S x/\g x=y)->∃l':List α,l'.map g=l/\∀x,x∈l'->S x
 |[],_=>⟨[],rfl,λx hx=>by cases hx⟩
 |y::l,h=>by
  obtain⟨x,h1,h2⟩:=h y (by simp)
  obtain⟨l',h3,h4⟩:=lift (l:=l) λy hy=>h y (pE _ hy);refine⟨x::l',by rw[pR,h2,h3],λz hz=>?_⟩
  rcases pS.mp hz with e|e
  ·rw[e];exact h1
  ·exact h4 z e
theorem Chn.app{α:Type}:∀{l m:List (α×α)}{a b c:α},Chn a l b->Chn b m c->Chn a (l++m) c
 |[],m,a,b,c,h,h'=>by
  have h:a=b:=h;rw[h];exact h'
 |e::l,m,a,b,c,h,h'=>⟨h.1,Chn.app h.2 h'⟩
theorem YT{α:Type}(g:Nat->α):∀n,Chn (g 0) ((pP n).map λi=>(g i,g (i+1))) (g n)
 |0=>rfl
 |n+1=>by
  rw[QQ,uF];exact(YT g n).app ⟨rfl,rfl⟩
noncomputable def unE(a:Int×Int)(k:Fin 8)(m:Nat):List E2:=(pP (m+1)).map λj=>(att a k ((j:Nat):Int),att a k ((j+1:Nat):Int))
open Classical in
noncomputable def exW(es:List E2)(w:E2):List E2:=if h:∃p:Fin 8×Nat,Wy es w.1 w.2 p.1 p.2 then unE w.1 (choose h).1 (choose h).2 else[]
section
variable{es ws:List E2}{cs:List C3}
variable{a c:Int×Int}{k:Fin 8}{m:Nat}
theorem xn(h:Wy es a c k m):exW es (a,c)=unE a k m:=by
 have x:∃p:Fin 8×Nat,Wy es (a,c).1 (a,c).2 p.1 p.2:=⟨(k,m),h⟩;unfold exW;rw[dif_pos x];have w:=Classical.choose_spec x;have e1:=Wy.dir w h;have f1:=w.fin;rw[e1] at f1;have e2:=Xr (f1.symm.trans h.fin);rw[e1,show(GQ x).2=m by lia]
variable{e:E2}
theorem wt:e∈unE a k m↔∃j:Nat,j<=m/\e=(att a k j,att a k (j+1)):=by
 unfold unE;rw[pL]
 constructor
 ·rintro⟨j,hj,rfl⟩;have:=pQ.mp hj;exact⟨j,by lia,rfl⟩
 ·rintro⟨j,hj,rfl⟩;exact⟨j,pQ.mpr (by lia),rfl⟩
theorem un_nd(a:Int×Int)(k:Fin 8)(m:Nat):(unE a k m).Nodup:=by
 unfold unE;rw[pN,QM];refine Uz.imp λ{i j} h z=>?_;have:=Xr (congrArg CB z);omega
theorem un_chn(h:Wy es a c k m):Chn a (unE a k m) c:=by
 have:=YT (λj:Nat=>att a k (j:Int)) (m+1);rw[show((0:Nat):Int)=0 from rfl,xa,show((m+1:Nat):Int)=(m:Int)+1 by lia,←h.fin] at this
 exact this
def un_sub(h:Wy es a c k m)(he:e∈unE a k m):e∈es:=by
 obtain⟨j,hj,rfl⟩:=wt.mp he;exact h.mem j hj
def Zf{c:Int×Int}(he:e∈unE a k m):e.2=stp e.1 k:=by
 obtain⟨j,hj,rfl⟩:=wt.mp he;exact(xp a k j).symm
theorem un_lt{a' c':Int×Int}{m':Nat}(h:Wy es a c k m)(b:Bgn es a k)(h':Wy es a' c' k m'){j j':Nat}(hj':j'<=m')(e:att a k j=att a' k j')(z:j<j'):False:=by
 have ea:a=att a' k ((j'-j:Nat):Int):=by
  have:=congrArg (λx=>att x k (-(j:Int))) e;rw[xK,xK,show(j:Int)+ -(j:Int)=0 by lia,xa] at this
  rw[this]
  congr 1
  lia
 have e1:stp a (k+4)=att a' k ((j'-j-1:Nat):Int):=by
  rw[qv,ea,xK]
  congr 1
  omega
 have e2:att a' k (((j'-j-1:Nat):Int)+1)=a:=by
  rw[ea]
  congr 1
  lia
 refine b ⟨?_,?_⟩
 ·have:=h'.mem (j'-j-1) (by omega)
  rw[e2,←e1] at this;exact this
 ·have:=h'.str (j'-j-1) (by omega)
  rw[e2,←e1] at this;exact this
theorem un_one(W:Wys es ws){w w':E2}(hw:w∈ws)(hw':w'∈ws)(he:e∈exW es w)(he':e∈exW es w'):w=w':=by
 obtain⟨k,m,y,b⟩:=W.of w hw;obtain⟨k',m',y',b'⟩:=W.of w' hw';obtain⟨a,c⟩:=w;obtain⟨a',c'⟩:=w';dsimp only at y b y' b';rw[xn y] at he;rw[xn y'] at he';have ek:k=k':=qx ((Zf (c:=c) he).symm.trans (Zf (c:=c') he'));subst ek;obtain⟨j,hj,rfl⟩:=wt.mp he;obtain⟨j',hj',e⟩:=wt.mp he';have e:=congrArg CB e;dsimp only at e;rcases Br j j' with z|z|z
 ·exact(un_lt y b y' hj' e z).elim
 ·subst z;have ea:a=a':=by
   have:=congrArg (λx=>att x k (-(j:Int))) e;rw[xK,xK,show(j:Int)+ -(j:Int)=0 by lia,xa,xa] at this
   exact this
  subst ea;rw[y.one y']
 ·exact(un_lt y' b' y hj e.symm z).elim
theorem Wys.cover(W:Wys es ws){b:Int×Int}(hb:(b,stp b k)∈es):∃w,w∈ws/\(b,stp b k)∈exW es w:=by
 have back:∀n:Nat,(∃j:Nat,j<=n/\Bgn es (att b k (-(j:Int))) k/\(att b k (-(j:Int)),att b k (-(j:Int)+1))∈es/\∀i:Nat,i<j->str es (att b k (-(i:Int)-1)) (att b k (-(i:Int)))=true)∨((∀i:Nat,i<=n+1->(att b k (-(i:Int)),att b k (-(i:Int)+1))∈es)/\∀i:Nat,i<=n->str es (att b k (-(i:Int)-1)) (att b k (-(i:Int)))=true):=λn=>by
  have one:∀i:Nat,¬Bgn es (att b k (-(i:Int))) k->(att b k (-((i+1:Nat):Int)),att b k (-((i+1:Nat):Int)+1))∈es/\str es (att b k (-(i:Int)-1)) (att b k (-(i:Int)))=true:=λi h=>by
   unfold Bgn at h;have h:=Classical.not_not.mp h;have e:stp (att b k (-(i:Int))) (k+4)=att b k (-(i:Int)-1):=by
    rw[qv,xK];rfl
   rw[e] at h;refine⟨?_,h.2⟩;rw[show-((i+1:Nat):Int)= -(i:Int)-1 by lia,show-(i:Int)-1+1= -(i:Int) by lia]
   exact h.1
  have h00:(att b k (-((0:Nat):Int)),att b k (-((0:Nat):Int)+1))∈es:=by
   rw[show-((0:Nat):Int)=0 from rfl,QY,xa,xX];exact hb
  induction n with
  |zero=>
   by_cases c:Bgn es (att b k (-((0:Nat):Int))) k
   ·exact .inl ⟨0,pG _,c,h00,λi hi=>by lia⟩
   ·obtain⟨o1,o2⟩:=one 0 c;refine .inr ⟨λi hi=>?_,λi hi=>?_⟩
    ·rcases(by lia:i=0∨i=1) with rfl|rfl
     ·exact h00
     ·exact o1
    ·have:i=0:=by lia
     rw[this];exact o2
  |succ n ih=>
   rcases ih with⟨j,h1,h2⟩|⟨h1,h2⟩
   ·exact .inl ⟨j,by lia,h2⟩
   ·by_cases c:Bgn es (att b k (-((n+1:Nat):Int))) k
    ·exact .inl ⟨n+1,pG _,c,h1 (n+1) (pG _),λi hi=>h2 i (by lia)⟩
    ·obtain⟨o1,o2⟩:=one (n+1) c;refine .inr ⟨λi hi=>?_,λi hi=>?_⟩
     ·rcases(by lia:i<=n+1∨i=n+1+1) with z|z
      ·exact h1 i z
      ·rw[z];exact o1
     ·rcases(by lia:i<=n∨i=n+1) with z|z
      ·exact h2 i z
      ·rw[z];exact o2
 rcases back es.length with⟨j,_,bg,hm,st⟩|⟨h,_⟩
 ·have e0:att b k (-(j:Int)+1)=stp (att b k (-(j:Int))) k:=(xp _ _ _).symm;rw[e0] at hm;obtain⟨c,m,hc,y⟩:=W.all _ k hm bg;refine⟨_,hc,?_⟩;rw[xn y,wt];have e1:∀i:Int,att (att b k (-(j:Int))) k i=att b k (i-j):=λi=>by
   rw[xK]
   congr 1
   lia
  refine⟨j,?_,?_⟩
  ·rcases AH m j with z|z
   ·exfalso
    have s1:=st (j-m-1) (by lia)
    have s2:=y.stop;rw[e1,e1,show(m:Int)-j= -((j-m-1:Nat):Int)-1 by lia,show(m:Int)+1-j= -((j-m-1:Nat):Int) by lia,s1] at s2
    cases s2
   ·exact z
  ·rw[e1,e1,CD,xa,show(j:Int)+1-j=1 by lia,xX]
 ·exfalso
  have nd:((pP (es.length+1)).map λi:Nat=>(att b k (-(i:Int)),att b k (-(i:Int)+1))).Nodup:=by
   rw[pN,QM];refine Uz.imp λ{i j} h z=>?_;have:=Xr (congrArg CB z);lia
  have:=vV _ es nd λe he=>by
   obtain⟨i,hi,rfl⟩:=pL.mp he;have:=pQ.mp hi;exact h i (by lia)
  rw[pC,uS] at this;lia
def W5(W:Wys es ws){w:E2}(hw:w∈ws)(he:e∈exW es w):e∈es:=by
 obtain⟨k,m,y,b⟩:=W.of w hw;have:exW es w=unE w.1 k m:=xn y;rw[this] at he;exact un_sub y he
def zb7(E:Edg cs es)(nd:es.Nodup)(W:Wys es ws):(ws.flatMap (exW es)).Perm es:=by
 refine(Qz ?_ nd).mpr λe=>⟨λhe=>?_,λhe=>?_⟩
 ·rw[pN,gc,Ud];refine⟨λl hl=>?_,?_⟩
  ·obtain⟨w,hw,rfl⟩:=pL.mp hl;obtain⟨k,m,y,b⟩:=W.of w hw;have:exW es w=unE w.1 k m:=xn y;rw[this];exact pN.mp (un_nd _ _ _)
  ·rw[QM];exact(pN.mp W.nd).imp_of_mem λ{w w'} hw hw' n e he e' he' z=>n (un_one W hw hw' he (by rw[z];exact he'))
 ·obtain⟨w,hw,h⟩:=QC.mp he;exact W5 W hw h
 ·obtain⟨k,hk⟩:=E.ray he;have e':e=(e.1,stp e.1 k):=Qg rfl hk;rw[e'] at he⊢;obtain⟨w,hw,h⟩:=W.cover he;exact QC.mpr ⟨w,hw,h⟩
end
section
variable{f:Fr}{es ws:List E2}{cs:List C3}
theorem XG(E:Edg cs es){a c:Int×Int}{k:Fin 8}{m:Nat}(y:Wy es a c k m):∀j:Nat,j<=m->Cn (λc=>c∈cs) (lfC (att a k j,att a k (j+1))) (lfC (a,stp a k))
 |0,_=>by
  show Cn _ (lfC (att a k 0,att a k (0+1))) _
  rw[QY,xa,xX]
  exact .refl (E.lf y.first).1
 |j+1,hj=>by
  have ih:=XG E y j (by lia)
  have m1:=y.mem j (by lia)
  have m2:=y.mem (j+1) hj;have s:=y.str j (by lia)
  rw[←xp] at m1 s ih;rw[show((j+1:Nat):Int)=(j:Int)+1 by lia,←xp a k ((j:Int)+1),←xp a k (j:Int)] at m2⊢
  exact(E.over m1 m2 λj' o=>by rw[Yp s (E.out.mpr o)];exact pG _).trans ih
def AtP(f:Fr)(es ws:List E2)(P:List C3)(x:Q3×Q3):Prop:=∃w,w∈ws/\x=tdF f w/\∀e,e∈exW es w->lfC e∈P
variable{Ps:List (List C3)}
def JW(E:Edg cs es)(pr:Prt (λc=>c∈cs) Ps)(v:∀c,c∈cs->vq c){P:List C3}(hP:P∈Ps){a c:Int×Int}{k:Fin 8}{m:Nat}(y:Wy es a c k m)(h:lfC (a,stp a k)∈P):∀e,e∈exW es (a,c)->lfC e∈P:=λe he=>by
 rw[xn y] at he;obtain⟨j,hj,rfl⟩:=wt.mp he;exact pr.cn hP ((XG E y j hj).symm v) h
def atP_ex(E:Edg cs es)(W:Wys es ws)(pr:Prt (λc=>c∈cs) Ps)(v:∀c,c∈cs->vq c){w:E2}(hw:w∈ws):∃P,P∈Ps/\AtP f es ws P (tdF f w):=by
 obtain⟨k,m,y,b⟩:=W.of w hw
 obtain⟨P,hP,h⟩:=(pr.all _).mp (E.lf y.first).1
 exact⟨P,hP,w,hw,rfl,JW E pr v hP y h⟩
def atP_suc(w0:0<f.w)(d0:0<fd2 f)(E:Edg cs es)(W:Wys es ws)(pr:Prt (λc=>c∈cs) Ps)(v:∀c,c∈cs->vq c){P:List C3}(hP:P∈Ps){x:Q3×Q3}(h:AtP f es ws P x):AtP f es ws P (suc (ws.map (tdF f)) x):=by
 obtain⟨w,hw,rfl,h⟩:=h;obtain⟨a,c⟩:=w;obtain⟨k,m,y,b⟩:=W.of _ hw;dsimp only at y b;obtain⟨d,j,n,hd,y',fr,mn⟩:=XN w0 d0 E W y;refine⟨(c,d),hd,?_,JW E pr v hP y' ?_⟩
 ·show(PF f c,jQ (PF f c) (PF f a) (leav (ws.map (tdF f)) (PF f c)))=_
  rw[fr];rfl
 ·have fin:=y.fin;rw[←xp] at fin;have m1:=y.mem m (pG _);have l1:lfC (att a k (m:Int),att a k ((m:Int)+1))∈P:=h _ (by rw[xn y,wt];exact⟨m,pG _,rfl⟩)
  rw[←xp] at m1 l1
  have y1:=y'.first
  rw[fin] at y1 mn⊢;exact pr.cn hP ((E.over m1 y1 mn).symm v) l1
theorem zcy(w0:0<f.w)(d0:0<fd2 f)(E:Edg cs es)(W:Wys es ws){Ps:List (List C3)}(pr:Prt (λc=>c∈cs) Ps)(v:∀c,c∈cs->vq c){P:List C3}(hP:P∈Ps){x:Q3×Q3}(h:AtP f es ws P x):∀n,AtP f es ws P (itr (ws.map (tdF f)) x n)
 |0=>h
 |n+1=>atP_suc w0 d0 E W pr v hP (zcy w0 d0 E W pr v hP h n)
theorem zev(w0:0<f.w)(d0:0<fd2 f)(E:Edg cs es)(W:Wys es ws)(pr:Prt (λc=>c∈cs) Ps)(v:∀c,c∈cs->vq c){i:Nat}{qs:List (List Q3)}{gl:List (Q3×Q3)}(h:Run (ws.map (tdF f)) i qs gl):∀q,q∈qs->∃P,P∈Ps/\∀x,x∈sds q->AtP f es ws P x:=by
 have F:=XY w0 d0 E W
 induction h with
 |nil=>exact λq hq=>by cases hq
 |skip r e1 m ih=>exact ih
 |@go i qs gl e t r e1 m c n ih=>
  intro q hq;rcases pd.mp hq with z|z
  ·exact ih q z
  ·have he:=pX e1;obtain⟨d1,d2⟩:=(zdh F he t n).done F he c;obtain⟨w,hw,rfl⟩:=pL.mp he;obtain⟨P,hP,a⟩:=atP_ex (f:=f) E W pr v hw;refine⟨P,hP,λx hx=>?_⟩;obtain⟨i,_,rfl⟩:=pL.mp (d2.mem_iff.mp (YI z hx));exact zcy w0 d0 E W pr v hP a i
def zh2(w0:0<f.w)(d0:0<fd2 f)(E:Edg cs es)(W:Wys es ws)(pr:Prt (λc=>c∈cs) Ps)(v:∀c,c∈cs->vq c){g:Int}{os:List (List Q3)}(td:Told (ws.map (tdF f)) g os){q:List Q3}(hq:q∈os):∃P,P∈Ps/\∀x,x∈sds q->AtP f es ws P x:=by
 obtain⟨qs,gl,c,run,nd,lc,can,pm⟩:=td.run;obtain⟨j,hj⟩:=Ql.mp (pm.mem_iff.mp hq);have hj':j<qs.length:=by rw[←lc];exact(pF.mp hj).1
 have z:=pJ hj';obtain⟨P,hP,h⟩:=zev w0 d0 E W pr v run _ (UJ hj');exact⟨P,hP,λx hx=>h x ((can j q _ hj z).sds.mp hx)⟩
theorem zcm(w0:0<f.w)(d0:0<fd2 f):∀{wl:List E2}{a:Int×Int}{x:Q3},Chn (PF f a) (wl.map (tdF f)) x->∃b,x=PF f b/\Chn a wl b
 |[],a,x,h=>⟨a,(show PF f a=x from h).symm,rfl⟩
 |w::wl,a,x,h=>by
  obtain⟨h1,h2⟩:=h;obtain⟨b,e,c⟩:=zcm w0 d0 (wl:=wl) h2;exact⟨b,e,wC w0 d0 h1,c⟩
variable{wl:List E2}
theorem rg_chn(w0:0<f.w)(d0:0<fd2 f){q:List Q3}(h:wl.map (tdF f)=sds q)(l:0<q.length):∃a,Chn a wl a:=by
 have c:Chn (nx q 0) (sds q) (nx q q.length):=YT (nx q) q.length;have e:nx q q.length=nx q 0:=Ye q 0;rw[e,←h] at c
 cases wl with
 |nil=>
  have:=congrArg Bd h;rw[qy] at this;simp only[QF,Uj] at this;lia
 |cons w wl=>
  have e1:PF f w.1=nx q 0:=c.1;rw[←e1] at c;obtain⟨b,e2,c2⟩:=zcm w0 d0 c;rw[←wC w0 d0 e2] at c2;exact⟨_,c2⟩
def rg_one{q:List Q3}(w0:0<f.w)(d0:0<fd2 f)(h:wl.map (tdF f)=sds q)(nd:q.Nodup){w w':E2}(hw:w∈wl)(hw':w'∈wl)(e:w.1=w'.1):w=w':=by
 have m1:tdF f w∈sds q:=by rw[←h];exact pL.mpr ⟨w,hw,rfl⟩
 have m2:tdF f w'∈sds q:=by rw[←h];exact pL.mpr ⟨w',hw',rfl⟩
 obtain⟨i,hi,e1⟩:=pL.mp m1;obtain⟨j,hj,e2⟩:=pL.mp m2;have hi:=pQ.mp hi;have hj:=pQ.mp hj;have x1:nx q i=PF f w.1:=congrArg CB e1;have x2:nx q j=PF f w'.1:=congrArg CB e2;have:=zcx nd hi hj (by rw[x1,x2,e])
 subst this;exact j6 w0 d0 (e1.symm.trans e2)
noncomputable def lpW(es wl:List E2):List E2:=wl.flatMap (exW es)
theorem zad(W:Wys es ws):∀{wl:List E2}{a b:Int×Int},(∀w,w∈wl->w∈ws)->Chn a wl b->Chn a (lpW es wl) b
 |[],a,b,_,h=>h
 |w::wl,a,b,s,h=>by
  obtain⟨k,m,y,_⟩:=W.of w (s w (by simp))
  have e:exW es w=unE w.1 k m:=xn y;have c:=un_chn y;rw[←e,h.1] at c;show Chn a (exW es w++lpW es wl) b;exact c.app (zad W (λw hw=>s w (pE _ hw)) h.2)
theorem lp_one(E:Edg cs es)(W:Wys es ws)(s:∀w,w∈wl->w∈ws)(o:∀w w',w∈wl->w'∈wl->w.1=w'.1->w=w'){e e':E2}(he:e∈lpW es wl)(he':e'∈lpW es wl)(h:e.1=e'.1):e=e':=by
 obtain⟨w,hw,m1⟩:=QC.mp he;obtain⟨w',hw',m2⟩:=QC.mp he';obtain⟨k,m,y,_⟩:=W.of w (s w hw);obtain⟨k',m',y',_⟩:=W.of w' (s w' hw');obtain⟨a,c⟩:=w;obtain⟨a',c'⟩:=w';dsimp only at y y';have n1:=W5 W (s _ hw) m1;have n2:=W5 W (s _ hw') m2;rw[xn y] at m1;rw[xn y'] at m2;obtain⟨j,hj,rfl⟩:=wt.mp m1;obtain⟨j',hj',rfl⟩:=wt.mp m2;have inn:∀{a c:Int×Int}{k:Fin 8}{m:Nat}(_:Wy es a c k m){j:Nat},j<m->∀{e:E2},e∈es->e.1=att a k ((j:Int)+1)->e=(att a k ((j:Int)+1),att a k ((j:Int)+1+1)):=λ{a c k m} y{j} hj{e} he h=>by
  have st:=y.str j hj;obtain⟨i,hi⟩:=E.ray he;have e':e=(e.1,stp e.1 i):=Qg rfl hi;rw[h] at e';rw[e'] at he;rw[←xp a k (j:Int)] at st he;have:=Yp st he;rw[this] at e';rw[e',xp]
 cases j with
 |succ j=>
  have:=inn y (j:=j) (by lia) n2 (by rw[←h];rfl)
  exact this.symm
 |zero=>
  cases j' with
  |succ j'=>exact inn y' (j:=j') (by lia) n1 (by rw[h];rfl)
  |zero=>
   have ea:a=a':=by
    have h:att a k ((0:Nat):Int)=att a' k' ((0:Nat):Int):=h;rw[show((0:Nat):Int)=0 from rfl,xa,xa] at h;exact h
   have:=o _ _ hw hw' ea
   cases this;have ek:=Wy.dir y y';subst ek;rfl
end
theorem crs_stp(p:Int×Int)(k:Fin 8):crs (p,stp p k)=p.1*(dv k).2-(dv k).1*p.2:=by
 unfold crs stp;dsimp only;rw[Ae,Ad];lia
theorem crs_att(a:Int×Int)(k:Fin 8)(j:Int):crs (att a k j,att a k (j+1))=a.1*(dv k).2-(dv k).1*a.2:=by
 rw[←xp,crs_stp];unfold att;dsimp only;rw[Ad,Ae,BV,DW (dv k).1 j];lia
theorem crs_far(a:Int×Int)(k:Fin 8)(j:Int):crs (a,att a k j)=j*(a.1*(dv k).2-(dv k).1*a.2):=by
 unfold crs att;dsimp only;rw[Ae,Ad,DX,DW a.1 j,BV];lia
theorem su_un(a:Int×Int)(k:Fin 8):∀n:Nat,su crs ((pP n).map λj=>(att a k ((j:Nat):Int),att a k ((j+1:Nat):Int)))=n*(a.1*(dv k).2-(dv k).1*a.2)
 |0=>(UU _).symm
 |n+1=>by
  rw[QQ,uF,xP,su_un a k n];show _+(crs (att a k (n:Int),att a k ((n:Int)+1))+0)=_;rw[crs_att,show((n+1:Nat):Int)=(n:Int)+1 by lia,Ad,CY,UH]
section
variable{f:Fr}{es ws:List E2}{cs:List C3}
theorem su_way(W:Wys es ws){w:E2}(hw:w∈ws):su crs (exW es w)=crs w:=by
 obtain⟨k,m,y,b⟩:=W.of w hw;have e:exW es w=unE w.1 k m:=xn y;rw[e];unfold unE;rw[su_un];have:crs w=crs (w.1,w.2):=rfl;rw[this,y.fin,crs_far,show((m+1:Nat):Int)=(m:Int)+1 by lia]
theorem su_lp(W:Wys es ws):∀{wl:List E2},(∀w,w∈wl->w∈ws)->lace (lpW es wl)=su crs wl
 |[],_=>rfl
 |w::wl,s=>by
  show su crs (exW es w++lpW es wl)=crs w+su crs wl
  rw[xP,su_way W (s w (by simp))]
  have:=su_lp W (wl:=wl) λw hw=>s w (pE _ hw);unfold lace at this;rw[this]
noncomputable def zF(c:C3):List E2:=(yx c).map λp=>(p.1,stp p.1 p.2)
def xS{c:C3}{e:E2}:e∈zF c↔∃a k,(a,k)∈yx c/\e=(a,stp a k):=by
 unfold zF;rw[pL];exact⟨λ⟨p,h1,h2⟩=>⟨p.1,p.2,h1,h2.symm⟩,λ⟨a,k,h1,h2⟩=>⟨(a,k),h1,h2.symm⟩⟩
theorem zh9{c:C3}(h:vq c):(zF c).Nodup:=by
 have n3:∀a b c:(Int×Int)×Fin 8,a.1≠b.1->a.1≠c.1->b.1≠c.1->([a,b,c].map λp=>(p.1,stp p.1 p.2)).Nodup:=λa b c h1 h2 h3=>by
  simp only[pR,QF,List.nodup_cons,pS,Qe,or_false,not_or,Uw,and_true,QZ,not_false_eq_true];exact⟨⟨λz=>h1 z.1,λz=>h2 z.1⟩,λz=>h3 z.1⟩
 have ne:∀{a b c d:Int},a≠c∨b≠d->(a,b)≠(c,d):=λh z=>by
  injection z with z1 z2
  lia
 obtain⟨x,y,h⟩:=vq4 h;rcases h with rfl|rfl|rfl|rfl
 ·exact n3 ((2*x,2*y),0) ((2*x+2,2*y),3) ((2*x+1,2*y+1),5) (ne (by lia)) (ne (by lia)) (ne (by lia))
 ·exact n3 ((2*x+2,2*y),2) ((2*x+2,2*y+2),5) ((2*x+1,2*y+1),7) (ne (by lia)) (ne (by lia)) (ne (by lia))
 ·exact n3 ((2*x+2,2*y+2),4) ((2*x,2*y+2),7) ((2*x+1,2*y+1),1) (ne (by lia)) (ne (by lia)) (ne (by lia))
 ·exact n3 ((2*x,2*y+2),6) ((2*x,2*y),1) ((2*x+1,2*y+1),3) (ne (by lia)) (ne (by lia)) (ne (by lia))
def zbd(v:∀c,c∈cs->vq c)(nd:cs.Nodup):(cs.flatMap zF).Nodup:=by
 rw[pN,gc,Ud];refine⟨λl hl=>?_,?_⟩
 ·obtain⟨c,hc,rfl⟩:=pL.mp hl;exact pN.mp (zh9 (v c hc))
 ·rw[QM];refine(pN.mp nd).imp λ{c d} n e he e' he' z=>n ?_;obtain⟨a,k,h1,rfl⟩:=xS.mp he;obtain⟨a',k',h2,rfl⟩:=xS.mp he'
  injection z with z1 z2
  subst z1;have:=qx z2;subst this;rw[←(Yf h1).2,(Yf h2).2]
def jC(p:α->Bool){l:List α}(h:l.Nodup):(l.filter p).Nodup:=pN.mpr ((pN.mp h).filter p)
theorem X6{α:Type}(g:α->Int)(p:α->Bool):∀l:List α,su g l=su g (l.filter p)+su g (l.filter λx=> !p x)
 |[]=>rfl
 |x::l=>by
  have ih:=X6 g p l;show g x+su g l=_;rw[QX,QX]
  cases h:p x
  ·show _=su g (l.filter p)+(g x+su g (l.filter λx=> !p x))
   lia
  ·show _=g x+su g (l.filter p)+su g (l.filter λx=> !p x)
   lia
end
theorem zcj{α β:Type}(g:α->List β):∀W:List (List α),(W.map λwl=>wl.flatMap g).flatten=W.flatten.flatMap g
 |[]=>rfl
 |w::W=>by rw[pR,Aw,Aw,gT,zcj g W]
structure All(X Y:Int)(f:Fr)(cs:List C3)(es ws:List E2)(Ps:List (List C3))(Wl:List (List E2)):Prop where
 w0:0<f.w
 d0:0<fd2 f
 E:Edg cs es
 nd:es.Nodup
 W:Wys es ws
 pr:Prt (λc=>c∈cs) Ps
 ndc:cs.Nodup
 inn:∀c,c∈cs->0<=c.1/\c.1<X/\0<=c.2.1/\c.2.1<Y/\vq c
 td:∃g os,Told (ws.map (tdF f)) g os/\Wl.map (DJ (tdF f))=os.map sds
 sub:∀wl,wl∈Wl->∀w,w∈wl->w∈ws
section
variable{X Y:Int}{f:Fr}{cs:List C3}{es ws:List E2}{Ps:List (List C3)}{Wl:List (List E2)}(A:All X Y f cs es ws Ps Wl)
include A
theorem All.v:∀c,c∈cs->vq c:=λc hc=>(A.inn c hc).2.2.2.2
theorem All.ring{wl:List E2}(h:wl∈Wl):∃q,q.Nodup/\3<=q.length/\wl.map (tdF f)=sds q/\∃P,P∈Ps/\∀x,x∈sds q->AtP f es ws P x:=by
 obtain⟨g,os,td,e⟩:=A.td;have:wl.map (tdF f)∈os.map sds:=by rw[←e];exact pL.mpr ⟨wl,h,rfl⟩
 obtain⟨q,hq,e⟩:=pL.mp this;exact⟨q,(td.rg q hq).1,(td.rg q hq).2,e.symm,zh2 A.w0 A.d0 A.E A.W A.pr A.v td hq⟩
theorem All.pmw:Wl.flatten.Perm ws:=by
 obtain⟨g,os,td,e⟩:=A.td;have F:=XY A.w0 A.d0 A.E A.W;have e2:Wl.flatten.map (tdF f)=os.flatMap sds:=by
  rw[List.map_flatten,e,gc]
 have p:(Wl.flatten.map (tdF f)).Perm (ws.map (tdF f)):=by rw[e2];exact td.pm
 refine(Qz (WR (p.nodup_iff.mpr F.nd)) A.W.nd).mpr λw=>⟨λh=>?_,λh=>?_⟩
 ·obtain⟨wl,h1,h2⟩:=Uq.mp h;exact A.sub wl h1 w h2
 ·obtain⟨w',h1,h2⟩:=pL.mp (p.mem_iff.mpr (pL.mpr ⟨w,h,rfl⟩));rw[←j6 A.w0 A.d0 h2];exact h1
theorem All.pm:(Wl.map (lpW es)).flatten.Perm es:=by
 have e:(Wl.map (lpW es)).flatten=Wl.flatten.flatMap (exW es):=zcj (exW es) Wl;rw[e];exact(A.pmw.flatMap_right _).trans (zb7 A.E A.nd A.W)
theorem All.loop{l:List E2}(h:l∈Wl.map (lpW es)):l≠[]/\(∃a,Chn a l a)/\(∀e e',e∈l->e'∈l->e.1=e'.1->e=e')/\∃P,P∈Ps/\∀e,e∈l->lfC e∈P:=by
 obtain⟨wl,hw,rfl⟩:=pL.mp h;obtain⟨q,q1,q2,q3,P,hP,q4⟩:=A.ring hw;have s:=A.sub wl hw;refine⟨λz=>?_,?_,λe e' he he'=>lp_one A.E A.W s (λw w' h1 h2=>rg_one A.w0 A.d0 q3 q1 h1 h2) he he',P,hP,λe he=>?_⟩
 ·cases wl with
  |nil=>
   have:=congrArg Bd q3;rw[qy] at this;simp only[QF,Uj] at this;lia
  |cons w wl=>
   obtain⟨k,m,y,_⟩:=A.W.of w (s w (by simp))
   have e:exW es w=unE w.1 k m:=xn y;have:exW es w++lpW es wl=[]:=z;rw[e] at this;have:=congrArg Bd this;unfold unE at this;rw[pK,pC,uS] at this;simp only[Uj] at this;lia
 ·obtain⟨a,c⟩:=rg_chn A.w0 A.d0 q3 (by lia)
  exact⟨a,zad A.W s c⟩
 ·obtain⟨w,h1,h2⟩:=QC.mp he;obtain⟨w',h3,h4,h5⟩:=q4 (tdF f w) (by rw[←q3];exact pL.mpr ⟨w,h1,rfl⟩)
  rw[j6 A.w0 A.d0 h4] at h2;exact h5 e h2
theorem All.ndL:(Wl.map (lpW es)).Nodup/\(∀l,l∈Wl.map (lpW es)->l.Nodup)/\(Wl.map (lpW es)).Pairwise λl l'=>∀x,x∈l->∀y,y∈l'->x≠y:=by
 have:=pN.mp (A.pm.nodup_iff.mpr A.nd);rw[Ud] at this;refine⟨pN.mpr (this.2.imp_of_mem λ{p q} hp hq d z=>?_),λl hl=>pN.mpr (this.1 l hl),this.2⟩;obtain⟨x,l,e⟩:=BH (A.loop hp).1;have hx:x∈p:=by rw[e];simp
 exact d x hx x (by rw[←z];exact hx) rfl
end
noncomputable def lpP(Ls:List (List E2))(P:List C3):List (List E2):=Ls.filter λl=>decide (∀e,e∈l->lfC e∈P)
section
variable{X Y:Int}{f:Fr}{cs:List C3}{es ws:List E2}{Ps:List (List C3)}{Wl:List (List E2)}(A:All X Y f cs es ws Ps Wl)
include A
theorem xV{Ls:List (List E2)}{P:List C3}{l:List E2}:l∈lpP Ls P↔l∈Ls/\∀e,e∈l->lfC e∈P:=by
 unfold lpP;rw[pg,decide_eq_true_iff]
theorem All.sP{P:List C3}(hP:P∈Ps){c:C3}(hc:c∈P):c∈cs:=(A.pr.all c).mpr ⟨P,hP,hc⟩
theorem All.lps{P:List C3}(hP:P∈Ps):Lps X Y P (es.filter λe=>decide (lfC e∈P)) (lpP (Wl.map (lpW es)) P):=by
 have eM:∀e,e∈es.filter (λe=>decide (lfC e∈P))↔e∈es/\lfC e∈P:=λe=>by rw[pg,decide_eq_true_iff]
 have L:=A.ndL;refine⟨λe=>?_,jC _ A.nd,?_,λl hl=>(A.loop ((xV A).mp hl).1).1,λl hl=>(A.loop ((xV A).mp hl).1).2.1,λl hl=>(A.loop ((xV A).mp hl).1).2.2.1,λc hc=>A.inn c (A.sP hP hc),λc d hc hd=>A.pr.conI hP hc hd,A.pr.ne P hP⟩
 ·rw[eM]
  constructor
  ·rintro⟨h1,h2⟩;obtain⟨a,k,rfl,o,i1,i2⟩:=A.E.of h1;rw[yH] at h2;exact⟨jX.mpr ⟨o,h2⟩,λz=>i2 (A.sP hP (jz.mp z).2)⟩
  ·rintro⟨h1,h2⟩;obtain⟨c,hc,a,k,hm,rfl⟩:=h1;obtain⟨o,rfl⟩:=Yf hm;rw[yH];refine⟨A.E.at.mpr ⟨o,A.sP hP hc,λz=>h2 (jz.mpr ⟨o,A.pr.sep P hP _ _ hc z (Xy o)⟩)⟩,hc⟩
 ·refine(Qz ?_ (jC _ A.nd)).mpr λe=>?_
  ·rw[pN,Ud];refine⟨λl hl=>pN.mp (L.2.1 l ((xV A).mp hl).1),?_⟩;exact L.2.2.filter _
  ·rw[eM,List.mem_flatten]
   constructor
   ·rintro⟨l,hl,he⟩;obtain⟨h1,h2⟩:=(xV A).mp hl;exact⟨A.pm.mem_iff.mp (Uq.mpr ⟨l,h1,he⟩),h2 e he⟩
   ·rintro⟨h1,h2⟩;obtain⟨l,hl,he⟩:=Uq.mp (A.pm.mem_iff.mpr h1);refine⟨l,(xV A).mpr ⟨hl,?_⟩,he⟩;obtain⟨P',hP',q⟩:=(A.loop hl).2.2.2;rw[A.pr.one hP hP' h2 (q e he)];exact q
end
noncomputable def yh(X Y:Nat):List C3:=(pP (X+2)).flatMap λi=>(pP (Y+2)).flatMap λj=>(pP 4).map λq=>(((i:Nat):Int)-1,((j:Nat):Int)-1,((q:Nat):Int))
theorem wY{X Y:Nat}{c:C3}:c∈yh X Y↔inB X Y c:=by
 unfold yh;rw[QC]
 constructor
 ·rintro⟨i,hi,h⟩;obtain⟨j,hj,h⟩:=QC.mp h;obtain⟨q,hq,rfl⟩:=pL.mp h;have:=pQ.mp hi;have:=pQ.mp hj;have:=pQ.mp hq;exact⟨by dsimp only;lia,by dsimp only;lia,by dsimp only;lia,by dsimp only;lia,by dsimp only;lia,by dsimp only;lia⟩
 ·rintro⟨h1,h2,h3,h4,h5,h6⟩;obtain⟨x,y,q⟩:=c;dsimp only at h1 h2 h3 h4 h5 h6;refine⟨(x+1).toNat,pQ.mpr (by lia),QC.mpr ⟨(y+1).toNat,pQ.mpr (by lia),pL.mpr ⟨q.toNat,pQ.mpr (by lia),?_⟩⟩⟩
  exact zB (by lia) (by lia) (by lia)
theorem zbx(X Y:Nat):(yh X Y).Nodup:=by
 unfold yh;rw[pN,gc,Ud];refine⟨λl hl=>?_,?_⟩
 ·obtain⟨i,_,rfl⟩:=pL.mp hl;rw[gc,Ud];refine⟨λl hl=>?_,?_⟩
  ·obtain⟨j,_,rfl⟩:=pL.mp hl;rw[QM];refine Uz.imp λ{a b} h z=>?_
   injection z with _ z
   injection z with _ z
   lia
  ·rw[QM];refine Uz.imp λ{a b} h x hx y hy z=>?_;obtain⟨q,_,rfl⟩:=pL.mp hx;obtain⟨q',_,rfl⟩:=pL.mp hy
   injection z with _ z
   injection z with z _
   lia
 ·rw[QM];refine Uz.imp λ{a b} h x hx y hy z=>?_;obtain⟨j,_,hx⟩:=QC.mp hx;obtain⟨j',_,hy⟩:=QC.mp hy;obtain⟨q,_,rfl⟩:=pL.mp hx;obtain⟨q',_,rfl⟩:=pL.mp hy
  injection z with z _
  lia
theorem Wi{α β:Type}(g:β->Int)(h:α->List β):∀l:List α,su g (l.flatMap h)=su (λa=>su g (h a)) l
 |[]=>rfl
 |a::l=>by rw[Qt,xP,Wi g h l];rfl
theorem ZE{F:E2->Int}{s:List E2}(nd:s.Nodup):∀{l:List E2},(∀e,e∈l->e∈s)->su (λe=>ct e l*F e) s=su F l
 |[],_=>by
  rw[zP (g:=λ_=>0) λe _=>by show(0:Int)*F e=0;rw[UU],wj]
  rfl
 |x::l,h=>by
  have ih:=ZE (F:=F) nd (l:=l) λe he=>h e (pE _ he);have one:∀{s:List E2},s.Nodup->x∈s->su (λe=>(if x=e then(1:Int) else 0)*F e) s=F x:=λ{s}=>by
   induction s with
   |nil=>exact λ_ z=>by cases z
   |cons y s ih=>
    intro nd hx;obtain⟨n1,n2⟩:=US.mp nd;show(if x=y then(1:Int) else 0)*F y+su _ s=F x
    by_cases c:x=y
    ·subst c;rw[if_pos rfl,CY,zP (g:=λ_=>0) λe he=>by rw[if_neg (λz=>n1 (by rw[z];exact he)),UU],wj,UH]
    ·rw[if_neg c,UU,ih n2 ((pS.mp hx).resolve_left c),QY]
  show su (λe=>((if x=e then(1:Int) else 0)+ct e l)*F e) s=F x+su F l
  rw[zP λe _=>Ad _ _ _,Ya,ih,one nd (h x (by simp))]
theorem adj_sq{c:C3}(v:vq c)(h:d∈nbs c){X Y:Int}(b:inB X Y c)(n:¬inB X Y d):c.1= -1∨c.1=X∨c.2.1= -1∨c.2.1=Y:=by
 have vd:=nb_vq v h;obtain⟨b1,b2,b3,b4,_⟩:=b;obtain⟨x,y,e⟩:=vq4 v;refine QK λz=>n ?_;rcases e with rfl|rfl|rfl|rfl
 ·rw[nbs0,mem3] at h;dsimp only at*;rcases h with rfl|rfl|rfl<;>exact⟨by dsimp only;lia,by dsimp only;lia,by dsimp only;lia,by dsimp only;lia,vd⟩
 ·rw[nbs1,mem3] at h;dsimp only at*;rcases h with rfl|rfl|rfl<;>exact⟨by dsimp only;lia,by dsimp only;lia,by dsimp only;lia,by dsimp only;lia,vd⟩
 ·rw[nbs2,mem3] at h;dsimp only at*;rcases h with rfl|rfl|rfl<;>exact⟨by dsimp only;lia,by dsimp only;lia,by dsimp only;lia,by dsimp only;lia,vd⟩
 ·rw[nbs3,mem3] at h;dsimp only at*;rcases h with rfl|rfl|rfl<;>exact⟨by dsimp only;lia,by dsimp only;lia,by dsimp only;lia,by dsimp only;lia,vd⟩
def vK{c:C3}{e:E2}(h:e∈zF c):okE e/\lfC e=c/\rtC e∈nbs c/\lfC (rv e)=rtC e/\rtC (rv e)=lfC e:=by
 obtain⟨a,k,h1,rfl⟩:=xS.mp h;obtain⟨o,rfl⟩:=Yf h1;have e1:rv (a,stp a k)=(stp a k,stp (stp a k) (k+4)):=by rw[wg];rfl
 refine⟨⟨a,k,o,rfl⟩,yH _ _,by rw[xL];exact Xy o,?_,?_⟩
 ·rw[e1,yH,xL,va o]
 ·rw[e1,xL,yH];have:=va (jd.mpr o);rw[wg,f44] at this;exact this.symm
theorem stokes{X Y:Nat}{l:List E2}{F:E2->Int}(ok:∀e,e∈l->okE e/\inB X Y (lfC e)/\inB X Y (rtC e))(cl:Clo l)(z0:∀c:C3,inB X Y c->(c.1= -1∨c.1=X∨c.2.1= -1∨c.2.1=Y)->Wd l c=0)(anti:∀e,F (rv e)= -F e):su F l=su (λc=>Wd l c*su F (zF c)) (yh X Y):=by
 have v:∀c,c∈yh X Y->vq c:=λc hc=>(wY.mp hc).2.2.2.2;have an:=zbd v (zbx X Y);have am:∀e,e∈(yh X Y).flatMap zF↔okE e/\inB X Y (lfC e):=λe=>by
  rw[QC]
  constructor
  ·rintro⟨c,hc,he⟩;obtain⟨h1,h2,_⟩:=vK he;exact⟨h1,by rw[h2];exact wY.mp hc⟩
  ·rintro⟨⟨a,k,o,rfl⟩,h⟩;rw[yH] at h;exact⟨_,wY.mpr h,xS.mpr ⟨a,k,wU o,rfl⟩⟩
 have e1:su (λc=>Wd l c*su F (zF c)) (yh X Y)=su (λe=>Wd l (lfC e)*F e) ((yh X Y).flatMap zF):=by
  rw[Wi];refine zP λc hc=>?_;rw[←ji];exact zP λe he=>by rw[(vK he).2.1]
 have f:=X6 (λe=>Wd l (lfC e)*F e) (λe=>decide (rv e∈(yh X Y).flatMap zF)) ((yh X Y).flatMap zF);have rim:su (λe=>Wd l (lfC e)*F e) (((yh X Y).flatMap zF).filter λe=> !decide (rv e∈(yh X Y).flatMap zF))=0:=by
  rw[zP (g:=λ_=>0) λe he=>?_,wj];obtain⟨h1,h2⟩:=pg.mp he;rw[AK,decide_eq_false_iff_not,am] at h2;obtain⟨c,hc,hs⟩:=QC.mp h1;obtain⟨o,l1,l2,l3,l4⟩:=vK hs;have:=z0 c (wY.mp hc) (adj_sq (v c hc) l2 (wY.mp hc) λz=>h2 ⟨o.rv,by rw[l3];exact z⟩)
  rw[l1,this,UU]
 generalize hint:((yh X Y).flatMap zF).filter (λe=>decide (rv e∈(yh X Y).flatMap zF))=int at f;have im:∀e,e∈int↔okE e/\inB X Y (lfC e)/\inB X Y (rtC e):=λe=>by
  rw[←hint,pg,decide_eq_true_iff,am,am]
  constructor
  ·rintro⟨⟨h1,h2⟩,h3,h4⟩;obtain⟨a,k,o,rfl⟩:=h1;have:=(vK (xS.mpr ⟨a,k,wU o,rfl⟩)).2.2.2.1;rw[this] at h4;exact⟨⟨a,k,o,rfl⟩,h2,h4⟩
  ·rintro⟨h1,h2,h3⟩;refine⟨⟨h1,h2⟩,h1.rv,?_⟩;obtain⟨a,k,o,rfl⟩:=h1;rw[(vK (xS.mpr ⟨a,k,wU o,rfl⟩)).2.2.2.1];exact h3
 have ind:int.Nodup:=by rw[←hint];exact jC _ an
 have hlr:∀e,okE e->lfC (rv e)=rtC e/\rtC (rv e)=lfC e:=λe h=>by
  obtain⟨a,k,o,rfl⟩:=h;exact(vK (xS.mpr ⟨a,k,wU o,rfl⟩)).2.2.2
 have rp:(int.map rv).Perm int:=by
  refine(Qz ?_ ind).mpr λe=>?_
  ·rw[pN,QM];exact(pN.mp ind).imp λn z=>n (by have:=congrArg rv z;exact this)
  ·rw[pL]
   constructor
   ·rintro⟨x,hx,rfl⟩;obtain⟨h1,h2,h3⟩:=(im x).mp hx;obtain⟨q1,q2⟩:=hlr x h1;exact(im _).mpr ⟨h1.rv,by rw[q1];exact h3,by rw[q2];exact h2⟩
   ·intro h;obtain⟨h1,h2,h3⟩:=(im e).mp h;obtain⟨q1,q2⟩:=hlr e h1;exact⟨rv e,(im _).mpr ⟨h1.rv,by rw[q1];exact h3,by rw[q2];exact h2⟩,rfl⟩
 have s1:=jB (λe=>Wd l (lfC e)*F e) rp;rw[jg,zP (g:=λe=> -(Wd l (rtC e)*F e)) λe he=>by rw[(hlr e ((im e).mp he).1).1,anti,CZ],wN] at s1
 have s2:=ZE (F:=F) ind (l:=l) λe he=>(im e).mpr (ok e he);have s3:=jB (λe=>ct e l*F e) rp;rw[jg,zP (g:=λe=> -(ct (rv e) l*F e)) λe _=>by rw[anti,CZ],wN,s2] at s3
 have s4:su (λe=>Wd l (lfC e)*F e-Wd l (rtC e)*F e) int=su (λe=>ct e l*F e-ct (rv e) l*F e) int:=zP λe he=>by
  obtain⟨⟨a,k,o,rfl⟩,_⟩:=(im e).mp he;rw[yH,xL,←Ex,←Ex,jump (λe he=>(ok e he).1) cl o];rfl
 rw[xA,xA,s2] at s4;rw[e1];lia
noncomputable def ind(c:Prop)[Decidable c]:Int:=if c then 1 else 0
noncomputable def crx(a b t:Int):Int:=ind (a<=0/\0<b/\t<0)-ind (b<=0/\0<a/\0<t)
def zV{c:Prop}[Decidable c](h:c):ind c=1:=if_pos h
def zt{c:Prop}[Decidable c](h:¬c):ind c=0:=if_neg h
theorem za9{a b:Int}(h:0<a)(h':0<a*b):0<b:=by
 rcases gN 0 b with z|z
 ·exact z
 ·have:=Ac z (Uk h);rw[Uy] at this;lia
theorem Yz{a b:Int}(h:a<=0)(h':b<=0):0<=a*b:=by
 have:=Uf (show 0<= -a by lia) (show 0<= -b by lia)
 rw[Int.neg_mul_neg] at this;exact this
theorem XM{a b:Int}(h:0<=a)(h':b<=0):a*b<=0:=by
 have:=Uf h (show 0<= -b by lia)
 rw[CZ] at this;lia
def Tri(a b c t1 t2 t3:Int):Prop:=(crx a b t1+crx b c t2+crx c a t3=0)∨(crx a b t1+crx b c t2+crx c a t3= -1/\0<=t1/\0<=t2/\0<=t3)
variable{t1 t2 t3:Int}
theorem tri1{a b c:Int}(s:0<t1+t2+t3)(id:t1*c+t2*a+t3*b=0)(ha:a<=0)(hb:0<b)(hc:0<c):Tri a b c t1 t2 t3:=by
 have e1:crx a b t1=ind (t1<0):=by
  unfold crx;rw[zt (show ¬(b<=0/\0<a/\0<t1) by lia),BM]
  by_cases z:t1<0
  ·rw[zV z,zV ⟨ha,hb,z⟩]
  ·rw[zt z,zt (λq=>z q.2.2)]
 have e2:crx b c t2=0:=by
  unfold crx;rw[zt (show ¬(b<=0/\0<c/\t2<0) by lia),zt (show ¬(c<=0/\0<b/\0<t2) by lia)]
  rfl
 have e3:crx c a t3= -ind (0<t3):=by
  unfold crx;rw[zt (show ¬(c<=0/\0<a/\t3<0) by lia),Fv]
  by_cases z:0<t3
  ·rw[zV z,zV ⟨ha,hc,z⟩]
  ·rw[zt z,zt (λq=>z q.2.2)]
 unfold Tri;rw[e1,e2,e3]
 by_cases z1:t1<0
 ·have z3:0<t3:=by
   rcases gN t2 0 with z|z
   ·lia
   ·have n1:=XM z ha;have n2:t1*c<0:=by
     have:=QV (show 0< -t1 by lia) hc
     rw[Ew] at this;lia
    have:0<b*t3:=by rw[UO];lia
    exact za9 hb this
  rw[zV z1,zV z3];exact .inl rfl
 ·rw[zt z1]
  by_cases z3:0<t3
  ·rw[zV z3];refine .inr ⟨rfl,by lia,?_,by lia⟩
   have n1:=Uf (show 0<=t1 by lia) (show 0<=c by lia)
   have n2:=QV z3 hb;rcases gN t2 0 with z|z
   ·have:=Yz (show t2<=0 by lia) ha
    lia
   ·exact z
  ·rw[zt z3];exact .inl rfl
theorem tri2{a b c:Int}(s:0<t1+t2+t3)(id:t1*c+t2*a+t3*b=0)(ha:a<=0)(hb:b<=0)(hc:0<c):Tri a b c t1 t2 t3:=by
 have e1:crx a b t1=0:=by
  unfold crx;rw[zt (show ¬(a<=0/\0<b/\t1<0) by lia),zt (show ¬(b<=0/\0<a/\0<t1) by lia)]
  rfl
 have e2:crx b c t2=ind (t2<0):=by
  unfold crx;rw[zt (show ¬(c<=0/\0<b/\0<t2) by lia),BM]
  by_cases z:t2<0
  ·rw[zV z,zV ⟨hb,hc,z⟩]
  ·rw[zt z,zt (λq=>z q.2.2)]
 have e3:crx c a t3= -ind (0<t3):=by
  unfold crx;rw[zt (show ¬(c<=0/\0<a/\t3<0) by lia),Fv]
  by_cases z:0<t3
  ·rw[zV z,zV ⟨ha,hc,z⟩]
  ·rw[zt z,zt (λq=>z q.2.2)]
 unfold Tri;rw[e1,e2,e3];have tc:∀{t:Int},0<t->0<t*c:=λh=>QV h hc
 by_cases z2:t2<0
 ·have z3:0<t3:=by
   rcases gN 0 t3 with z|z
   ·exact z
   ·exfalso
    have n1:=Yz (show t2<=0 by lia) ha
    have n2:=Yz z hb;have:=tc (t:=t1) (by lia)
    lia
  rw[zV z2,zV z3];exact .inl rfl
 ·rw[zt z2]
  by_cases z3:0<t3
  ·rw[zV z3];refine .inr ⟨rfl,?_,by lia,by lia⟩
   have n1:=XM (show 0<=t2 by lia) ha
   have n2:=XM (show 0<=t3 by lia) hb
   rcases gN t1 0 with z|z
   ·have:=QV (show 0< -t1 by lia) hc
    rw[Ew] at this;lia
   ·exact z
  ·rw[zt z3];exact .inl rfl
theorem Tri.rot{a b c:Int}(h:Tri b c a t2 t3 t1):Tri a b c t1 t2 t3:=by
 unfold Tri at h⊢;lia
theorem tri{a b c:Int}(s:0<t1+t2+t3)(id:t1*c+t2*a+t3*b=0):Tri a b c t1 t2 t3:=by
 rcases gN 0 a with ha|ha<;>rcases gN 0 b with hb|hb<;>rcases gN 0 c with hc|hc
 ·refine .inl ?_;unfold crx;rw[zt (by lia),zt (by lia),zt (by lia),zt (by lia),zt (by lia),zt (by lia)]
  rfl
 ·exact .rot (.rot (tri1 (by lia) (by lia) hc ha hb))
 ·exact .rot (tri1 (by lia) (by lia) hb hc ha)
 ·exact .rot (tri2 (by lia) (by lia) hb hc ha)
 ·exact tri1 s id ha hb hc
 ·exact .rot (.rot (tri2 (by lia) (by lia) hc ha hb))
 ·exact tri2 s id ha hb hc
 ·refine .inl ?_;unfold crx;rw[zt (by lia),zt (by lia),zt (by lia),zt (by lia),zt (by lia),zt (by lia)]
  rfl
noncomputable def xi(p q:Int)(v:Int×Int):Int:=p*v.1+q*v.2
noncomputable def tnn(a b P:Int×Int):Int:=(b.1-a.1)*(P.2-2*a.2)-(b.2-a.2)*(P.1-2*a.1)
noncomputable def Fx(p q:Int)(P:Int×Int)(e:E2):Int:=crx (2*xi p q e.1-xi p q P) (2*xi p q e.2-xi p q P) (tnn e.1 e.2 P)
theorem zed(a b t:Int):crx b a (-t)= -crx a b t:=by
 unfold crx;have e1:ind (b<=0/\0<a/\ -t<0)=ind (b<=0/\0<a/\0<t):=by
  by_cases z:b<=0/\0<a/\0<t
  ·rw[zV z,zV (by omega)]
  ·rw[zt z,zt (by lia)]
 have e2:ind (a<=0/\0<b/\0< -t)=ind (a<=0/\0<b/\t<0):=by
  by_cases z:a<=0/\0<b/\t<0
  ·rw[zV z,zV (by lia)]
  ·rw[zt z,zt (by omega)]
 rw[e1,e2];lia
theorem zat(a b P:Int×Int):tnn b a P= -tnn a b P:=by
 unfold tnn
 grind
def ze6(p q:Int)(P:Int×Int)(e:E2):Fx p q P (rv e)= -Fx p q P e:=by
 unfold Fx rv;dsimp only;rw[zat,zed]
theorem tri_of(p q:Int)(P A B C:Int×Int)(h:(B.1-A.1)*(C.2-A.2)-(B.2-A.2)*(C.1-A.1)=2):Tri (2*xi p q A-xi p q P) (2*xi p q B-xi p q P) (2*xi p q C-xi p q P) (tnn A B P) (tnn B C P) (tnn C A P):=by
 refine tri ?_ ?_
 ·have:tnn A B P+tnn B C P+tnn C A P=2*((B.1-A.1)*(C.2-A.2)-(B.2-A.2)*(C.1-A.1)):=by
   unfold tnn
   grind
  omega
 ·unfold tnn xi
  grind
theorem sides3{c:C3}(v:vq c):∃A B C:Int×Int,zF c=[(A,B),(B,C),(C,A)]/\(B.1-A.1)*(C.2-A.2)-(B.2-A.2)*(C.1-A.1)=2:=by
 obtain⟨d0,d1,d2,d3,d4,d5,d6,d7⟩:=wK;have st:∀(a b x y:Int)(k:Fin 8),dv k=(x,y)->stp (a,b) k=(a+x,b+y):=λa b x y k h=>by
  unfold stp;rw[h]
 have pe:∀{a b c d:Int},a=c->b=d->((a,b):Int×Int)=(c,d):=λh1 h2=>by rw[h1,h2]
 obtain⟨x,y,h⟩:=vq4 v;rcases h with rfl|rfl|rfl|rfl
 ·refine⟨(2*x,2*y),(2*x+2,2*y),(2*x+1,2*y+1),?_,by dsimp only;grind⟩
  show[_,_,_]=_
  dsimp only;rw[st _ _ _ _ 0 d0,st _ _ _ _ 3 d3,st _ _ _ _ 5 d5,pe (show 2*x+2=2*x+2 from rfl) (show 2*y+0=2*y by lia),pe (show 2*x+2+ -1=2*x+1 by lia) (show 2*y+1=2*y+1 from rfl),pe (show 2*x+1+ -1=2*x by lia) (show 2*y+1+ -1=2*y by lia)]
 ·refine⟨(2*x+2,2*y),(2*x+2,2*y+2),(2*x+1,2*y+1),?_,by dsimp only;grind⟩
  show[_,_,_]=_
  dsimp only;rw[st _ _ _ _ 2 d2,st _ _ _ _ 5 d5,st _ _ _ _ 7 d7,pe (show 2*x+2+0=2*x+2 by lia) (show 2*y+2=2*y+2 from rfl),pe (show 2*x+2+ -1=2*x+1 by lia) (show 2*y+2+ -1=2*y+1 by lia),pe (show 2*x+1+1=2*x+2 by lia) (show 2*y+1+ -1=2*y by lia)]
 ·refine⟨(2*x+2,2*y+2),(2*x,2*y+2),(2*x+1,2*y+1),?_,by dsimp only;grind⟩
  show[_,_,_]=_
  dsimp only;rw[st _ _ _ _ 4 d4,st _ _ _ _ 7 d7,st _ _ _ _ 1 d1,pe (show 2*x+2+ -2=2*x by lia) (show 2*y+2+0=2*y+2 by lia),pe (show 2*x+1=2*x+1 from rfl) (show 2*y+2+ -1=2*y+1 by lia),pe (show 2*x+1+1=2*x+2 by lia) (show 2*y+1+1=2*y+2 by lia)]
 ·refine⟨(2*x,2*y+2),(2*x,2*y),(2*x+1,2*y+1),?_,by dsimp only;grind⟩
  show[_,_,_]=_
  dsimp only;rw[st _ _ _ _ 6 d6,st _ _ _ _ 1 d1,st _ _ _ _ 3 d3,pe (show 2*x+0=2*x by lia) (show 2*y+2+ -2=2*y by lia),pe (show 2*x+1=2*x+1 from rfl) (show 2*y+1=2*y+1 from rfl),pe (show 2*x+1+ -1=2*x by lia) (show 2*y+1+1=2*y+2 by lia)]
def InC(P:Int×Int)(c:C3):Prop:=∀e,e∈zF c->0<=tnn e.1 e.2 P
theorem zgm(p q:Int)(P:Int×Int){c:C3}(v:vq c):su (Fx p q P) (zF c)=0∨(su (Fx p q P) (zF c)= -1/\InC P c):=by
 obtain⟨A,B,C,e,h⟩:=sides3 v;have t:=tri_of p q P A B C h;unfold InC;rw[e];have s:su (Fx p q P) [(A,B),(B,C),(C,A)]=crx (2*xi p q A-xi p q P) (2*xi p q B-xi p q P) (tnn A B P)+crx (2*xi p q B-xi p q P) (2*xi p q C-xi p q P) (tnn B C P)+crx (2*xi p q C-xi p q P) (2*xi p q A-xi p q P) (tnn C A P):=by
  show crx _ _ _+(crx _ _ _+(crx _ _ _+0))=_
  dsimp only;lia
 rw[s];rcases t with t|⟨t,h1,h2,h3⟩
 ·exact .inl t
 ·refine .inr ⟨t,λx hx=>?_⟩;simp only[pS,Qe,or_false] at hx;rcases hx with rfl|rfl|rfl
  ·exact h1
  ·exact h2
  ·exact h3
def ziu{X Y:Nat}{l:List E2}{p q:Int}{P:Int×Int}{w:Int}(ok:∀e,e∈l->okE e/\inB X Y (lfC e)/\inB X Y (rtC e))(cl:Clo l)(z0:∀c:C3,inB X Y c->(c.1= -1∨c.1=X∨c.2.1= -1∨c.2.1=Y)->Wd l c=0)(same:∀c,inB X Y c->InC P c->Wd l c=w):su (Fx p q P) l=w*su (λc=>su (Fx p q P) (zF c)) (yh X Y):=by
 rw[stokes ok cl z0 (ze6 p q P),←ji];refine zP λc hc=>?_;have b:=wY.mp hc;rcases zgm p q P b.2.2.2.2 with z|⟨z,i⟩
 ·rw[z,Uy,Uy]
 ·rw[same c b i]
noncomputable def Yc(X:Nat):List E2:=(pP (X+2)).map λi=>((2*((i:Nat):Int)-2,(-2:Int)),(2*((i+1:Nat):Int)-2,(-2:Int)))
noncomputable def jG(X Y:Nat):List E2:=(pP (Y+2)).map λj=>((2*(X:Int)+2,2*((j:Nat):Int)-2),(2*(X:Int)+2,2*((j+1:Nat):Int)-2))
noncomputable def qz(X Y:Nat):List E2:=(pP (X+2)).map λi=>((2*(X:Int)+2-2*((i:Nat):Int),2*(Y:Int)+2),(2*(X:Int)+2-2*((i+1:Nat):Int),2*(Y:Int)+2))
noncomputable def jY(Y:Nat):List E2:=(pP (Y+2)).map λj=>(((-2:Int),2*(Y:Int)+2-2*((j:Nat):Int)),((-2:Int),2*(Y:Int)+2-2*((j+1:Nat):Int)))
theorem XH(g:Nat->α)(n:Nat)(h:∀i j,g i=g j->i=j):((pP n).map g).Nodup:=by
 rw[pN,QM];exact Uz.imp λ{i j} l z=>by have:=h i j z;lia
theorem Ys{X:Nat}{e:E2}:e∈Yc X↔e.1.2= -2/\e.2.2= -2/\e.2.1=e.1.1+2/\e.1.1%2=0/\ -2<=e.1.1/\e.1.1<=2*X:=by
 unfold Yc;rw[pL]
 constructor
 ·rintro⟨i,hi,rfl⟩;have:=pQ.mp hi;dsimp only;omega
 ·intro h;obtain⟨⟨a,b⟩,⟨c,d⟩⟩:=e;dsimp only at h;refine⟨((a+2)/2).toNat,pQ.mpr (by omega),?_⟩
  rw[QZ,QZ,QZ];omega
theorem qE{X Y:Nat}{e:E2}:e∈jG X Y↔e.1.1=2*X+2/\e.2.1=2*X+2/\e.2.2=e.1.2+2/\e.1.2%2=0/\ -2<=e.1.2/\e.1.2<=2*Y:=by
 unfold jG;rw[pL]
 constructor
 ·rintro⟨i,hi,rfl⟩;have:=pQ.mp hi;dsimp only;lia
 ·intro h;obtain⟨⟨a,b⟩,⟨c,d⟩⟩:=e;dsimp only at h;refine⟨((b+2)/2).toNat,pQ.mpr (by lia),?_⟩
  rw[QZ,QZ,QZ];omega
theorem qN{X Y:Nat}{e:E2}:e∈qz X Y↔e.1.2=2*Y+2/\e.2.2=2*Y+2/\e.2.1=e.1.1-2/\e.1.1%2=0/\0<=e.1.1/\e.1.1<=2*X+2:=by
 unfold qz;rw[pL]
 constructor
 ·rintro⟨i,hi,rfl⟩;have:=pQ.mp hi;dsimp only;lia
 ·intro h;obtain⟨⟨a,b⟩,⟨c,d⟩⟩:=e;dsimp only at h;refine⟨((2*(X:Int)+2-a)/2).toNat,pQ.mpr (by omega),?_⟩
  rw[QZ,QZ,QZ];omega
theorem qj{Y:Nat}{e:E2}:e∈jY Y↔e.1.1= -2/\e.2.1= -2/\e.2.2=e.1.2-2/\e.1.2%2=0/\0<=e.1.2/\e.1.2<=2*Y+2:=by
 unfold jY;rw[pL]
 constructor
 ·rintro⟨i,hi,rfl⟩;have:=pQ.mp hi;dsimp only;lia
 ·intro h;obtain⟨⟨a,b⟩,⟨c,d⟩⟩:=e;dsimp only at h;refine⟨((2*(Y:Int)+2-b)/2).toNat,pQ.mpr (by omega),?_⟩
  rw[QZ,QZ,QZ];omega
noncomputable def vZ(X Y:Nat):List E2:=(Yc X++jG X Y)++(qz X Y++jY Y)
theorem rim_nd(X Y:Nat):(vZ X Y).Nodup:=by
 have n1:(Yc X).Nodup:=XH _ _ λi j z=>by
  have:=congrArg (λe:E2=>e.1.1) z;dsimp only at this;omega
 have n2:(jG X Y).Nodup:=XH _ _ λi j z=>by
  have:=congrArg (λe:E2=>e.1.2) z;dsimp only at this;omega
 have n3:(qz X Y).Nodup:=XH _ _ λi j z=>by
  have:=congrArg (λe:E2=>e.1.1) z;dsimp only at this;omega
 have n4:(jY Y).Nodup:=XH _ _ λi j z=>by
  have:=congrArg (λe:E2=>e.1.2) z;dsimp only at this;omega
 refine UB.mpr ⟨UB.mpr ⟨n1,n2,λa ha b hb z=>?_⟩,UB.mpr ⟨n3,n4,λa ha b hb z=>?_⟩,λa ha b hb z=>?_⟩
 ·subst z;have:=Ys.mp ha;have:=qE.mp hb;omega
 ·subst z;have:=qN.mp ha;have:=qj.mp hb;omega
 ·subst z;rcases pd.mp ha with ha|ha<;>rcases pd.mp hb with hb|hb
  ·have:=Ys.mp ha;have:=qN.mp hb;omega
  ·have:=Ys.mp ha;have:=qj.mp hb;omega
  ·have:=qE.mp ha;have:=qN.mp hb;omega
  ·have:=qE.mp ha;have:=qj.mp hb;omega
theorem rim_mem{X Y:Nat}{e:E2}:e∈vZ X Y↔okE e/\inB X Y (lfC e)/\¬inB X Y (rtC e):=by
 obtain⟨d0,d1,d2,d3,d4,d5,d6,d7⟩:=wK;have st:∀(a b x y:Int)(k:Fin 8),dv k=(x,y)->stp (a,b) k=(a+x,b+y):=λa b x y k h=>by
  unfold stp;rw[h]
 have B:∀{x y q:Int},inB X Y (x,y,q)↔-1<=x/\x<=X/\ -1<=y/\y<=Y/\0<=q/\q<=3:=DV;unfold vZ;rw[pd,pd,pd,Ys,qE,qN,qj]
 constructor
 ·intro h;obtain⟨⟨a,b⟩,⟨c,d⟩⟩:=e;dsimp only at h;have go:∀{x y:Int}{k:Fin 8}{e:E2},e=((2*x,2*y),stp (2*x,2*y) k)->inB X Y (zj (2*x,2*y) k)->¬inB X Y (zj (2*x,2*y) (k+7))->okE e/\inB X Y (lfC e)/\¬inB X Y (rtC e):=λ{x y k e} q h1 h2=>by
   rw[q,yH,xL];exact⟨⟨_,k,okK x y k,rfl⟩,h1,h2⟩
  have m2:∀z:Int,2*z+2=2*(z+1):=λz=>by lia
  rcases h with(h|h)|(h|h)
  ·obtain⟨rfl,rfl,rfl,h4,h5,h6⟩:=h;obtain⟨x,rfl⟩:=UP h4;refine go (x:=x) (y:= -1) (k:=0) (by rw[st _ _ _ _ 0 d0];rfl) ?_ ?_<;>rw[cellK]
   ·exact⟨by show-1<=x;lia,by show x<=X;lia,by show(-1:Int)<= -1;decide,by show(-1:Int)<=Y;lia,by show(0:Int)<=0;decide,by show(0:Int)<=3;decide⟩
   ·exact λz=>absurd (show(-1:Int)<= -1-1 from z.2.2.1) (by decide)
  ·obtain⟨rfl,rfl,rfl,h4,h5,h6⟩:=h;obtain⟨y,rfl⟩:=UP h4;refine go (x:=(X:Int)+1) (y:=y) (k:=2) (by rw[st _ _ _ _ 2 d2,UH,←m2]) ?_ ?_<;>rw[cellK]
   ·exact⟨by show-1<=(X:Int)+1-1;lia,by show(X:Int)+1-1<=X;lia,by show-1<=y;lia,by show y<=Y;lia,by show(0:Int)<=1;decide,by show(1:Int)<=3;decide⟩
   ·exact λz=>absurd (show(X:Int)+1<=X from z.2.1) (by lia)
  ·obtain⟨rfl,rfl,rfl,h4,h5,h6⟩:=h;obtain⟨x,rfl⟩:=UP h4;refine go (x:=x) (y:=(Y:Int)+1) (k:=4) (by rw[st _ _ _ _ 4 d4,UH,←m2];rfl) ?_ ?_<;>rw[cellK]
   ·exact⟨by show-1<=x-1;lia,by show x-1<=X;lia,by show-1<=(Y:Int)+1-1;lia,by show(Y:Int)+1-1<=Y;lia,by show(0:Int)<=2;decide,by show(2:Int)<=3;decide⟩
   ·exact λz=>absurd (show(Y:Int)+1<=Y from z.2.2.2.1) (by lia)
  ·obtain⟨rfl,rfl,rfl,h4,h5,h6⟩:=h;obtain⟨y,rfl⟩:=UP h4;refine go (x:= -1) (y:=y) (k:=6) (by rw[st _ _ _ _ 6 d6];rfl) ?_ ?_<;>rw[cellK]
   ·exact⟨by show(-1:Int)<= -1;decide,by show(-1:Int)<=X;lia,by show-1<=y-1;lia,by show y-1<=Y;lia,by show(0:Int)<=3;decide,by show(3:Int)<=3;decide⟩
   ·exact λz=>absurd (show(-1:Int)<= -1-1 from z.1) (by decide)
 ·rintro⟨⟨⟨a1,a2⟩,k,o,rfl⟩,h1,h2⟩;rw[yH] at h1;rw[xL] at h2;rcases o with⟨o1,o2⟩|⟨o1,o2,o3⟩
  ·dsimp only at o1 o2;obtain⟨x,rfl⟩:=UP o1;obtain⟨y,rfl⟩:=UP o2;rw[cellK] at h1 h2;rcases k8 k with rfl|rfl|rfl|rfl|rfl|rfl|rfl|rfl
   ·have h1:inB X Y (x,y,0):=h1;have h2:¬inB X Y (x,y-1,2):=h2;rw[B] at h1 h2;have z:y<0:=FY.mp λz=>h2 ⟨h1.1,h1.2.1,by lia,by lia,by decide,by decide⟩
    clear h2;rw[st _ _ _ _ 0 d0];dsimp only;exact .inl (.inl (by lia))
   ·exact absurd (show inB X Y (x,y,0) from by have h1:inB X Y (x,y,3):=h1;rw[B] at h1⊢;lia) h2
   ·have h1:inB X Y (x-1,y,1):=h1;have h2:¬inB X Y (x,y,3):=h2;rw[B] at h1 h2;have z:(X:Int)<x:=FY.mp λz=>h2 ⟨by lia,z,h1.2.2.1,h1.2.2.2.1,by decide,by decide⟩
    clear h2;rw[st _ _ _ _ 2 d2];dsimp only;exact .inl (.inr (by lia))
   ·exact absurd (show inB X Y (x-1,y,1) from by have h1:inB X Y (x-1,y,0):=h1;rw[B] at h1⊢;lia) h2
   ·have h1:inB X Y (x-1,y-1,2):=h1;have h2:¬inB X Y (x-1,y,0):=h2;rw[B] at h1 h2;have z:(Y:Int)<y:=FY.mp λz=>h2 ⟨h1.1,h1.2.1,by lia,z,by decide,by decide⟩
    clear h2;rw[st _ _ _ _ 4 d4];dsimp only;exact .inr (.inl (by lia))
   ·exact absurd (show inB X Y (x-1,y-1,2) from by have h1:inB X Y (x-1,y-1,1):=h1;rw[B] at h1⊢;lia) h2
   ·have h1:inB X Y (x,y-1,3):=h1;have h2:¬inB X Y (x-1,y-1,1):=h2;rw[B] at h1 h2;have z:x<0:=FY.mp λz=>h2 ⟨by lia,by lia,h1.2.2.1,h1.2.2.2.1,by decide,by decide⟩
    clear h2;rw[st _ _ _ _ 6 d6];dsimp only;exact .inr (.inr (by lia))
   ·exact absurd (show inB X Y (x,y-1,3) from by have h1:inB X Y (x,y-1,2):=h1;rw[B] at h1⊢;lia) h2
  ·dsimp only at o1 o2;obtain⟨x,rfl⟩:∃x,a1=2*x+1:=⟨a1/2,by lia⟩
   obtain⟨y,rfl⟩:∃y,a2=2*y+1:=⟨a2/2,by lia⟩
   rw[xO] at h1 h2
   exfalso
   refine h2 ?_;rw[B] at h1⊢;have g4:∀k:Fin 8,0<=([1,2,2,3,3,0,0,1]:List Int).getD k.val 0/\([1,2,2,3,3,0,0,1]:List Int).getD k.val 0<=3:=by decide
   exact⟨h1.1,h1.2.1,h1.2.2.1,h1.2.2.2.1,(g4 (k+7)).1,(g4 (k+7)).2⟩
theorem Y3{s:Nat->Int}(h:∀i,s (i+1)<=s i):∀n,su (λi=> -ind (s (i+1)<=0/\0<s i)) (pP n)=ind (s 0<=0)-ind (s n<=0)
 |0=>(CD _).symm
 |n+1=>by
  rw[QQ,xP,Y3 h n];show _+(-ind (s (n+1)<=0/\0<s n)+0)=_;have:=h n
  by_cases a:s n<=0
  ·rw[zV a,zV (show s (n+1)<=0 by lia),zt (show ¬(s (n+1)<=0/\0<s n) by lia)]
   lia
  ·rw[zt a]
   by_cases b:s (n+1)<=0
   ·rw[zV b,zV (show s (n+1)<=0/\0<s n by lia)]
    lia
   ·rw[zt b,zt (show ¬(s (n+1)<=0/\0<s n) by lia)]
    lia
theorem W7{s:Nat->Int}(h:∀i,s i<=s (i+1))(n:Nat):su (λi=> -ind (s (i+1)<=0/\0<s i)) (pP n)=0:=by
 rw[zP (g:=λ_=>0) λi _=>by have:=h i;rw[zt (by lia)];rfl,wj]
theorem crx_in{a b:Int}(h:0<t):crx a b t= -ind (b<=0/\0<a):=by
 unfold crx;rw[zt (show ¬(a<=0/\0<b/\t<0) by lia),Fv]
 by_cases z:b<=0/\0<a
 ·rw[zV z,zV ⟨z.1,z.2,h⟩]
 ·rw[zt z,zt (λq=>z ⟨q.1,q.2.1⟩)]
theorem zin{X Y:Nat}{p q:Int}(hp:0<p){P:Int×Int}(h1: -4<P.1)(h2:P.1<4*X+4)(h3: -4<P.2)(h4:P.2<4*Y+4):su (λc=>su (Fx p q P) (zF c)) (yh X Y)= -1:=by
 have v:∀c,c∈yh X Y->vq c:=λc hc=>(wY.mp hc).2.2.2.2;have an:=zbd v (zbx X Y);have am:∀e,e∈(yh X Y).flatMap zF↔okE e/\inB X Y (lfC e):=λe=>by
  rw[QC]
  constructor
  ·rintro⟨c,hc,he⟩;obtain⟨h1,h2,_⟩:=vK he;exact⟨h1,by rw[h2];exact wY.mp hc⟩
  ·rintro⟨⟨a,k,o,rfl⟩,h⟩;rw[yH] at h;exact⟨_,wY.mpr h,xS.mpr ⟨a,k,wU o,rfl⟩⟩
 have hlr:∀e,okE e->lfC (rv e)=rtC e/\rtC (rv e)=lfC e:=λe h=>by
  obtain⟨a,k,o,rfl⟩:=h;exact(vK (xS.mpr ⟨a,k,wU o,rfl⟩)).2.2.2
 rw[←Wi,X6 (Fx p q P) (λe=>decide (rv e∈(yh X Y).flatMap zF)) ((yh X Y).flatMap zF)];have p2:(((yh X Y).flatMap zF).filter λe=>decide (rv e∈(yh X Y).flatMap zF)).map rv|>.Perm (((yh X Y).flatMap zF).filter λe=>decide (rv e∈(yh X Y).flatMap zF)):=by
  refine(Qz ?_ (jC _ an)).mpr λe=>?_
  ·rw[pN,QM];exact(pN.mp (jC _ an)).imp λn z=>n (by have:=congrArg rv z;exact this)
  ·rw[pL,pg,decide_eq_true_iff]
   constructor
   ·rintro⟨x,hx,rfl⟩;obtain⟨h1,h2⟩:=pg.mp hx;exact⟨of_decide_eq_true h2,h1⟩
   ·rintro⟨h1,h2⟩;exact⟨rv e,pg.mpr ⟨h2,decide_eq_true h1⟩,rfl⟩
 have s:=jB (Fx p q P) p2;rw[jg,zP λe _=>ze6 p q P e,wN] at s;have p1:(((yh X Y).flatMap zF).filter λe=> !decide (rv e∈(yh X Y).flatMap zF)).Perm (vZ X Y):=by
  refine(Qz (jC _ an) (rim_nd X Y)).mpr λe=>?_;rw[pg,AK,decide_eq_false_iff_not,am,am,rim_mem]
  constructor
  ·rintro⟨⟨a1,a2⟩,a3⟩;exact⟨a1,a2,λz=>a3 ⟨a1.rv,by rw[(hlr e a1).1];exact z⟩⟩
  ·rintro⟨a1,a2,a3⟩;exact⟨⟨a1,a2⟩,λz=>a3 (by rw[←(hlr e a1).1];exact z.2)⟩
 rw[jB (Fx p q P) p1];have tn:∀e,e∈vZ X Y->0<tnn e.1 e.2 P:=λe he=>by
  unfold tnn;rcases pd.mp he with z|z<;>rcases pd.mp z with z|z
  ·obtain⟨a1,a2,a3,_⟩:=Ys.mp z;rw[a1,a2,a3,show e.1.1+2-e.1.1=2 by lia,show(-2:Int)- -2=0 from rfl,UU]
   lia
  ·obtain⟨a1,a2,a3,_⟩:=qE.mp z;rw[a1,a2,a3,CD,UU,show e.1.2+2-e.1.2=2 by lia]
   lia
  ·obtain⟨a1,a2,a3,_⟩:=qN.mp z;rw[a1,a2,a3,CD,UU,show e.1.1-2-e.1.1= -2 by lia]
   lia
  ·obtain⟨a1,a2,a3,_⟩:=qj.mp z;rw[a1,a2,a3,show(-2:Int)- -2=0 from rfl,UU,show e.1.2-2-e.1.2= -2 by lia]
   lia
 have f:∀(g:Nat->Int×Int)(n:Nat),(∀i,i∈pP n->(g i,g (i+1))∈vZ X Y)->su (Fx p q P) ((pP n).map λi=>(g i,g (i+1)))=su (λi=> -ind (2*xi p q (g (i+1))-xi p q P<=0/\0<2*xi p q (g i)-xi p q P)) (pP n):=λg n hm=>by
  rw[jg];exact zP λi hi=>crx_in (tn _ (hm i hi))
 have mm:∀{l m:List E2}{e:E2},e∈l->e∈l++m:=λh=>Qp _ h;have eb:su (Fx p q P) (Yc X)=0:=by
  refine(f (λi=>(2*((i:Nat):Int)-2,(-2:Int))) (X+2) λi hi=>mm (mm (pL.mpr ⟨i,hi,rfl⟩))).trans (W7 (s:=λi=>2*xi p q (2*((i:Nat):Int)-2,(-2:Int))-xi p q P) (λi=>?_) (X+2));unfold xi;dsimp only;rw[show 2*((i+1:Nat):Int)-2=(2*((i:Nat):Int)-2)+2 by lia,Ae p _ 2]
  lia
 have et:su (Fx p q P) (qz X Y)=ind (2*xi p q (2*(X:Int)+2-2*((0:Nat):Int),2*(Y:Int)+2)-xi p q P<=0)-ind (2*xi p q (2*(X:Int)+2-2*((X+2:Nat):Int),2*(Y:Int)+2)-xi p q P<=0):=by
  refine(f (λi=>(2*(X:Int)+2-2*((i:Nat):Int),2*(Y:Int)+2)) (X+2) λi hi=>pY _ (mm (pL.mpr ⟨i,hi,rfl⟩))).trans (Y3 (s:=λi=>2*xi p q (2*(X:Int)+2-2*((i:Nat):Int),2*(Y:Int)+2)-xi p q P) (λi=>?_) (X+2));unfold xi;dsimp only;rw[show 2*(X:Int)+2-2*((i+1:Nat):Int)=(2*(X:Int)+2-2*((i:Nat):Int))-2 by lia,DX p _ 2]
  lia
 have fr:=f (λj=>(2*(X:Int)+2,2*((j:Nat):Int)-2)) (Y+2) λj hj=>mm (pY _ (pL.mpr ⟨j,hj,rfl⟩));have fl:=f (λj=>((-2:Int),2*(Y:Int)+2-2*((j:Nat):Int))) (Y+2) λj hj=>pY _ (pY _ (pL.mpr ⟨j,hj,rfl⟩));unfold vZ;rw[xP,xP,xP,eb,et];have x1:=QV hp (show 0<P.1+4 by lia)
 have x2:=QV hp (show 0<4*(X:Int)+4-P.1 by lia)
 rcases EL 0 q with hq|hq
 ·have er:su (Fx p q P) (jG X Y)=0:=by
   refine fr.trans (W7 (s:=λj=>2*xi p q (2*(X:Int)+2,2*((j:Nat):Int)-2)-xi p q P) (λj=>?_) (Y+2));unfold xi;dsimp only;rw[show 2*((j+1:Nat):Int)-2=(2*((j:Nat):Int)-2)+2 by lia,Ae q _ 2]
   lia
  have el:su (Fx p q P) (jY Y)=ind (2*xi p q ((-2:Int),2*(Y:Int)+2-2*((0:Nat):Int))-xi p q P<=0)-ind (2*xi p q ((-2:Int),2*(Y:Int)+2-2*((Y+2:Nat):Int))-xi p q P<=0):=by
   refine fl.trans (Y3 (s:=λj=>2*xi p q ((-2:Int),2*(Y:Int)+2-2*((j:Nat):Int))-xi p q P) (λj=>?_) (Y+2));unfold xi;dsimp only;rw[show 2*(Y:Int)+2-2*((j+1:Nat):Int)=(2*(Y:Int)+2-2*((j:Nat):Int))-2 by lia,DX q _ 2]
   lia
  have y1:=Uf hq (show 0<=P.2+4 by lia)
  have y2:=Uf hq (show 0<=4*(Y:Int)+4-P.2 by lia)
  have i1:¬(2*xi p q (2*(X:Int)+2-2*((0:Nat):Int),2*(Y:Int)+2)-xi p q P<=0):=by
   have:2*xi p q (2*(X:Int)+2-2*((0:Nat):Int),2*(Y:Int)+2)-xi p q P=p*(4*(X:Int)+4-P.1)+q*(4*(Y:Int)+4-P.2):=by
    unfold xi;dsimp only
    grind
   lia
  have i2:2*xi p q ((-2:Int),2*(Y:Int)+2-2*((Y+2:Nat):Int))-xi p q P<=0:=by
   have:2*xi p q ((-2:Int),2*(Y:Int)+2-2*((Y+2:Nat):Int))-xi p q P= -(p*(P.1+4)+q*(P.2+4)):=by
    unfold xi;dsimp only
    grind
   lia
  have i3:(2*(X:Int)+2-2*((X+2:Nat):Int),2*(Y:Int)+2)=(((-2:Int),2*(Y:Int)+2-2*((0:Nat):Int)):Int×Int):=Qg (by dsimp only;lia) (by dsimp only;lia)
  rw[er,el,zt i1,zV i2,i3];lia
 ·have el:su (Fx p q P) (jY Y)=0:=by
   refine fl.trans (W7 (s:=λj=>2*xi p q ((-2:Int),2*(Y:Int)+2-2*((j:Nat):Int))-xi p q P) (λj=>?_) (Y+2));unfold xi;dsimp only;rw[show 2*(Y:Int)+2-2*((j+1:Nat):Int)=(2*(Y:Int)+2-2*((j:Nat):Int))-2 by lia,DX q _ 2]
   lia
  have er:su (Fx p q P) (jG X Y)=ind (2*xi p q (2*(X:Int)+2,2*((0:Nat):Int)-2)-xi p q P<=0)-ind (2*xi p q (2*(X:Int)+2,2*((Y+2:Nat):Int)-2)-xi p q P<=0):=by
   refine fr.trans (Y3 (s:=λj=>2*xi p q (2*(X:Int)+2,2*((j:Nat):Int)-2)-xi p q P) (λj=>?_) (Y+2));unfold xi;dsimp only;rw[show 2*((j+1:Nat):Int)-2=(2*((j:Nat):Int)-2)+2 by lia,Ae q _ 2]
   lia
  have y1:=Yz hq (show-(P.2+4)<=0 by lia)
  have y2:=Yz hq (show-(4*(Y:Int)+4-P.2)<=0 by lia)
  have i1:¬(2*xi p q (2*(X:Int)+2,2*((0:Nat):Int)-2)-xi p q P<=0):=by
   have:2*xi p q (2*(X:Int)+2,2*((0:Nat):Int)-2)-xi p q P=p*(4*(X:Int)+4-P.1)+q* -(P.2+4):=by
    unfold xi;dsimp only
    grind
   lia
  have i2:2*xi p q (2*(X:Int)+2-2*((X+2:Nat):Int),2*(Y:Int)+2)-xi p q P<=0:=by
   have:2*xi p q (2*(X:Int)+2-2*((X+2:Nat):Int),2*(Y:Int)+2)-xi p q P= -(p*(P.1+4)+q* -(4*(Y:Int)+4-P.2)):=by
    unfold xi;dsimp only
    grind
   lia
  have i3:(2*(X:Int)+2,2*((Y+2:Nat):Int)-2)=((2*(X:Int)+2-2*((0:Nat):Int),2*(Y:Int)+2):Int×Int):=Qg (by dsimp only;lia) (by dsimp only;lia)
  rw[er,el,zt i1,zV i2,i3];lia
theorem YU(a P:Int×Int)(k:Fin 8):tnn a (stp a k) P=(dv k).1*(P.2-2*a.2)-(dv k).2*(P.1-2*a.1):=by
 unfold tnn stp;dsimp only;rw[show a.1+(dv k).1-a.1=(dv k).1 by lia,show a.2+(dv k).2-a.2=(dv k).2 by lia]
def x9{P:Int×Int}{c:C3}(h:InC P c){a:Int×Int}{k:Fin 8}(m:(a,k)∈yx c):0<=(dv k).1*(P.2-2*a.2)-(dv k).2*(P.1-2*a.1):=by
 have:=h _ (xS.mpr ⟨a,k,m,rfl⟩);rw[YU] at this;exact this
theorem in0{P:Int×Int}{x y:Int}(h:InC P (x,y,0)):4*y<=P.2/\P.1+P.2<=4*x+4*y+4/\4*x-4*y<=P.1-P.2:=by
 obtain⟨d0,d1,d2,d3,d4,d5,d6,d7⟩:=wK;have a1:=x9 h (a:=(2*x,2*y)) (k:=0) (pj ..);have a2:=x9 h (a:=(2*x+2,2*y)) (k:=3) (pE _ (pj ..));have a3:=x9 h (a:=(2*x+1,2*y+1)) (k:=5) (pE _ (pE _ (pj ..)));rw[d0] at a1;rw[d3] at a2;rw[d5] at a3;dsimp only at a1 a2 a3;lia
theorem in1{P:Int×Int}{x y:Int}(h:InC P (x,y,1)):P.1<=4*x+4/\4*x+4*y+4<=P.1+P.2/\4*x-4*y<=P.1-P.2:=by
 obtain⟨d0,d1,d2,d3,d4,d5,d6,d7⟩:=wK;have a1:=x9 h (a:=(2*x+2,2*y)) (k:=2) (pj ..);have a2:=x9 h (a:=(2*x+2,2*y+2)) (k:=5) (pE _ (pj ..));have a3:=x9 h (a:=(2*x+1,2*y+1)) (k:=7) (pE _ (pE _ (pj ..)));rw[d2] at a1;rw[d5] at a2;rw[d7] at a3;dsimp only at a1 a2 a3;lia
theorem in2{P:Int×Int}{x y:Int}(h:InC P (x,y,2)):P.2<=4*y+4/\4*x+4*y+4<=P.1+P.2/\P.1-P.2<=4*x-4*y:=by
 obtain⟨d0,d1,d2,d3,d4,d5,d6,d7⟩:=wK;have a1:=x9 h (a:=(2*x+2,2*y+2)) (k:=4) (pj ..);have a2:=x9 h (a:=(2*x,2*y+2)) (k:=7) (pE _ (pj ..));have a3:=x9 h (a:=(2*x+1,2*y+1)) (k:=1) (pE _ (pE _ (pj ..)));rw[d4] at a1;rw[d7] at a2;rw[d1] at a3;dsimp only at a1 a2 a3;lia
theorem in3{P:Int×Int}{x y:Int}(h:InC P (x,y,3)):4*x<=P.1/\P.1+P.2<=4*x+4*y+4/\P.1-P.2<=4*x-4*y:=by
 obtain⟨d0,d1,d2,d3,d4,d5,d6,d7⟩:=wK;have a1:=x9 h (a:=(2*x,2*y+2)) (k:=6) (pj ..);have a2:=x9 h (a:=(2*x,2*y)) (k:=1) (pE _ (pj ..));have a3:=x9 h (a:=(2*x+1,2*y+1)) (k:=3) (pE _ (pE _ (pj ..)));rw[d6] at a1;rw[d1] at a2;rw[d3] at a3;dsimp only at a1 a2 a3;lia
theorem at_cell{v:Int×Int}(o:ok v){c:C3}(vc:vq c)(h:InC (2*v.1,2*v.2) c):∃i,c=zj v i:=by
 obtain⟨v1,v2⟩:=v;dsimp only at h;obtain⟨x,y,e⟩:=vq4 vc;have c3:∀{a b q a' b':Int},a=a'->b=b'->((a,b,q):C3)=(a',b',q):=λh1 h2=>by rw[h1,h2]
 rcases o with⟨o1,o2⟩|⟨o1,o2⟩<;>dsimp only at o1 o2
 ·obtain⟨X,rfl⟩:∃X,v1=2*X:=⟨v1/2,by lia⟩
  obtain⟨Y,rfl⟩:∃Y,v2=2*Y:=⟨v2/2,by lia⟩
  rcases e with rfl|rfl|rfl|rfl
  ·have:=in0 h;dsimp only at this;rcases(by lia:(x=X/\y=Y)∨(x=X-1/\y=Y)) with⟨a,b⟩|⟨a,b⟩
   ·exact⟨0,by rw[cellK];exact c3 a b⟩
   ·exact⟨3,by rw[cellK];exact c3 a b⟩
  ·have:=in1 h;dsimp only at this;rcases(by lia:(x=X-1/\y=Y)∨(x=X-1/\y=Y-1)) with⟨a,b⟩|⟨a,b⟩
   ·exact⟨2,by rw[cellK];exact c3 a b⟩
   ·exact⟨5,by rw[cellK];exact c3 a b⟩
  ·have:=in2 h;dsimp only at this;rcases(by lia:(x=X-1/\y=Y-1)∨(x=X/\y=Y-1)) with⟨a,b⟩|⟨a,b⟩
   ·exact⟨4,by rw[cellK];exact c3 a b⟩
   ·exact⟨7,by rw[cellK];exact c3 a b⟩
  ·have:=in3 h;dsimp only at this;rcases(by lia:(x=X/\y=Y)∨(x=X/\y=Y-1)) with⟨a,b⟩|⟨a,b⟩
   ·exact⟨1,by rw[cellK];exact c3 a b⟩
   ·exact⟨6,by rw[cellK];exact c3 a b⟩
 ·obtain⟨X,rfl⟩:∃X,v1=2*X+1:=⟨v1/2,by lia⟩
  obtain⟨Y,rfl⟩:∃Y,v2=2*Y+1:=⟨v2/2,by lia⟩
  rcases e with rfl|rfl|rfl|rfl
  ·have:=in0 h;dsimp only at this;exact⟨5,by rw[xO];exact c3 (by lia) (by lia)⟩
  ·have:=in1 h;dsimp only at this;exact⟨7,by rw[xO];exact c3 (by lia) (by lia)⟩
  ·have:=in2 h;dsimp only at this;exact⟨1,by rw[xO];exact c3 (by lia) (by lia)⟩
  ·have:=in3 h;dsimp only at this;exact⟨3,by rw[xO];exact c3 (by lia) (by lia)⟩
theorem ZA{X Y:Int}{k:Fin 8}{c:C3}(vc:vq c)(h:InC (4*X+(dv k).1,4*Y+(dv k).2) c):c=zj (2*X,2*Y) k∨c=zj (2*X,2*Y) (k+7):=by
 obtain⟨d0,d1,d2,d3,d4,d5,d6,d7⟩:=wK;have c3:∀{a b q a' b':Int},a=a'->b=b'->((a,b,q):C3)=(a',b',q):=λh1 h2=>by rw[h1,h2]
 obtain⟨x,y,e⟩:=vq4 vc;rw[cellK,cellK];rcases k8 k with rfl|rfl|rfl|rfl|rfl|rfl|rfl|rfl<;>simp only[d0,d1,d2,d3,d4,d5,d6,d7] at h<;>rcases e with rfl|rfl|rfl|rfl
 all_goals
  first
   |have z:=in0 h
   |have z:=in1 h
   |have z:=in2 h
   |have z:=in3 h
  dsimp only at z
  first
   |(exfalso;omega)
   |exact .inl (c3 (by omega) (by omega))
   |exact .inr (c3 (by omega) (by omega))
theorem zie{a:Int×Int}{k:Fin 8}(o:okp a k){c:C3}(vc:vq c)(h:InC (2*a.1+(dv k).1,2*a.2+(dv k).2) c):c=zj a k∨c=zj a (k+7):=by
 rcases id o with⟨o1,o2⟩|⟨o1,o2,o3⟩
 ·obtain⟨a1,a2⟩:=a;dsimp only at o1 o2 h;obtain⟨X,rfl⟩:∃X,a1=2*X:=⟨a1/2,by lia⟩
  obtain⟨Y,rfl⟩:∃Y,a2=2*Y:=⟨a2/2,by lia⟩
  rw[show 2*(2*X)=4*X by lia,show 2*(2*Y)=4*Y by lia] at h
  exact ZA vc h
 ·have b1:=va o;have b2:=va (jd.mpr o);rw[wg,f44] at b2;rw[b2,←b1];have od:∀k:Fin 8,k.val%2=1->(dv k).1%2=1/\(dv k).2%2=1:=by decide
  obtain⟨e1,e2⟩:=od k o3;obtain⟨X,hX⟩:∃X,(stp a k).1=2*X:=⟨(stp a k).1/2,by show a.1+(dv k).1=2*((a.1+(dv k).1)/2);lia⟩
  obtain⟨Y,hY⟩:∃Y,(stp a k).2=2*Y:=⟨(stp a k).2/2,by show a.2+(dv k).2=2*((a.2+(dv k).2)/2);lia⟩
  have e:stp a k=(2*X,2*Y):=Qg hX hY;have hX:a.1+(dv k).1=2*X:=hX;have hY:a.2+(dv k).2=2*Y:=hY;rw[e];refine(ZA (k:=k+4) vc ?_).symm;rw[Xa];rw[show 2*a.1+(dv k).1=4*X+ -(dv k).1 by lia,show 2*a.2+(dv k).2=4*Y+ -(dv k).2 by lia] at h
  exact h
section
variable{X Y:Nat}{f:Fr}{cs:List C3}{es ws:List E2}{Ps:List (List C3)}{Wl:List (List E2)}(A:All X Y f cs es ws Ps Wl)
include A
variable{l:List E2}{e:E2}
theorem All.sub'(hl:l∈Wl.map (lpW es))(he:e∈l):e∈es:=A.pm.mem_iff.mp (Uq.mpr ⟨l,hl,he⟩)
theorem All.okl(hl:l∈Wl.map (lpW es)):∀e,e∈l->okE e:=λe he=>A.E.okE (A.sub' hl he)
theorem All.clo(hl:l∈Wl.map (lpW es)):Clo l:=by
 obtain⟨a,h⟩:=(A.loop hl).2.1;exact h.clo
theorem All.apart(hl:l∈Wl.map (lpW es))(hl':l'∈Wl.map (lpW es))(ne:l≠l')(he:e∈l):¬e∈l':=λhe'=>by
 have pw:=A.ndL.2.2;generalize Wl.map (lpW es)=Ls at*;clear A
 induction Ls with
 |nil=>cases hl
 |cons x Ls ih=>
  obtain⟨d1,d2⟩:=FX.mp pw;rcases pS.mp hl with a|a<;>rcases pS.mp hl' with b|b
  ·exact ne (a.trans b.symm)
  ·rw[a] at he;exact d1 l' b e he e he' rfl
  ·rw[b] at he';exact d1 l a e he' e he rfl
  ·exact ih a b d2
theorem All.over(hl:l∈Wl.map (lpW es)){a:Int×Int}{k:Fin 8}(o:okp a k)(n1:¬(a,stp a k)∈l)(n2:¬(stp a k,a)∈l):Wd l (zj a k)=Wd l (zj a (k+7)):=by
 have j:=jump (A.okl hl) (A.clo hl) o;rw[xx n1,xx n2] at j;lia
theorem All.onC(hl:l∈Wl.map (lpW es)){c:C3}(h:Cn (λc=>c∈cs) c d):Wd l d=Wd l c:=h.inv λc d hc hd m=>by
 obtain⟨a,k,o,rfl,rfl⟩:=jD (A.v c hc) m;exact(A.over hl o (λz=>(A.E.at.mp (A.sub' hl z)).2.2 hd) (λz=>(A.E.bk.mp (A.sub' hl z)).2.2 hc)).symm
theorem All.bds(he:e∈es):(0<=e.1.1/\e.1.1<=2*X/\0<=e.1.2/\e.1.2<=2*Y)/\(0<=e.2.1/\e.2.1<=2*X/\0<=e.2.2/\e.2.2<=2*Y):=by
 obtain⟨a,k,rfl,h1,h2,h3⟩:=A.E.of he;have e1:=JG h1;rw[yH] at e1;have i:=A.inn _ h2;have one:∀(v:Int×Int)(i:Fin 8),ok v->(0<=(zj v i).1/\(zj v i).1<X/\0<=(zj v i).2.1/\(zj v i).2.1<Y)->0<=v.1/\v.1<=2*X/\0<=v.2/\v.2<=2*Y:=λv i o h=>by
  have b:=Yy v i;rcases o with⟨o1,o2⟩|⟨o1,o2⟩
  ·omega
  ·rw[yL o1] at h;dsimp only at h;omega
 refine⟨one a k (Wa h1) ⟨i.1,i.2.1,i.2.2.1,i.2.2.2.1⟩,one (stp a k) (k+4+7) (zay h1) ?_⟩;rw[←e1];exact⟨i.1,i.2.1,i.2.2.1,i.2.2.2.1⟩
theorem All.rim(hl:l∈Wl.map (lpW es))(c:C3)(b:inB X Y c)(h:c.1= -1∨c.1=X∨c.2.1= -1∨c.2.1=Y):Wd l c=0:=by
 have bd:=λe(he:e∈l)=>A.bds (A.sub' hl he);have po:8*c.1+1<=xk c/\xk c<=8*c.1+7/\2*c.2.1<=yp c/\yp c<=2*c.2.1+1:=by
  obtain⟨x,y,e⟩:=vq4 b.2.2.2.2;rcases e with rfl|rfl|rfl|rfl
  ·show 8*x+1<=8*x+4/\8*x+4<=8*x+7/\2*y<=2*y/\2*y<=2*y+1
   lia
  ·show 8*x+1<=8*x+7/\8*x+7<=8*x+7/\2*y<=2*y/\2*y<=2*y+1
   lia
  ·show 8*x+1<=8*x+4/\8*x+4<=8*x+7/\2*y<=2*y+1/\2*y+1<=2*y+1
   lia
  ·show 8*x+1<=8*x+1/\8*x+1<=8*x+7/\2*y<=2*y/\2*y<=2*y+1
   lia
 have none:(∀e,e∈l->Uc e (yp c) (xk c)=0/\Uc (rv e) (yp c) (xk c)=0)->Wd l c=0:=λz=>by
  show-Mine.su (λe=>wst e (yp c) (xk c)) l=0
  rw[zP (g:=λ_=>0) λe he=>by unfold wst;rw[(z e he).1,(z e he).2];rfl,wj]
  rfl
 rcases h with h|h|h|h
 ·refine none λe he=>?_;have:=bd e he;unfold Uc mid;exact⟨if_neg (λz=>by lia),if_neg λz=>by have:=z.2;unfold rv at this;dsimp only at this;lia⟩
 ·--all edges lie to the west
  show-Mine.su (λe=>wst e (yp c) (xk c)) l=0
  have z:=A.clo hl λv=>if yp c<v.2 then 1 else 0;rw[zP (g:=λe=>wst e (yp c) (xk c)) λe he=>?_] at z
  ·rw[z];rfl
  ·have:=bd e he;have m1:mid e<xk c:=by unfold mid;lia
   have m2:mid (rv e)<xk c:=by unfold mid rv;dsimp only;lia
   unfold wst Uc
   by_cases a:yp c<e.2.2<;>by_cases b:yp c<e.1.2
   ·rw[if_pos a,if_pos b,if_neg (λz=>by have:=z.1.1;lia),if_neg (λz=>by have:e.2.2<=yp c:=z.1.1;lia)]
    rfl
   ·rw[if_pos a,if_neg b,if_pos ⟨⟨by lia,a⟩,m1⟩,if_neg (λz=>by have:e.2.2<=yp c:=z.1.1;lia)]
   ·rw[if_neg a,if_pos b,if_neg (λz=>by have:=z.1.1;lia),if_pos ⟨⟨by show e.2.2<=yp c;lia,b⟩,m2⟩]
   ·rw[if_neg a,if_neg b,if_neg (λz=>by have:=z.1.2;lia),if_neg (λz=>by have:yp c<e.1.2:=z.1.2;lia)]
 ·refine none λe he=>?_;have:=bd e he;unfold Uc up;exact⟨if_neg (λz=>by lia),if_neg λz=>by have:e.2.2<=yp c:=z.1.1;lia⟩
 ·refine none λe he=>?_;have:=bd e he;unfold Uc up;exact⟨if_neg (λz=>by lia),if_neg λz=>by have:yp c<e.1.2:=z.1.2;lia⟩
theorem All.cross(hl:l∈Wl.map (lpW es))(hl':l'∈Wl.map (lpW es))(ne:l≠l'){w:E2}(hw:w∈ws)(hx:∀e,e∈exW es w->e∈l'){p q:Int}(hp:0<p){e0:E2}(h0:e0∈exW es w):Mine.su (Fx p q (w.1.1+w.2.1,w.1.2+w.2.2)) l= -Wd l (lfC e0):=by
 obtain⟨a,c⟩:=w;obtain⟨k,m,y,b⟩:=A.W.of _ hw;dsimp only at y b;rw[xn y] at hx h0;have ej:∀j:Nat,j<=m->¬(att a k (j:Int),stp (att a k (j:Int)) k)∈l:=λj hj z=>by
  rw[xp] at z;exact A.apart hl hl' ne z (hx _ (wt.mpr ⟨j,hj,rfl⟩))
 have es_:∀j:Nat,j<=m->(att a k (j:Int),stp (att a k (j:Int)) k)∈es:=λj hj=>by rw[xp];exact y.mem j hj
 have rvn:∀j:Nat,j<=m->¬(stp (att a k (j:Int)) k,att a k (j:Int))∈l:=λj hj z=>by
  have:=A.E.at.mp (es_ j hj);exact this.2.2 (A.E.bk.mp (A.sub' hl z)).2.1
 have lj:∀j:Nat,j<=m->Wd l (zj (att a k (j:Int)) k)=Wd l (lfC (a,stp a k)):=λj hj=>by
  have:=A.onC hl ((XG A.E y j hj).symm A.v);rw[←xp,yH] at this;exact this
 have l0:Wd l (lfC e0)=Wd l (lfC (a,stp a k)):=by
  obtain⟨j,hj,rfl⟩:=wt.mp h0;exact A.onC hl ((XG A.E y j hj).symm A.v)
 have fin:=y.fin;have pa:∀j:Int,(att a k j).1=a.1+j*(dv k).1/\(att a k j).2=a.2+j*(dv k).2:=λj=>⟨rfl,rfl⟩;have same:∀d,inB X Y d->InC (a.1+c.1,a.2+c.2) d->Wd l d=Wd l (lfC e0):=λd hd hi=>by
  rw[l0];have f1:c.1=a.1+((m:Int)+1)*(dv k).1:=by rw[fin];rfl
  have f2:c.2=a.2+((m:Int)+1)*(dv k).2:=by rw[fin];rfl
  rcases Nat.mod_two_eq_zero_or_one m with z|z
  ·obtain⟨i,hi2⟩:∃i,m=2*i:=⟨m/2,by lia⟩
   have o:=(A.E.at.mp (es_ i (by lia))).1
   have e:(a.1+c.1,a.2+c.2)=(2*(att a k (i:Int)).1+(dv k).1,2*(att a k (i:Int)).2+(dv k).2):=by
    rw[f1,f2,(pa i).1,(pa i).2,show((m:Nat):Int)+1=2*(i:Int)+1 by lia]
    exact Qg (by dsimp only;grind) (by dsimp only;grind)
   rw[e] at hi;rcases zie o hd.2.2.2.2 hi with r|r
   ·rw[r,lj i (by lia)]
   ·rw[r,←A.over hl o (ej i (by lia)) (rvn i (by lia)),lj i (by lia)]
  ·obtain⟨i,hi2⟩:∃i,m=2*i+1:=⟨m/2,by lia⟩
   have e:(a.1+c.1,a.2+c.2)=(2*(att a k ((i+1:Nat):Int)).1,2*(att a k ((i+1:Nat):Int)).2):=by
    rw[f1,f2,(pa _).1,(pa _).2,show((m:Nat):Int)+1=2*((i+1:Nat):Int) by lia]
    exact Qg (by dsimp only;grind) (by dsimp only;grind)
   rw[e] at hi;have o:=(A.E.at.mp (es_ (i+1) (by lia))).1
   have ov:=Wa o;obtain⟨r,hr⟩:=at_cell ov hd.2.2.2.2 hi;have st:=y.str i (by lia)
   have e1:att a k ((i:Int)+1)=att a k ((i+1:Nat):Int):=rfl;have vs:stp (att a k (i:Int)) k=att a k ((i+1:Nat):Int):=by rw[xp];rfl
   have in1:(att a k (i:Int),att a k ((i+1:Nat):Int))∈es:=y.mem i (by lia)
   rw[←xp] at st;have rnd:∀s:Fin 8,Wd l (zj (att a k ((i+1:Nat):Int)) s)=Wd l (zj (att a k ((i+1:Nat):Int)) (s+7)):=λs=>by
    by_cases os:okp (att a k ((i+1:Nat):Int)) s
    ·have one:∀j',oB (sec cs (att a k ((i+1:Nat):Int))) j'=true->j'=k:=λj' hj'=>by
      have:=A.E.out.mpr hj';rw[←vs] at this;exact Yp st this
     refine A.over hl os (λz=>?_) (λz=>?_)
     ·have:=A.sub' hl z;rw[←vs] at this;have:=Yp st this;rw[this] at z;exact ej (i+1) (by lia) z
     ·have q1:=A.E.inn.mp (A.sub' hl z);have bk:stp (att a k ((i+1:Nat):Int)) (k+4)=att a k (i:Int):=by rw[←vs,wg]
      have q2:=(A.E.inn (a:=att a k ((i+1:Nat):Int)) (k:=k+4)).mp (by rw[bk];exact in1)
      rw[v_one one q1 q2,bk] at z;have:=ej i (by lia)
      rw[vs] at this;exact this z
    ·rcases ov with ov|ov
     ·exact absurd (.inl ov) os
     ·by_cases s2:s.val%2=0
      ·rw[Vq ov.1 s2]
      ·exact absurd (.inr ⟨ov.1,ov.2,by lia⟩) os
   have all8:∀g:Fin 8->Int,(∀s,g s=g (s+7))->∀s t,g s=g t:=λg h s t=>by
    have a1:g 1=g 0:=h 1;have a2:g 2=g 1:=h 2;have a3:g 3=g 2:=h 3;have a4:g 4=g 3:=h 4;have a5:g 5=g 4:=h 5;have a6:g 6=g 5:=h 6;have a7:g 7=g 6:=h 7;have z:∀s,g s=g 0:=fin8 rfl a1 (by lia) (by lia) (by lia) (by lia) (by lia) (by lia)
    rw[z s,z t]
   rw[hr,all8 (λs=>Wd l (zj (att a k ((i+1:Nat):Int)) s)) rnd r k];exact lj (i+1) (by lia)
 have bw:∀e,e∈l->okE e/\inB X Y (lfC e)/\inB X Y (rtC e):=λe he=>by
  obtain⟨a,k,rfl,h1,h2,h3⟩:=A.E.of (A.sub' hl he);have i:=A.inn _ h2;rw[yH,xL];exact⟨⟨a,k,h1,rfl⟩,arnd (j:=k) ⟨i.1,i.2.1,i.2.2.1,i.2.2.2.1⟩,arnd (j:=k) ⟨i.1,i.2.1,i.2.2.1,i.2.2.2.1⟩⟩
 have ba:=A.bds (y.mem 0 (uL _));have bc:=A.bds (y.mem m (pG _));rw[←y.fin] at bc;have a0:att a k ((0:Nat):Int)=a:=xa a k;rw[a0] at ba;dsimp only at ba bc⊢;rw[ziu bw (A.clo hl) (A.rim hl) same,zin hp (by dsimp only;lia) (by dsimp only;lia) (by dsimp only;lia) (by dsimp only;lia)]
 lia
end
variable{P1 P2:List C3}
section
variable{X Y:Nat}{f:Fr}{cs:List C3}{es ws:List E2}{Ps:List (List C3)}{Wl:List (List E2)}(A:All X Y f cs es ws Ps Wl)
include A
theorem All.inB'{c:C3}(h:c∈cs):inB X Y c:=by
 obtain⟨a,b,c,d,e⟩:=A.inn c h;exact⟨by lia,by lia,by lia,by lia,e⟩
variable{b:C3}
theorem All.cls{P:List C3}(hP:P∈Ps)(hb:inB X Y b)(n:¬b∈P):∃h e,h∈lpP (Wl.map (lpW es)) P/\e∈h/\Cn (Vd X Y P) (rtC e) b:=by
 have L:=A.lps hP;rcases L.reach b hb with z|⟨e,he,cn⟩
 ·exact absurd z n
 ·obtain⟨h,hh,eh⟩:=L.at he;exact⟨h,e,hh,eh,cn⟩
theorem All.trich(h1:P1∈Ps)(h2:P2∈Ps)(ne:P1≠P2){c1 c2:C3}(hb:inB X Y b)(n:¬b∈P2)(hc1:c1∈P1)(hc2:c2∈P2):(∀l,l∈lpP (Wl.map (lpW es)) P2->Wd l c1=Wd l b)∨(∀l,l∈lpP (Wl.map (lpW es)) P1->Wd l c2=Wd l b):=by
 have L1:=A.lps h1;have L2:=A.lps h2;have dis:∀c,c∈P1->¬c∈P2:=λc a1 a2=>ne (A.pr.one h1 h2 a1 a2);obtain⟨h,e,hh,he,cn⟩:=A.cls h2 hb n;have wb:Wd h b=Wd h c2-1:=by rw[L2.offP hh cn];exact L2.rt hh he hc2
 have i1:=A.inB' (A.sP h1 hc1);rcases L2.two hh hc2 c1 i1 with z|z
 ·refine .inr λl hl=>?_;have hlM:=((xV A).mp hl).1;have hhM:=((xV A).mp hh).1;have off:∀c,Wd h c=Wd h c2-1->¬c∈P1:=λc w q=>by
   have:=A.onC hhM ((A.pr.con P1 h1 c1 c hc1 q));lia
  have lfl:∀x,x∈l->lfC x∈P1:=((xV A).mp hl).2;have path:∀d,Cn (Vd X Y P2) (rtC e) d->Wd l d=Wd l (rtC e):=λd cn=>by
   induction cn with
   |refl _=>rfl
   |@step x d k m s ih=>
    have wx:Wd h x=Wd h c2-1:=by rw[L2.offP hh k];exact L2.rt hh he hc2
    have wd:Wd h d=Wd h c2-1:=by rw[L2.offP hh (.step k m s)];exact L2.rt hh he hc2
    obtain⟨a,r,o,rfl,rfl⟩:=jD k.lst.1.2.2.2.2 m;rw[←ih];refine(A.over hlM o (λq=>?_) λq=>?_).symm
    ·have:=lfl _ q;rw[yH] at this;exact off _ wx this
    ·have:=lfl _ q;have e1:(stp a r,a)=(stp a r,stp (stp a r) (r+4)):=by rw[wg]
     rw[e1,yH,va o] at this;exact off _ wd this
  rw[path b cn];have hee:=L2.sub hh he;obtain⟨a,r,rfl,o,i,j⟩:=L2.edg.of hee;have e2:Wd l (zj a r)=Wd l (zj a (r+7)):=by
   refine A.over hlM o (λq=>?_) (λq=>?_)
   ·have:=lfl _ q;rw[yH] at this;exact dis _ this i
   ·exact(A.E.bk.mp (A.sub' hlM q)).2.2 (A.sP h2 i)
  rw[xL,←e2];exact A.onC hlM (A.pr.con P2 h2 _ _ i hc2)
 ·refine .inl λl hl=>?_
  by_cases el:l=h
  ·rw[el,z,wb]
  ·have u1:=L2.two hl hc2 c1 i1;have u2:=L2.two hl hc2 b hb;rcases u1 with u1|u1
   ·rcases u2 with u2|u2
    ·rw[u1,u2]
    ·exact absurd (L2.uniq hc2 hb n hl hh u2 wb) el
   ·exact absurd (L2.uniq hc2 i1 (dis _ hc1) hl hh u1 z) el
theorem All.outer{P:List C3}(hP:P∈Ps)(h0:c0∈P):∃o,o∈lpP (Wl.map (lpW es)) P/\Wd o c0=1/\0<lace o/\∀l,l∈lpP (Wl.map (lpW es)) P->l≠o->Wd l c0=0/\lace l<0:=by
 have L:=A.lps hP;have s:Mine.su (λl=> -Wd l c0) (lpP (Wl.map (lpW es)) P)= -1:=by rw[wN,L.w1 h0]
 obtain⟨o,ho,w⟩:=su_ex (f:=λl=> -Wd l c0) (λl hl=>by rcases L.w01 hl h0 with z|z<;>lia) s
 have w: -Wd o c0= -1:=w;refine⟨o,ho,by lia,L.posL ho h0 (by lia),λl hl ne=>?_⟩
 rcases L.w01 hl h0 with z|z
 ·exact⟨z,L.neg hl h0 z⟩
 ·exact absurd (Jc (f:=λl=> -Wd l c0) (λl hl=>by rcases L.w01 hl h0 with z|z<;>lia) s hl ho (by lia) (by lia)) ne
theorem All.seen{P:List C3}(hP:P∈Ps){o:C3}{ou:List E2}(h0:c0∈P)(hb:inB X Y b)(n:¬b∈P)(ho:ou∈lpP (Wl.map (lpW es)) P)(w:Wd ou c0=1)(oth:∀l,l∈lpP (Wl.map (lpW es)) P->l≠ou->Wd l c0=0):(∀l,l∈lpP (Wl.map (lpW es)) P->Wd l b=0)∨(Wd ou b=1/\∃h,h∈lpP (Wl.map (lpW es)) P/\h≠ou/\Wd h b= -1/\∀l,l∈lpP (Wl.map (lpW es)) P->l≠ou->l≠h->Wd l b=0):=by
 have L:=A.lps hP;obtain⟨h,e,hh,he,cn⟩:=A.cls hP hb n;have wb:Wd h b=Wd h c0-1:=by rw[L.offP hh cn];exact L.rt hh he h0
 have oth2:∀l,l∈lpP (Wl.map (lpW es)) P->l≠h->Wd l b=Wd l c0:=λl hl ne=>by
  rcases L.two hl h0 b hb with z|z
  ·exact z
  ·exact absurd (L.uniq h0 hb n hl hh z wb) ne
 by_cases c:h=ou
 ·refine .inl λl hl=>?_
  by_cases d:l=h
  ·rw[d,wb,c,w];rfl
  ·rw[oth2 l hl d];exact oth l hl λz=>d (z.trans c.symm)
 ·refine .inr ⟨by rw[oth2 ou ho λz=>c z.symm];exact w,h,hh,c,by rw[wb,oth h hh c];rfl,λl hl n1 n2=>by rw[oth2 l hl n2];exact oth l hl n1⟩
end
theorem zan{α:Type}{S:α->Prop}{R:α->α->Prop}(irr:∀a,S a->¬R a a)(tr:∀a b c,S a->S b->S c->R a b->R b c->R a c):∀{l:List α},(∃x,x∈l/\S x)->∃m,m∈l/\S m/\∀y,y∈l->S y->¬R y m
 |[],h=>by
  obtain⟨x,hx,_⟩:=h
  cases hx
 |x::l,h=>by
  by_cases c:∃y,y∈l/\S y
  ·obtain⟨m,hm,sm,mn⟩:=zan irr tr c
   by_cases d:S x/\R x m
   ·refine⟨x,by simp,d.1,λy hy sy r=>?_⟩
    rcases pS.mp hy with z|z
    ·rw[z] at r;exact irr x d.1 r
    ·exact mn y z sy (tr y x m sy d.1 sm r d.2)
   ·refine⟨m,pE _ hm,sm,λy hy sy r=>?_⟩;rcases pS.mp hy with z|z
    ·rw[z] at sy r;exact d ⟨sy,r⟩
    ·exact mn y z sy r
  ·obtain⟨y,hy,sy⟩:=h;have e:y=x:=(pS.mp hy).resolve_right λz=>c ⟨y,z,sy⟩;subst e;refine⟨y,by simp,sy,λz hz sz r=>?_⟩
   rcases pS.mp hz with q|q
   ·rw[q] at r;exact irr y sy r
   ·exact c ⟨z,q,sz⟩
noncomputable def hdC(l:List E2):C3:=lfC (l.headD ((0,0),(0,0)))
theorem hd_mem{l:List E2}(h:l≠[]):l.headD ((0,0),(0,0))∈l:=by
 cases l with
 |nil=>exact absurd rfl h
 |cons x l=>exact pj ..
def Rnd(j k:List E2):Prop:=j≠k/\Wd j (hdC k)≠0
section
variable{X Y:Nat}{f:Fr}{cs:List C3}{es ws:List E2}{Ps:List (List C3)}{Wl:List (List E2)}(A:All X Y f cs es ws Ps Wl)
include A
variable{l:List E2}
theorem All.hd(hl:l∈Wl.map (lpW es)){P:List C3}(h:l∈lpP (Wl.map (lpW es)) P):hdC l∈P:=((xV A).mp h).2 _ (hd_mem (A.loop hl).1)
theorem All.part(hl:l∈Wl.map (lpW es)):∃P,P∈Ps/\l∈lpP (Wl.map (lpW es)) P:=by
 obtain⟨P,hP,h⟩:=(A.loop hl).2.2.2;exact⟨P,hP,(xV A).mpr ⟨hl,h⟩⟩
theorem All.con1(hl:l∈Wl.map (lpW es)){P:List C3}(hP:P∈Ps){c:C3}(hc:c∈P)(hd:d∈P):Wd l c=Wd l d:=(A.onC hl (A.pr.con P hP c d hc hd)).symm
theorem All.ofP{P:List C3}(h:l∈lpP (Wl.map (lpW es)) P):l∈Wl.map (lpW es):=((xV A).mp h).1
def ve(Ls:List (List E2))(P P':List C3):Prop:=P≠P'/\∃l c,l∈lpP Ls P'/\c∈P/\Wd l c≠0
theorem All.anti{P P':List C3}(hP:P∈Ps)(hP':P'∈Ps)(a:ve (Wl.map (lpW es)) P P')(b:ve (Wl.map (lpW es)) P' P):False:=by
 obtain⟨ne,l,c,hl,hc,w⟩:=a;obtain⟨_,l',c',hl',hc',w'⟩:=b;have L:=A.lps hP;have fb:=L.farB;have L':=A.lps hP';have z:∀l,l∈Wl.map (lpW es)->Wd l (-1,-1,3)=0:=λl hl=>A.rim hl _ fb.1 (.inl rfl);rcases A.trich hP hP' ne fb.1 L'.farB.2 hc hc' with t|t
 ·exact w (by rw[t l hl,z l (A.ofP hl)])
 ·exact w' (by rw[t l' hl',z l' (A.ofP hl')])
theorem All.trn{P:List C3}(hP:P∈Ps)(h1:P1∈Ps)(h2:P2∈Ps)(a:ve (Wl.map (lpW es)) P P1)(b:ve (Wl.map (lpW es)) P1 P2):ve (Wl.map (lpW es)) P P2:=by
 have ne:P≠P2:=λz=>by
  subst z;exact A.anti hP h1 a b
 obtain⟨n1,l,c,hl,hc,w⟩:=id a;obtain⟨n2,l',c',hl',hc',w'⟩:=id b;obtain⟨c2,hc2⟩:=A.pr.ne P2 h2;rcases A.trich h1 h2 n2 (A.inB' (A.sP hP hc)) (λz=>ne (A.pr.one hP h2 hc z)) hc' hc2 with t|t
 ·exact⟨ne,l',c,hl',hc,by rw[←t l' hl'];exact w'⟩
 ·exact(A.anti h1 h2 b ⟨n2.symm,l,c2,hl,hc2,by rw[t l hl];exact w⟩).elim
theorem All.nest{k:List E2}(hk:k∈Wl.map (lpW es)):
  ((∀j,j∈Wl.map (lpW es)->¬Rnd j k)->0<lace k)/\
  (∀j,j∈Wl.map (lpW es)->Rnd j k->(∀i,i∈Wl.map (lpW es)->Rnd i k->i≠j->Rnd i j)->((0<lace k↔¬0<lace j)/\∀i,i∈Wl.map (lpW es)->(Rnd i j↔Rnd i k/\i≠j)))/\
  ((∃j,j∈Wl.map (lpW es)/\Rnd j k)->∃j,j∈Wl.map (lpW es)/\Rnd j k/\∀i,i∈Wl.map (lpW es)->Rnd i k->i≠j->Rnd i j):=by
 obtain⟨P,hP,kP⟩:=A.part hk;have ck:=A.hd hk kP;obtain⟨o,ho,wo,lo,oth⟩:=A.outer hP ck;have hoM:=A.ofP ho;have co:=A.hd hoM ho;have inP:∀i,i∈lpP (Wl.map (lpW es)) P->∀c,c∈P->(Wd i c≠0↔i=o):=λi hi c hc=>by
  rw[A.con1 (A.ofP hi) hP hc ck]
  constructor
  ·intro z;exact QK λn=>z (oth i hi n).1
  ·intro z;rw[z,wo]
   decide
 have dif:∀{i:List E2}{P1:List C3},P1∈Ps->P1≠P->i∈lpP (Wl.map (lpW es)) P1->i∈lpP (Wl.map (lpW es)) P->False:=λh1 n hi hi'=>n (A.pr.one h1 hP (A.hd (A.ofP hi) hi) (A.hd (A.ofP hi) hi'));have far:∀{P1:List C3},P1∈Ps->P1≠P->∀{i:List E2},i∈lpP (Wl.map (lpW es)) P1->Wd i (hdC k)≠0->ve (Wl.map (lpW es)) P P1:=λ{P1} h1 n{i} hi w=>⟨n.symm,i,hdC k,hi,ck,w⟩;refine⟨λno=>?_,λj hj rj cond=>?_,λ⟨j,hj,rj⟩=>?_⟩
 ·by_cases c:k=o
  ·rw[c];exact lo
  ·exact(no o hoM ⟨λz=>c z.symm,by rw[wo];decide⟩).elim
 ·obtain⟨P1,h1,jP⟩:=A.part hj
  by_cases e:P1=P
  ·subst e;have jo:j=o:=(inP j jP _ ck).mp rj.2;subst jo;have ko:k≠j:=λz=>rj.1 z.symm;have lk:=(oth k kP ko).2;refine⟨⟨λz=>by lia,λz=>absurd lo z⟩,λi hi=>?_⟩
   obtain⟨P2,h2,iP⟩:=A.part hi;have cc:Wd i (hdC j)=Wd i (hdC k):=A.con1 hi hP co ck
   by_cases e2:P2=P1
   ·subst e2
    constructor
    ·rintro⟨n,w⟩;exact absurd ((inP i iP _ co).mp w) n
    ·rintro⟨⟨_,w⟩,n⟩;exact absurd ((inP i iP _ ck).mp w) n
   ·constructor
    ·rintro⟨n,w⟩;exact⟨⟨λz=>dif h2 e2 iP (by rw[z];exact kP),by rw[←cc];exact w⟩,n⟩
    ·rintro⟨⟨_,w⟩,n⟩;exact⟨n,by rw[cc];exact w⟩
  ·have ins:=far h1 e jP rj.2;have ko:k=o:=QK λn=>by
    have r:=cond o hoM ⟨λz=>n z.symm,by rw[wo];decide⟩ (λz=>dif h1 e jP (by rw[←z];exact ho))
    exact A.anti hP h1 ins ⟨e,o,hdC j,ho,A.hd hj jP,r.2⟩
   subst ko;have cj:=A.hd hj jP;obtain⟨o1,ho1,wo1,lo1,oth1⟩:=A.outer h1 cj;have bk:=A.inB' (A.sP hP ck);have nk:¬hdC k∈P1:=λz=>e (A.pr.one h1 hP z ck);rcases A.seen (o:=(0,0,0)) h1 cj bk nk ho1 wo1 (λl hl n=>(oth1 l hl n).1) with z|⟨w1,h,hh,nh,wh,rest⟩
   ·exact absurd (z j jP) rj.2
   ·have jh:j=h:=QK λn=>by
     have jo:j=o1:=QK λn'=>rj.2 (rest j jP n' n);have hk':h≠k:=λz=>dif h1 e (by rw[←z];exact hh) kP
     have r:=cond h (A.ofP hh) ⟨hk',by rw[wh];decide⟩ (λz=>n z.symm)
     exact r.2 (oth1 h hh nh).1
    subst jh;refine⟨⟨λ_ z=>by have:=(oth1 j jP nh).2;lia,λ_=>lo⟩,λi hi=>?_⟩
    obtain⟨P2,h2,iP⟩:=A.part hi
    by_cases e1:P2=P1
    ·subst e1
     constructor
     ·rintro⟨n,w⟩;have io:i=o1:=QK λn'=>w (oth1 i iP n').1;subst io;exact⟨⟨λz=>dif h1 e iP (by rw[z];exact kP),by rw[w1];decide⟩,n⟩
     ·rintro⟨⟨_,w⟩,n⟩;have io:i=o1:=QK λn'=>w (rest i iP n' n);subst io;exact⟨n,by rw[wo1];decide⟩
    ·by_cases e2:P2=P
     ·subst e2
      constructor
      ·rintro⟨n,w⟩;exact(A.anti hP h1 ins ⟨e,i,hdC j,iP,cj,w⟩).elim
      ·rintro⟨⟨n,w⟩,_⟩;exact absurd ((inP i iP _ ck).mp w) n
     ·have nk2:¬hdC k∈P2:=λz=>e2 (A.pr.one h2 hP z ck);obtain⟨c2,hc2⟩:=A.pr.ne P2 h2;rcases A.trich h1 h2 (λz=>e1 z.symm) bk nk2 cj hc2 with t|t
      ·rw[show Rnd i j↔i≠j/\Wd i (hdC k)≠0 by unfold Rnd;rw[t i iP]]
       exact⟨λ⟨n,w⟩=>⟨⟨λz=>dif h2 e2 iP (by rw[z];exact kP),w⟩,n⟩,λ⟨⟨_,w⟩,n⟩=>⟨n,w⟩⟩
      ·have i21:ve (Wl.map (lpW es)) P2 P1:=⟨e1,j,c2,jP,hc2,by rw[t j jP];exact rj.2⟩
       constructor
       ·rintro⟨n,w⟩;exact(A.anti h1 h2 ⟨λz=>e1 z.symm,i,hdC j,iP,cj,w⟩ i21).elim
       ·rintro⟨r,n⟩;have r2:=cond i hi r n;exact(A.anti h1 h2 ⟨λz=>e1 z.symm,i,hdC j,iP,cj,r2.2⟩ i21).elim
 ·by_cases ko:k=o
  ·subst ko;obtain⟨P0,h0,jP⟩:=A.part hj;have n0:P0≠P:=λz=>by
    subst z;exact rj.1 ((inP j jP _ ck).mp rj.2)
   obtain⟨P1,h1,ins,mn⟩:=zan (S:=λQ=>Q∈Ps/\ve (Wl.map (lpW es)) P Q) (R:=λQ Q'=>ve (Wl.map (lpW es)) Q Q') (λa _ r=>r.1 rfl) (λa b c sa sb sc r r'=>A.trn sa.1 sb.1 sc.1 r r') (l:=Ps) ⟨P0,h0,h0,far h0 n0 jP rj.2⟩;have e:P1≠P:=λz=>ins.2.1 z.symm;obtain⟨_,l,c,hl,hc,w⟩:=ins.2;rw[A.con1 (A.ofP hl) hP hc ck] at w;obtain⟨c1,hc1⟩:=A.pr.ne P1 h1;obtain⟨o1,ho1,wo1,lo1,oth1⟩:=A.outer h1 hc1;have bk:=A.inB' (A.sP hP ck);have nk:¬hdC k∈P1:=λz=>e (A.pr.one h1 hP z ck);rcases A.seen (o:=(0,0,0)) h1 hc1 bk nk ho1 wo1 (λl hl n=>(oth1 l hl n).1) with z|⟨w1,h,hh,nh,wh,rest⟩
   ·exact absurd (z l hl) w
   ·have hhM:=A.ofP hh;have ch:=A.hd hhM hh;refine⟨h,hhM,⟨λz=>dif h1 e hh (by rw[z];exact kP),by rw[wh];decide⟩,λi hi ri ne=>⟨ne,?_⟩⟩
    obtain⟨P2,h2,iP⟩:=A.part hi
    by_cases e2:P2=P
    ·subst e2;exact absurd ((inP i iP _ ck).mp ri.2) ri.1
    ·by_cases e1:P2=P1
     ·subst e1;have io:i=o1:=QK λn'=>ri.2 (rest i iP n' ne);subst io;rw[A.con1 hi h1 ch hc1,wo1]
      decide
     ·have nk2:¬hdC k∈P2:=λz=>e2 (A.pr.one h2 hP z ck);obtain⟨c2,hc2⟩:=A.pr.ne P2 h2;rcases A.trich h1 h2 (λz=>e1 z.symm) bk nk2 ch hc2 with t|t
      ·rw[t i iP];exact ri.2
      ·exfalso
       refine mn P2 h2 ⟨h2,far h2 e2 iP ri.2⟩ ⟨e1,h,c2,hh,hc2,?_⟩;rw[t h hh,wh]
       decide
  ·refine⟨o,hoM,⟨λz=>ko z.symm,by rw[wo];decide⟩,λi hi ri ne=>⟨ne,?_⟩⟩
   rw[A.con1 hi hP co ck];exact ri.2
end
def RgP(H:Hp)(p:Addr)(r:List (Int×Int)):Prop:=∃zs,H p=some (.lst zs)/\LR P2H H zs r
def RgP.same{H H':Hp}{p:Addr}{r:List (Int×Int)}(h:RgP H p r)(g:ze H H'):RgP H' p r:=by
 obtain⟨zs,h1,h2⟩:=h;exact⟨zs,g _ _ h1,h2.ts xC (zI g)⟩
def RgP.put{H:Hp}{p R:Addr}{r:List (Int×Int)}{ys:List V}{o:HO}(h:RgP H p r)(ne:p≠R)(hR:H R=some (.lst ys)):RgP (upd H R o) p r:=by
 obtain⟨zs,h1,h2⟩:=h;exact⟨zs,by rw[zh ne];exact h1,h2.ts xC (yS hR)⟩
def BkG(f:Fr)(S:Int×Int->Prop)(H:Hp)(d:Addr)(kvs:List (List Key×V)):Prop:=H d=some (.dT kvs)/\∀x,S x->∃b,zr kvs (kQ (PF f x))=some (.ref b)/\P2H H b (mv f x)
variable{d:Addr}
def BkG.same{f:Fr}{S:Int×Int->Prop}{H H':Hp}{kvs:List (List Key×V)}(h:BkG f S H d kvs)(g:ze H H'):BkG f S H' d kvs:=⟨g _ _ h.1,λe he=>by
 obtain⟨b,e1,e2⟩:=h.2 e he;exact⟨b,e1,g _ _ e2⟩⟩
def BkG.put{f:Fr}{S:Int×Int->Prop}{H:Hp}{c:Addr}{kvs:List (List Key×V)}{x:Int×Int}(w0:0<f.w)(d0:0<fd2 f)(h:BkG f S H d kvs)(hc:P2H H c (mv f x)):BkG f (λy=>S y∨y=x) (upd H d (HO.dT (putK kvs (kQ (PF f x)) (V.ref c)))) d (putK kvs (kQ (PF f x)) (V.ref c)):=by
 have ts:zJ H (upd H d (HO.dT (putK kvs (kQ (PF f x)) (V.ref c)))):=λb xs q=>by
  rw[zh (λz=>by rw[z,h.1] at q;cases q)]
  exact q
 refine⟨upd_same,λy hy=>?_⟩;rw[vf]
 by_cases cx:kQ (PF f y)=kQ (PF f x)
 ·rw[if_pos cx];have e:y=x:=wC w0 d0 (wP cx);exact⟨c,rfl,by rw[e];exact ts _ _ hc⟩
 ·rw[if_neg cx];rcases hy with z|z
  ·obtain⟨b,q1,q2⟩:=h.2 y z;exact⟨b,q1,ts _ _ q2⟩
  ·exact absurd (by rw[z]) cx
inductive Z5 (vs:List V) (H:Hp) (Q:VK) (E:XK):Prop
 |mk (l:Addr) (ys:List V) (ws:List E2) (f:Fr) (_:vs=[.ref l,.int f.w]) (_:H l=some (.lst ys)) (_:ys.length<=191) (_:LR (MwH f) H ys ws) (_:FrB f) (_:0<fd2 f) (_:∀D kvs H',H D=none->ze H H'->BkG f (λx=>∃e,e∈ws/\x=e.1) H' D kvs->Q (.ref D) H'):Z5 vs H Q E
inductive BckI (H:Hp) (l D:Addr) (f:Fr) (ws:List E2) (i:Nat) (σ:St) (H':Hp):Prop
 |mk (kvs:List (List Key×V)) (o1 o2:Option V) (S:Int×Int->Prop) (_:σ=[some (V.ref l),some (V.int f.w),some (V.ref D),o1,o2]) (_:ze H H') (_:kvs.length<=2*i) (_:BkG f S H' D kvs) (_:∀e,e∈ws.take i->S e.1):BckI H l D f ws i σ H'
theorem zhf(T:Txt K mg ad fd):zv P w K mg base CX0 3 (ad 36) (fd 36) ["_law_ways","_law_share"] Z5:=by
 refine T.law_back.fn.ok Y1 (λvs H Q E h=>?_) (λcdv A outer s H vs Q E hr h=>?_)
 ·obtain⟨l,ys,ws,f,rfl,_⟩:=h;rfl
 obtain⟨l,ys,ws,f,rfl,hl,ny,hw,fb,d0,k⟩:=h;refine⟨_,
  (pss3
   (zk 2 Y1.nd Xz)
   (yv uE rfl (yd (pm 0)) (vU (n:=2) rfl (xt (zD 3 Y1.nd) (xt (zD 4 Y1.nd) vI))) (pss2
   (Xb (xj hr) (pm 2) (zu (YV T) T.law_point hr (pa3 (zd zf (pm 3) za) zY (zd zf (pm 3) za) zY (pm 1) zb)) (pm 3) rfl)
   (Xb (xj hr) (pm 2) (zu (YV T) T.law_point hr (pa3 (zd zf (pm 4) za) zY (zd zf (pm 4) za) zY (pm 1) zb)) (pm 4) rfl)))
   (zq (pm 2)))
  ,?_⟩
 dsimp! [L2.start]
 have w0:0<f.w:=by have:=fb.2.2.2.2.2.2.1;lia
 simp! [XD];intro D hD;have gD:=zg hD (HO.dT []);refine yo ?_;simp! [zX];refine⟨⟨_,.of (gD _ _ hl)⟩,?_⟩;refine xz (K:=K) (a:=l) (xs:=ys) (BckI H l D f ws) ⟨[],none,none,λ_=>False,rfl,gD,pG _,⟨upd_same,λx z=>z.elim⟩,λe he=>(by rw[Qs] at he;cases he)⟩ (λi σ H' _ iv=>.of (by obtain⟨_,_,_,_,_,g,_⟩:=iv;exact g _ _ hl)) ?_ ?_
 ·intro _ _;rintro i v σ H4 hi ⟨kvs,o1,o2,S,rfl,g4,nk,bk,al⟩;obtain⟨p,e,rfl,he',⟨c,d,h1,h2,h3⟩,b1,b2⟩:=hw.2 i v hi;have hi':=(pF.mp hi).1;have h1':=g4 _ _ h1;have h2':H4 c=some (.tup [.int (mv f e.1).1,.int (mv f e.1).2]):=g4 _ _ h2;have h3':H4 d=some (.tup [.int (mv f e.2).1,.int (mv f e.2).2]):=g4 _ _ h3;simp! [YC,h1',h2'];refine⟨_,_,_,rfl,jE fb b1,w0,λpa H5 g5 ha=>?_⟩;have ha:QH H5 pa (PF f e.1):=ha;have bk5:=bk.same g5;refine⟨_,.t (k:=kQ (PF f e.1)) bk5.1 ha.1 (small1000 (by lia)),?_⟩
  have bk6:=bk5.put w0 d0 (x:=e.1) (c:=c) (g5 _ _ h2');have g6:ze H (upd H5 D (HO.dT (putK kvs (kQ (PF f e.1)) (V.ref c)))):=zW (g4.trans g5) hD;have l6:=vk kvs (kQ (PF f e.1)) (V.ref c);generalize putK kvs (kQ (PF f e.1)) (V.ref c)=kv6 at*;generalize upd H5 D (HO.dT kv6)=H6 at*;have h36:H6 d=some (.tup [.int (mv f e.2).1,.int (mv f e.2).2]):=g6 _ _ h3;simp! [h36];refine⟨_,_,_,rfl,jE fb b2,w0,λpb H7 g7 hb=>?_⟩;have hb:QH H7 pb (PF f e.2):=hb;have bk7:=bk6.same g7;refine⟨_,.t (k:=kQ (PF f e.2)) bk7.1 hb.1 (small1000 (by lia)),?_⟩
  refine⟨_,_,_,_,rfl,zW (g6.trans g7) hD,pz (vk _ _ _) (by lia),bk7.put w0 d0 (x:=e.2) (c:=d) (g7 _ _ h36),λx hx=>?_⟩
  rw[uA,he'] at hx;rcases pd.mp hx with z|z
  ·exact .inl (.inl (al x z))
  ·have:x=e:=by simpa using z
   rw[this];exact .inl (.inr rfl)
 ·rintro σ H4 ⟨kvs,o1,o2,S,rfl,g4,nk,bk,al⟩;rw[pV (Qi hw.1.symm)] at al;simp! [];refine k D kvs H4 hD g4 ⟨bk.1,λx⟨e,he,ex⟩=>?_⟩;rw[ex];exact bk.2 e.1 (al e he)
inductive zdb (vs:List V) (H:Hp) (Q:VK) (E:XK):Prop
 |mk (F B:Addr) (fs:List V) (rs:List (List (Int×Int))) (f:Fr) (S:Int×Int->Prop) (kvs:List (List Key×V)) (_:vs=[.ref F,.ref B]) (_:H F=some (.lst fs)) (_:fs.length<=100) (_:LR RgQ H fs (rs.map (DJ (PF f)))) (_:(∀r,r∈rs->3<=r.length/\r.length<=200/\∀a,a∈r->S a)) (_:BkG f S H B kvs) (_:∀D zs H',H D=none->ze H H'->H' D=some (.lst zs)->LR RgP H' zs (rs.map (DJ (mv f)))->Q (.ref D) H'):zdb vs H Q E
def RgPN(R:Addr)(H:Hp)(p:Addr)(r:List (Int×Int)):Prop:=p≠R/\RgP H p r
inductive RglI (H:Hp) (F B D:Addr) (f:Fr) (rs:List (List (Int×Int))) (i:Nat) (σ:St) (H':Hp):Prop
 |mk (zs:List V) (o1 o2:Option V) (_:σ=[some (V.ref F),some (V.ref B),some (V.ref D),o1,o2]) (_:ze H H') (_:H' D=some (.lst zs)) (_:LR (RgPN D) H' zs ((rs.take i).map (DJ (mv f)))):RglI H F B D f rs i σ H'
theorem zi9(T:Txt K mg ad fd):zv P w K mg base CX0 1 (ad 37) (fd 37) ["_law_found","_law_back_here"] zdb:=by
 refine T.law_rings.fn.ok Yo (λvs H Q E h=>?_) (λcdv A outer s H vs Q E hr h=>?_)
 ·obtain⟨F,B,fs,rs,f,S,kvs,rfl,_⟩:=h;rfl
 obtain⟨F,B,fs,rs,f,S,kvs,rfl,hF,nf,hfs,hrr,hB,k⟩:=h;refine⟨_,
  (pss4
   (zL (vQ (xc (ya (jt VN) rfl T.b_isinstance jn (pa2 (pm 0) zb (jm (v:=.ty "list") rfl T.b_list jH rfl) zb)))) (zp (zq qd)) zR)
   (zk 2 Yo.nd (yN yM))
   (yv uE rfl (yd (pm 0)) (zD 3 Yo.nd) (pss3
   (zL (PW.pt (vz (vQ (xc (ya (jt VN) rfl T.b_isinstance jn (pa2 (pm 3) zb (jm (v:=.ty "list") rfl T.b_list jH rfl) zb)))) (j4 (zM xF (ya y7 rfl T.b_len yG (pa1 (pm 3) zb)) za (nomark _))))) (zp (zq qd)) zR)
   (yv uE rfl (yd (pm 3)) (zD 4 Yo.nd) (zp (zL (Yn (Zk (xj hr) (pm 4) (pm 1))) (zp (zq qd)) zR)))
   (xD (xM uQ uo uq xU (pm 2) (pa1 (xT Yo ["_law_one"] [1] (yd (pm 3)) (λcl C fp s2 H2 xe=>⟨(zD 0 (show UG (["_law_one","_law_back_here"]:List Str) from by decide+kernel)),wI,(qk (xj hr) (pm 1) (pm 0) λ_ _=>rfl)⟩)) v7)))))
   (zq (pm 2)))
  ,?_⟩
 dsimp! [L2.start]
 have lfs:=hfs.1;rw[pC] at lfs;simp! [];refine⟨_,JC hF,?_⟩;rw[isi_ll];refine yE λD hD=>?_;have gD:=zg hD (HO.lst []);refine yo ?_;simp! [zX];refine⟨⟨_,.of (gD _ _ hF)⟩,?_⟩;refine xz (K:=K) (a:=F) (xs:=fs) (RglI H F B D f rs) ⟨[],none,none,rfl,gD,upd_same,.nil⟩ (λi σ H' _ iv=>.of (by obtain⟨_,_,_,_,g,_⟩:=iv;exact g _ _ hF)) ?_ ?_
 ·intro _ _;rintro i v σ H3 hi ⟨zs,o1,o2,rfl,g3,hD3,hz⟩;obtain⟨p,q,rfl,hq',us,hp,hu⟩:=hfs.2 i v hi;have hi':=(pF.mp hi).1;obtain⟨r,hr1⟩:∃r,rs[i]?=some r:=⟨_,pJ (by lia)⟩
  rw[pT,hr1] at hq'
  cases hq';obtain⟨r3,r200,rS⟩:=hrr r (pX hr1);have lu:=hu.1;rw[pC] at lu;have hp3:=g3 _ _ hp;have hB3:=hB.same g3;have lz:=hz.1;rw[pC,uI] at lz;simp! [hp3];refine⟨_,JC hp3,?_⟩;rw[isi_ll];refine yE ?_;rw[if_neg (by rw[decide_eq_true_iff];lia)]
  have at_:∀(n:Nat)(v:V),us[n]?=some v->∃b a c,v=.ref b/\r[n]?=some a/\QH H b (PF f a)/\zr kvs (kQ (PF f a))=some (.ref c)/\P2H H c (mv f a):=λn v hv=>by
   obtain⟨b,q,rfl,hq,hb⟩:=hu.2 n v hv;obtain⟨a,ha⟩:∃a,r[n]?=some a:=⟨_,pJ (by have:=(pF.mp hv).1;lia)⟩
   rw[pT,ha] at hq
   cases hq;obtain⟨c,v1,p1⟩:=hB.2 a (rS a (pX ha));exact⟨b,a,c,rfl,ha,hb,v1,p1⟩
  refine yo ?_;simp! [zX];refine⟨⟨_,.of hp3⟩,?_⟩;refine xz (K:=K) (a:=p) (xs:=us) (λ_ σ H'=>H'=H3/\∃o,σ=[some (V.ref F),some (V.ref B),some (V.ref D),some (V.ref p),o]) ⟨rfl,_,rfl⟩ (λi σ H' _ iv=>.of (by rw[iv.1];exact hp3)) ?_ ?_
  ·intro _ _;rintro n v σ H4 hn ⟨rfl,o,rfl⟩;obtain⟨b,a,c,rfl,ha,hb,v1,p1⟩:=at_ n v hn;simp! [Vz];refine⟨_,.t (k:=kQ (PF f a)) hB3.1 (g3 _ _ hb.1),?_⟩;rw[v1];refine yE ?_
   trivial
  ·rintro σ H4 ⟨rfl,o,rfl⟩;simp! [];refine⟨xB hD3,y9 ?_⟩;simp! [zX];refine⟨⟨_,.of hp3⟩,λCc hCc=>?_⟩;refine xG (xs:=us) (vB (λH p a=>P2H H p (mv f a)) r H4 Cc) (qp hCc) (λn qs H' z=>.of (z.1 _ _ hp3)) ?_ ?_
   ·rintro n qs H5 v hn hvv iv;obtain⟨g5,hC5,lq,hq⟩:=id iv;obtain⟨b,a,c,rfl,ha,hb,v1,p1⟩:=at_ n v hvv;simp! [qT];refine⟨.ref c,by rw[←v1];exact .t (k:=kQ (PF f a)) (g5 _ _ hB3.1) (g5 _ _ (g3 _ _ hb.1)),?_⟩
    exact qh (R:=λH p a=>P2H H p (mv f a)) (a:=a) (λ_ _ _ _=>xC _ _ _ _) hCc (by lia) iv hn ha (.refl _) (g5 _ _ (g3 _ _ p1))
   ·rintro qs H5 ⟨g5,hC5,lq,hq⟩;rw[pV (by lia)] at hq
    have hq:=hq.map (f:=mv f) (R:=P2H);have hD5:=g5 _ _ hD3;have nC:Cc≠D:=λz=>by rw[z,hD3] at hCc;cases hCc
    refine⟨zs,hD5,small1000 (by lia),zs++[V.ref Cc],_,_,rfl,zW (g3.trans g5) hD,upd_same,?_⟩
    rw[uA,hr1,uF];exact((hz.imp (R':=RgPN D) λp r t=>⟨t.1,t.2.same g5⟩).snoc (R:=RgPN D) (a:=r.map (mv f)) ⟨nC,qs,hC5,hq⟩).imp λp r t=>⟨t.1,t.2.put t.1 hD5⟩
 ·rintro σ H3 ⟨zs,o1,o2,rfl,g3,hD3,hz⟩;rw[pV (by lia)] at hz
  simp! [];exact k D zs H3 hD g3 hD3 (hz.imp λp r t=>t.2)
noncomputable def nz(m:List (Int×Int))(i:Nat):Int×Int:=m.getD (i%m.length) (0,0)
noncomputable def crs0(e:(Int×Int)×(Int×Int)):Int:=e.1.1*e.2.2-e.2.1*e.1.2
noncomputable def twc(m:List (Int×Int))(n:Nat):Int:=su (λi=>crs0 (nz m i,nz m (i+1))) (pP n)
def zet(m:List (Int×Int))(n:Nat):twc m (n+1)=twc m n+crs0 (nz m n,nz m (n+1)):=by
 unfold twc;rw[QQ,xP];show _+(crs0 _+0)=_;rw[UH]
inductive zdf (vs:List V) (H:Hp) (Q:VK) (E:XK):Prop
 |mk (l:Addr) (m:List (Int×Int)) (_:vs=[.ref l]) (_:RgP H l m) (_:m.length<=200) (_:(∀x,x∈m->x.1.natAbs<2^60/\x.2.natAbs<2^60)) (_:Q (.int (twc m m.length)) H):zdf vs H Q E
theorem W8(T:Txt K mg ad fd):zv P w K mg base CX0 1 (ad 38) (fd 38) ["_law_ring"] zdf:=by
 refine T.law_twice.fn.ok Yu (λvs H Q E h=>?_) (λcdv A outer s H vs Q E hr h=>?_)
 ·obtain⟨l,m,rfl,_⟩:=h;rfl
 obtain⟨l,m,rfl,⟨ys,hl,hm⟩,nm,bd,k⟩:=h;refine⟨_,
  (pss3
   (zk 1 Yu.nd za)
   (yv uE rfl (wG rfl T.b_range (pa1 (ya y7 rfl T.b_len yG (pa1 (pm 0) zb)) yw)) (zD 2 Yu.nd) (pss2
   (zk 3 Yu.nd (zd y6 (pm 0) (zc jx (zc zQ (pm 2) za) (ya y7 rfl T.b_len yG (pa1 (pm 0) zb)))))
   (zk 1 Yu.nd (zc yr (zc zQ (pm 1) (zc zN (zd yP (zd y6 (pm 0) (pm 2)) za) (zd yP (pm 3) za))) (zc zN (zd yP (pm 3) za) (zd yP (zd y6 (pm 0) (pm 2)) za))))))
   (zq (pm 1)))
  ,?_⟩
 dsimp! [L2.start]
 have lm:=hm.1;simp! [];refine yo ?_;simp! [wv];refine⟨ys,.inl hl,by lia,by lia,vH (λi σ H'=>H'=H/\∃o1 o2,σ=[some (V.ref l),some (V.int (twc m i)),o1,o2]) ⟨rfl,none,none,rfl⟩ ?_ ?_⟩
 ·intro _ _;rintro j σ H4 hj ⟨rfl,o1,o2,rfl⟩;have hj':j<m.length:=by lia
  have m2:(j+1)%m.length<m.length:=BG _ (by lia)
  have fm:(((j:Int)+1).fmod (ys.length:Int))=(((j+1)%m.length:Nat):Int):=by
   rw[Us _ (by lia),lm]
   exact(GU (j+1) m.length).symm
  obtain⟨c1,x1,a1,r1,h1⟩:=hm.at (j:=j) (by lia)
  obtain⟨c2,x2,a2,r2,h2⟩:=hm.at (j:=(j+1)%m.length) (by lia)
  have b1:=bd x1 (pX r1);have b2:=bd x2 (pX r2);have n1:nz m j=x1:=by unfold nz;rw[gL hj',pD,r1];rfl
  have n2:nz m (j+1)=x2:=by unfold nz;rw[pD,r2];rfl
  unfold P2H at h1 h2;simp! [QY,hl];refine⟨by lia,_,by rw[fm];exact yl a2,?_⟩
  simp! [yl a1,h1,h2];refine⟨cbig (m:=60) (n:=60) b1.1 b2.2,cbig (m:=60) (n:=60) b2.1 b1.2,?_⟩;rw[zet,n1,n2];unfold crs0;dsimp only;lia
 ·rintro σ H4 ⟨rfl,o1,o2,rfl⟩;simp! [];have e:((ys.length:Int)).toNat=m.length:=by lia
  rw[e];exact k
noncomputable def wM(x y:Int):Int:=if(if 6-y<6-x then 6-y else 6-x)<(if y<x then y else x) then(if 6-y<6-x then 6-y else 6-x) else(if y<x then y else x)
noncomputable def zZ(c:Int×Int×Int):Int:=4*(c.2.1*7+c.1)+c.2.2
def Deep(m:Int->Bool)(g1 g2:Int)(i:Nat)(cs:List (Int×Int×Int)):Prop:=∀c:Int×Int×Int,0<=c.1->c.1<7->0<=c.2.1->c.2.1<7->0<=c.2.2->c.2.2<=3->(c∈cs↔(m (wM c.1 c.2.1)=true/\zZ c≠g1/\zZ c≠g2/\zZ c<i))
inductive J8 (K:pI) (vs:List V) (H:Hp) (Q:VK) (E:XK):Prop
 |mk (a:Addr) (ns:List Int) (_:vs=[.ref a]) (_:SqL K H a (ns.map V.int)) (_:∀D zs cs H' m g1 g2,H D=none->ze H H'->H' D=some (.lst zs)->zs.length<=196->LR C3H H' zs cs->jj 7 7 196 cs->Deep m g1 g2 196 cs->Q (.ref D) H'):J8 K vs H Q E
inductive DeeI (H:Hp) (a D:Addr) (ns:List Int) (i:Nat) (σ:St) (H':Hp):Prop
 |mk (zs:List V) (cs:List (Int×Int×Int)) (o1 o2 o3 o4 o5:Option V) (_:σ=[some (V.ref a),some (V.ref D),o1,o2,o3,o4,o5]) (_:ze H H') (_:H' D=some (.lst zs)) (_:zs.length<=i) (_:LR C3H H' zs cs) (_:jj 7 7 i cs) (_:Deep (λr=>decide (yK ns (6+r)%2=1)) (yK ns 10%240) (yK ns 11%240) i cs):DeeI H a D ns i σ H'
theorem J7{c d:Int×Int×Int}(a1:0<=c.1)(a2:c.1<7)(b1:0<=c.2.2)(b2:c.2.2<=3)(a1':0<=d.1)(a2':d.1<7)(b1':0<=d.2.2)(b2':d.2.2<=3)(h:zZ c=zZ d):c=d:=by
 unfold zZ at h;exact Qg (by omega) (Qg (by lia) (by lia))
variable{ns:List Int}
theorem DeeS{i:Nat}{cs:List (Int×Int×Int)}{c:Int×Int×Int}(ci:jj 7 7 i cs)(de:Deep (λr=>decide (yK ns (6+r)%2=1)) (yK ns 10%240) (yK ns 11%240) i cs)(hc:zZ c=i)(c1:0<=c.1)(c2:c.1<7)(c3:0<=c.2.1)(c4:c.2.1<7)(c5:0<=c.2.2)(c6:c.2.2<=3):
  ((yK ns (6+wM c.1 c.2.1)%2=1/\(i:Int)≠yK ns 10%240/\(i:Int)≠yK ns 11%240)->jj 7 7 (i+1) (cs++[c])/\Deep (λr=>decide (yK ns (6+r)%2=1)) (yK ns 10%240) (yK ns 11%240) (i+1) (cs++[c]))/\(¬(yK ns (6+wM c.1 c.2.1)%2=1/\(i:Int)≠yK ns 10%240/\(i:Int)≠yK ns 11%240)->jj 7 7 (i+1) cs/\Deep (λr=>decide (yK ns (6+r)%2=1)) (yK ns 10%240) (yK ns 11%240) (i+1) cs):=by
 refine⟨λy=>⟨⟨?_,λd hd=>?_⟩,λd d1 d2 d3 d4 d5 d6=>?_⟩,λy=>⟨⟨ci.1,λd hd=>?_⟩,λd d1 d2 d3 d4 d5 d6=>?_⟩⟩
 ·refine UB.mpr ⟨ci.1,US.mpr ⟨λz=>(by cases z),Uw⟩,λx hx z hz e=>?_⟩
  rw[e,pZ.mp hz] at hx;have:=(ci.2 _ hx).2.2;unfold zZ at hc;lia
 ·rcases pd.mp hd with z|z
  ·obtain⟨z1,z2,z3⟩:=ci.2 d z;exact⟨z1,z2,by lia⟩
  ·rw[pZ.mp z];unfold zZ at hc;exact⟨c2,c4,by lia⟩
 ·rw[pd,de d d1 d2 d3 d4 d5 d6,pZ]
  constructor
  ·rintro(⟨z1,z2,z3,z4⟩|z)
   ·exact⟨z1,z2,z3,by lia⟩
   ·subst z;exact⟨decide_eq_true y.1,by rw[hc];exact y.2.1,by rw[hc];exact y.2.2,by lia⟩
  ·rintro⟨z1,z2,z3,z4⟩
   by_cases q:zZ d<i
   ·exact .inl ⟨z1,z2,z3,q⟩
   ·exact .inr (J7 d1 d2 d5 d6 c1 c2 c5 c6 (by lia))
 ·obtain⟨z1,z2,z3⟩:=ci.2 d hd;exact⟨z1,z2,by lia⟩
 ·rw[de d d1 d2 d3 d4 d5 d6]
  constructor
  ·rintro⟨z1,z2,z3,z4⟩;exact⟨z1,z2,z3,by lia⟩
  ·rintro⟨z1,z2,z3,z4⟩;refine⟨z1,z2,z3,?_⟩;rcases(by lia:zZ d<(i:Int)∨zZ d=i) with q|q
   ·exact q
   ·have e:=J7 d1 d2 d5 d6 c1 c2 c5 c6 (q.trans hc.symm);subst e;exact absurd ⟨of_decide_eq_true z1,by rw[←q];exact z2,by rw[←q];exact z3⟩ y
theorem zgl(T:Txt K mg ad fd):zv P w K mg base CX0 2 (ad 41) (fd 41) ["_law_script"] (J8 K):=by
 refine T.law_deep.fn.ok vW (λvs H Q E h=>?_) (λcdv A outer s H vs Q E hr h=>?_)
 ·obtain⟨a,ns,rfl,_⟩:=h;rfl
 obtain⟨a,ns,rfl,hS,k⟩:=h;refine⟨_,
  (pss3
   (zk 1 vW.nd (yN yM))
   (yv uE rfl (wG rfl T.b_range (pa1 za yy)) (zD 2 vW.nd) (pss5
   (zk 3 vW.nd (zc yn (zc wQ (pm 2) za) za))
   (zk 4 vW.nd (zc wQ (zc wQ (pm 2) za) za))
   (zk 5 vW.nd (ya (WK rfl) rfl T.b_min Jp (pa2 (ya (WK rfl) rfl T.b_min Jp (pa2 (pm 3) zb (pm 4) zb)) yw (ya (WK rfl) rfl T.b_min Jp (pa2 (zc yr za (pm 3)) zx (zc yr za (pm 4)) zx)) yw)))
   (zk 6 vW.nd (pe_or (xq wz (pm 2) (zc yn (zu (xW T) T.law_cell hr (pa2 (pm 0) zb za yy)) za) (nomark _)) (Yt (xq wz (pm 2) (zc yn (zu (xW T) T.law_cell hr (pa2 (pm 0) zb za yy)) za) (nomark _)))))
   (zL (PW.pt (Xq (zM wz (zc yn (zu (xW T) T.law_cell hr (pa2 (pm 0) zb (zc zQ za (pm 5)) zx)) za) za (nomark _)) (Xs (vQ (xc (pm 6)))))) (zp (xD (xM uQ uo uq xU (pm 1) (pa1 (ye (pa3 (pm 3) zb (pm 4) zb (zc yn (pm 2) za) zx)) xI)))) zR)))
   (zq (pm 1)))
  ,?_⟩
 dsimp! [L2.start]
 simp! [];intro D hD;refine yo ?_;simp! [wv];refine⟨by decide,by decide,vH (DeeI H a D ns) ⟨[],[],none,none,none,none,none,rfl,zg hD _,upd_same,pG _,.nil,⟨Uw,λc hc=>(by cases hc)⟩,λc c1 c2 c3 c4 c5 c6=>⟨λz=>(by cases z),λz=>(by have:=z.2.2.2;unfold zZ at this;lia)⟩⟩ ?_ ?_⟩
 ·intro _ _;rintro i σ H2 hi ⟨zs,cs,o1,o2,o3,o4,o5,rfl,g2,hD2,hn,hz,ci,de⟩;have hi196:i<196:=hi;have x1:0<=(i:Int)/4%7/\(i:Int)/4%7<7:=by lia
  have y1:0<=(i:Int)/4/7/\(i:Int)/4/7<7:=by lia
  have nu:zZ ((i:Int)/4%7,(i:Int)/4/7,(i:Int)%4)=i:=by unfold zZ;dsimp only;lia
  have st:=DeeS (c:=((i:Int)/4%7,(i:Int)/4/7,(i:Int)%4)) ci de nu x1.1 x1.2 y1.1 y1.2 (by dsimp only;lia) (by dsimp only;lia)
  dsimp only at st;have rr:0<=wM ((i:Int)/4%7) ((i:Int)/4/7)/\wM ((i:Int)/4%7) ((i:Int)/4/7)<=6:=by
   unfold wM
   constructor<;>(repeat' split)<;>lia
  refine ym λfX hX=>?_;simp! [QY];refine⟨⟨by decide,by decide⟩,by decide,?_⟩
  refine hX _ _ (ym λfX hX=>?_);simp! [];refine⟨⟨by decide,by decide⟩,⟨by decide,by decide⟩,?_⟩
  refine hX _ _ (ym λfX hX=>?_);simp! [];refine hX _ _ (ym λfX hX=>?_);simp! [];refine⟨a,ns,10,rfl,g2.seq hS,by decide,by decide,λ⟨v10,e10⟩=>⟨v10,rfl,by decide,ite2 (λq10=>?_) λq10=>?_⟩⟩
  ·have q10:=of_decide_eq_true q10;obtain⟨s1,s2⟩:=st.2 (λz=>z.2.1 (by rw[q10,e10]))
   refine hX _ _ ?_;simp! [];refine⟨a,ns,6+wM ((i:Int)/4%7) ((i:Int)/4/7),rfl,g2.seq hS,by lia,by lia,λ⟨v,e⟩=>⟨v,rfl,by decide,ite2 (λ_=>?_) λ_=>?_⟩⟩
   ·exact⟨zs,cs,_,_,_,_,_,rfl,g2,hD2,by lia,hz,s1,s2⟩
   ·exact⟨zs,cs,_,_,_,_,_,rfl,g2,hD2,by lia,hz,s1,s2⟩
  ·have q10:¬(i:Int)=v10%240:=λz=>q10 (decide_eq_true z);refine⟨a,ns,11,rfl,g2.seq hS,by decide,by decide,λ⟨v11,e11⟩=>⟨v11,rfl,by decide,?_⟩⟩
   refine hX _ _ ?_;simp! [];refine⟨a,ns,6+wM ((i:Int)/4%7) ((i:Int)/4/7),rfl,g2.seq hS,by lia,by lia,λ⟨v,e⟩=>⟨v,rfl,by decide,ite2 (λm1=>?_) λm0=>?_⟩⟩
   ·have m1:=of_decide_eq_true m1;refine ite2 (λn1=>?_) (λn0=>?_)
    ·have n1:¬(i:Int)=v11%240:=λz=>by rw[decide_eq_true z] at n1;cases n1
     obtain⟨s1,s2⟩:=st.1 ⟨by rw[←e];exact m1,by rw[←e10];exact q10,by rw[←e11];exact n1⟩
     refine⟨xB hD2,by decide,λp hp=>?_⟩
     have g3:=zg hp (HO.tup [V.int ((i:Int)/4%7),V.int ((i:Int)/4/7),V.int ((i:Int)%4)]);have h3':upd H2 p (HO.tup [V.int ((i:Int)/4%7),V.int ((i:Int)/4/7),V.int ((i:Int)%4)]) p=some (HO.tup [V.int ((i:Int)/4%7),V.int ((i:Int)/4/7),V.int ((i:Int)%4)]):=upd_same;generalize upd H2 p (HO.tup [V.int ((i:Int)/4%7),V.int ((i:Int)/4/7),V.int ((i:Int)%4)])=H3 at*;have hD3:=g3 _ _ hD2;refine⟨zs,hD3,small1000 (by lia),zs++[V.ref p],cs++[((i:Int)/4%7,(i:Int)/4/7,(i:Int)%4)],_,_,_,_,_,rfl,zW (g2.trans g3) hD,upd_same,by rw[pK,uz];lia,((hz.ts qe (zI g3)).snoc (a:=((i:Int)/4%7,(i:Int)/4/7,(i:Int)%4)) ⟨h3',?_⟩).ts qe (yS hD3),s1,s2⟩
     dsimp only;lia
    ·have n0:(i:Int)=v11%240:=QK λz=>n0 (by rw[decide_eq_false z];rfl)
     obtain⟨s1,s2⟩:=st.2 (λz=>z.2.2 (by rw[←e11];exact n0))
     exact⟨zs,cs,_,_,_,_,_,rfl,g2,hD2,by lia,hz,s1,s2⟩
   ·have m0:¬v%2=1:=λz=>m0 (decide_eq_true z);obtain⟨s1,s2⟩:=st.2 (λz=>m0 (by rw[e];exact z.1))
    exact⟨zs,cs,_,_,_,_,_,rfl,g2,hD2,by lia,hz,s1,s2⟩
 ·rintro σ H2 ⟨zs,cs,o1,o2,o3,o4,o5,rfl,g2,hD2,hn,hz,ci,de⟩;simp! [];exact k D zs cs H2 _ _ _ hD g2 hD2 hn hz ci de
noncomputable def wu(n:Int):C3:=(n/4%7,n/4/7,n%4)
noncomputable def offR(c d:C3):Bool:=decide (d.1<0)||decide (7<=d.1)||decide (d.2.1<0)||decide (7<=d.2.1)|| !decide (wM c.1 c.2.1=wM d.1 d.2.1)
noncomputable def offL:List E2:=(pP 196).flatMap λ(n:Nat)=>(zF (wu ((n:Nat):Int))).filter λe=>offR (wu ((n:Nat):Int)) (rtC e)
def off_len:offL.length<=185:=by decide+kernel
theorem WV{c:C3}(c1:0<=c.1)(c2:c.1<7)(c3:0<=c.2.1)(c5:0<=c.2.2)(c6:c.2.2<=3):wu (zZ c)=c:=by
 unfold wu zZ;exact Qg (by dsimp only;omega) (Qg (by dsimp only;lia) (by dsimp only;lia))
theorem zio{m:Int->Bool}{g1 g2:Int}{cs:List C3}{es:List E2}(de:Deep m g1 g2 196 cs)(bd:∀c,c∈cs->0<=c.1/\c.1<7/\0<=c.2.1/\c.2.1<7/\vq c)(E:Edg cs es)(nd:es.Nodup):es.length<=191:=by
 have len:(offL++((zF (wu g1)).map rv++(zF (wu g2)).map rv)).length<=191:=by
  have s3:∀c:C3,(zF c).length<=3:=λc=>by
   unfold zF;rw[pC];unfold yx
   repeat' split
   all_goals first|exact pG _|exact uL _
  rw[pK,pK,pC,pC];have:=off_len;have:=s3 (wu g1);have:=s3 (wu g2);lia
 refine pz (vV _ (offL++((zF (wu g1)).map rv++(zF (wu g2)).map rv)) nd λe he=>?_) len;obtain⟨a,k,rfl,o,h1,h2⟩:=E.of he;obtain⟨l1,l2,l3,l4,lv⟩:=bd _ h1;have rv':=Wx a (k+7);have gap:∀g,zZ (zj a (k+7))=g->0<=(zj a (k+7)).1->(zj a (k+7)).1<7->0<=(zj a (k+7)).2.1->(a,stp a k)∈(zF (wu g)).map rv:=λg hg r1 r2 r3=>by
  rw[←hg,WV r1 r2 r3 rv'.1 rv'.2];refine pL.mpr ⟨(stp a k,stp (stp a k) (k+4)),xS.mpr ⟨stp a k,k+4,?_,rfl⟩,?_⟩
  ·rw[←va o];exact wU (jd.mpr o)
  ·rw[wg];rfl
 have mem:offR (zj a k) (zj a (k+7))=true->(a,stp a k)∈offL:=λz=>by
  refine QC.mpr ⟨(zZ (zj a k)).toNat,pQ.mpr ?_,pg.mpr ⟨?_,?_⟩⟩
  ·unfold zZ;obtain⟨v1,v2⟩:=lv;lia
  ·have e:(((zZ (zj a k)).toNat:Nat):Int)=zZ (zj a k):=by
    unfold zZ;obtain⟨v1,v2⟩:=lv;lia
   rw[e,WV l1 l2 l3 lv.1 lv.2];exact xS.mpr ⟨a,k,wU o,rfl⟩
  ·have e:(((zZ (zj a k)).toNat:Nat):Int)=zZ (zj a k):=by
    unfold zZ;obtain⟨v1,v2⟩:=lv;lia
   rw[e,WV l1 l2 l3 lv.1 lv.2,xL];exact z
 by_cases c:offR (zj a k) (zj a (k+7))=true
 ·exact Qp _ (mem c)
 ·refine pY _ ?_;unfold offR at c;simp only[Bool.or_eq_true,decide_eq_true_iff,AK,decide_eq_false_iff_not,not_or,Classical.not_not] at c;obtain⟨⟨⟨⟨r1,r2⟩,r3⟩,r4⟩,rr⟩:=c;have n:=mt (de _ (by lia) (by lia) (by lia) (by lia) rv'.1 rv'.2).mpr h2
  have mm:=((de _ l1 l2 l3 l4 lv.1 lv.2).mp h1).1;rw[rr] at mm;have lt:zZ (zj a (k+7))<196:=by
   unfold zZ;obtain⟨v1,v2⟩:=rv';lia
  by_cases q1:zZ (zj a (k+7))=g1
  ·exact Qp _ (gap g1 q1 (by lia) (by lia) (by lia))
  ·by_cases q2:zZ (zj a (k+7))=g2
   ·exact pY _ (gap g2 q2 (by lia) (by lia) (by lia))
   ·exact absurd ⟨mm,q1,q2,lt⟩ n
noncomputable def ov0(P a b:Int×Int):Int:=if a.1=b.1∨P.1<a.1∨b.1<=P.1 then 0 else if(b.1-a.1)*(P.2-a.2)<(b.2-a.2)*(P.1-a.1) then 1 else 0
noncomputable def ovL(P a b:Int×Int):Int:=if lt2 b a=true then ov0 P b a else ov0 P a b
inductive zd5 (vs:List V) (H:Hp) (Q:VK) (E:XK):Prop
 |mk (p a b:Addr) (P A B:Int×Int) (_:vs=[.ref p,.ref a,.ref b]) (_:P2H H p P) (_:P2H H a A) (_:P2H H b B) (_:(∀x,x=P∨x=A∨x=B->x.1.natAbs<2^62/\x.2.natAbs<2^62)) (_:Q (.int (ovL P A B)) H):zd5 vs H Q E
theorem zem(T:Txt K mg ad fd):zv P w K mg base CX0 1 (ad 39) (fd 39) ["_law_spot","_law_first","_law_last"] zd5:=by
 refine T.law_over.fn.ok Xw (λvs H Q E h=>?_) (λcdv A outer s H vs Q E hr h=>?_)
 ·obtain⟨p,a,b,U,F,G,rfl,_⟩:=h;rfl
 obtain⟨p,a,b,U,F,G,rfl,hp,ha,hb,bd,k⟩:=h;unfold P2H at hp ha hb;obtain⟨tl,htl,hk⟩:∃tl,PSs (wc CX0 P w K mg base ["_law_spot","_law_first","_law_last","_law_wide","_law_high"] "_law_over" (zo Yr) (ad 39) cdv A outer s H E).nox ((xw Yr).drop 1) tl/\∀(a b:Addr)(F G:Int×Int),H a=some (.tup [.int F.1,.int F.2])->H b=some (.tup [.int G.1,.int G.2])->(F.1.natAbs<2^62/\F.2.natAbs<2^62)->(G.1.natAbs<2^62/\G.2.natAbs<2^62)->Q (.int (ov0 U F G)) H->tl {nx:=λ_ H'=>Q .non H',rt:=Q} [some (.ref p),some (.ref a),some (.ref b),none,none] H:=by
  have bP:=bd U (.inl rfl);clear k ha hb bd;refine⟨_,
  (pss4
   (zL (PW.pt (vz (zM wz (zd zf (pm 1) za) (zd zf (pm 2) za) (nomark _)) (vz (zM xF (zd zf (pm 0) za) (zd zf (pm 1) za) (nomark _)) (j4 (zM op_ge (zd zf (pm 0) za) (zd zf (pm 2) za) (nomark _)))))) (zp (zq za)) zR)
   (zk 3 Xw.nd (zc yr (zd zf (pm 2) za) (zd zf (pm 1) za)))
   (zk 4 Xw.nd (zc yr (zd zf (pm 2) za) (zd zf (pm 1) za)))
   (zq (zd4 zft rfl T.b_int V1 (pa1 (xq xF (zc zN (pm 3) (zc yr (zd zf (pm 0) za) (zd zf (pm 1) za))) (zc zN (pm 4) (zc yr (zd zf (pm 0) za) (zd zf (pm 1) za))) (nomark _)) zf8))))
   ,λa b F G ha hb bA bB k=>?_⟩
  skip
  simp! [hp,ha,hb];have sb:∀{x y:Int},x.natAbs<2^62->y.natAbs<2^62->(x-y).natAbs<2^63:=λh1 h2=>QN (Int.natAbs_sub_le _ _) (by lia)
  unfold ov0 at k;refine ite2 (λc1=>?_) (λc1=>ite2 (λc2=>?_) (λc2=>ite2 (λc3=>?_) (λc3=>⟨cbig (sb bB.1 bA.1) (sb bP.2 bA.2),cbig (sb bB.2 bA.2) (sb bP.1 bA.1),?_⟩)))
  ·rw[if_pos (.inl (of_decide_eq_true c1))] at k;exact k
  ·rw[if_pos (.inr (.inl (of_decide_eq_true c2)))] at k;exact k
  ·rw[if_pos (.inr (.inr (of_decide_eq_true c3)))] at k;exact k
  ·rw[if_neg (λz=>z.elim (λz=>c1 (decide_eq_true z)) λz=>z.elim (λz=>c2 (decide_eq_true z)) λz=>c3 (decide_eq_true z))] at k
   simpa using k
 have eg:(if F.1=G.1 then decide (G.2<F.2) else decide (G.1<F.1))=lt2 G F:=by
  rw[Qa,YE]
  by_cases z:F.1=G.1
  ·rw[if_pos z,decide_eq_true_iff];omega
  ·rw[if_neg z,decide_eq_true_iff];lia
 refine⟨_,
  (zK (zL (zM (op_gt2 (hu64 hr)) (pm 1) (pm 2) (nomark _)) (zp (Wb (i:=1) (j:=2) rfl Xw.nd rfl rfl (by decide) rfl rfl (pa2 (pm 2) zb (pm 1) zb) rfl)) zR)
   htl)
  ,?_⟩
 clear htl;simp! [hp,ha,hb];refine⟨a,b,F.1,F.2,G.1,G.2,rfl,rfl,ha,hb,_,rfl,?_⟩;rw[eg];unfold ovL at k;refine ite2 (λc=>?_) (λc=>?_)
 ·rw[if_pos c] at k;exact hk b a G F hb ha (bd G (.inr (.inr rfl))) (bd F (.inr (.inl rfl))) k
 ·rw[if_neg c] at k;exact hk a b F G ha hb (bd F (.inr (.inl rfl))) (bd G (.inr (.inr rfl))) k
noncomputable def dbl(v:Int×Int):Int×Int:=(2*v.1,2*v.2)
noncomputable def wiN(P:Int×Int)(m:List (Int×Int))(n:Nat):Int:=su (λi=>ovL P (dbl (nz m i)) (dbl (nz m (i+1)))) (pP n)
def zf7(P:Int×Int)(m:List (Int×Int))(n:Nat):wiN P m (n+1)=wiN P m n+ovL P (dbl (nz m n)) (dbl (nz m (n+1))):=by
 unfold wiN;rw[QQ,xP];show _+(ovL _ _ _+0)=_;rw[UH]
inductive zdr (vs:List V) (H:Hp) (Q:VK) (E:XK):Prop
 |mk (p l:Addr) (P:Int×Int) (m:List (Int×Int)) (_:vs=[.ref p,.ref l]) (_:P2H H p P) (_:RgP H l m) (_:m.length<=200) (_:(P.1.natAbs<2^62/\P.2.natAbs<2^62)) (_:(∀x,x∈m->x.1.natAbs<2^60/\x.2.natAbs<2^60)) (_:∀H',ze H H'->Q (.bl (decide (wiN P m m.length%2=1))) H'):zdr vs H Q E
theorem zfr(T:Txt K mg ad fd):zv P w K mg base CX0 2 (ad 40) (fd 40) ["_law_spot","_law_ring"] zdr:=by
 refine T.law_within.fn.ok jI (λvs H Q E h=>?_) (λcdv A outer s H vs Q E hr h=>?_)
 ·obtain⟨p,l,P,m,rfl,_⟩:=h;rfl
 obtain⟨p,l,P,m,rfl,hp,⟨ys,hl,hm⟩,nm,bP,bd,k⟩:=h;refine⟨_,
  (pss3
   (zk 2 jI.nd za)
   (yv uE rfl (wG rfl T.b_range (pa1 (ya y7 rfl T.b_len yG (pa1 (pm 1) zb)) yw)) (zD 3 jI.nd) (pss3
   (zk 4 jI.nd (zd y6 (pm 1) (zc jx (zc zQ (pm 3) za) (ya y7 rfl T.b_len yG (pa1 (pm 1) zb)))))
   (zk 5 jI.nd (ye (pa2 (zc y4 za (zd yP (zd y6 (pm 1) (pm 3)) za)) zx (zc y4 za (zd yP (zd y6 (pm 1) (pm 3)) za)) zx)))
   (zk 2 jI.nd (zc zQ (pm 2) (zu (zem T) T.law_over hr (pa3 (pm 0) zb (pm 5) zb (ye (pa2 (zc y4 za (zd yP (pm 4) za)) zx (zc y4 za (zd yP (pm 4) za)) zx)) xI))))))
   (zq (xq wz (zc yn (pm 2) za) za (nomark _))))
  ,?_⟩
 dsimp! [L2.start]
 have lm:=hm.1;simp! [];refine yo ?_;simp! [wv];refine⟨ys,.inl hl,by lia,by lia,vH (λi σ H'=>ze H H'/\∃o1 o2 o3,σ=[some (V.ref p),some (V.ref l),some (V.int (wiN P m i)),o1,o2,o3]) ⟨.refl _,none,none,none,rfl⟩ ?_ ?_⟩
 ·intro _ _;rintro j σ H4 hj ⟨g4,o1,o2,o3,rfl⟩;have hj':j<m.length:=by lia
  have m2:(j+1)%m.length<m.length:=BG _ (by lia)
  have fm:(((j:Int)+1).fmod (ys.length:Int))=(((j+1)%m.length:Nat):Int):=by
   rw[Us _ (by lia),lm]
   exact(GU (j+1) m.length).symm
  obtain⟨c1,x1,a1,r1,h1⟩:=hm.at (j:=j) (by lia)
  obtain⟨c2,x2,a2,r2,h2⟩:=hm.at (j:=(j+1)%m.length) (by lia)
  have b1:=bd x1 (pX r1);have b2:=bd x2 (pX r2);have n1:nz m j=x1:=by unfold nz;rw[gL hj',pD,r1];rfl
  have n2:nz m (j+1)=x2:=by unfold nz;rw[pD,r2];rfl
  have hl4:=g4 _ _ hl;have h14:H4 c1=some (.tup [.int x1.1,.int x1.2]):=g4 _ _ h1;have h24:H4 c2=some (.tup [.int x2.1,.int x2.2]):=g4 _ _ h2;simp! [QY,hl4];refine⟨by lia,_,by rw[fm];exact yl a2,?_⟩
  simp! [yl a1,h14,h24];have cm:∀x:Int,CMul 2 x:=λx=>.inl ⟨by decide,by decide⟩
  refine⟨cm _,cm _,λt1 ht1=>?_⟩;have s1:=zg ht1 (HO.tup [V.int (2*x1.1),V.int (2*x1.2)]);have q1:upd H4 t1 (HO.tup [V.int (2*x1.1),V.int (2*x1.2)]) t1=some (HO.tup [V.int (2*x1.1),V.int (2*x1.2)]):=upd_same;generalize upd H4 t1 (HO.tup [V.int (2*x1.1),V.int (2*x1.2)])=H5 at*;have h25:=s1 _ _ h24;refine⟨_,h25,_,rfl,_,rfl,cm _,_,h25,_,rfl,_,rfl,cm _,λt2 ht2=>?_⟩;have s2:=zg ht2 (HO.tup [V.int (2*x2.1),V.int (2*x2.2)]);have q2:upd H5 t2 (HO.tup [V.int (2*x2.1),V.int (2*x2.2)]) t2=some (HO.tup [V.int (2*x2.1),V.int (2*x2.2)]):=upd_same;generalize upd H5 t2 (HO.tup [V.int (2*x2.1),V.int (2*x2.2)])=H6 at*;have g6:=g4.trans (s1.trans s2);have e60:(2:Nat)^60=1152921504606846976:=rfl;have e62:(2:Nat)^62=4611686018427387904:=rfl;refine⟨p,t1,t2,P,dbl x1,dbl x2,rfl,g6 _ _ hp,s2 _ _ q1,q2,λx hx=>?_,_,rfl,g6,by rw[zf7,n1,n2]⟩
  rcases hx with rfl|rfl|rfl
  ·exact bP
  ·unfold dbl;dsimp only;lia
  ·unfold dbl;dsimp only;lia
 ·rintro σ H4 ⟨g4,o1,o2,o3,rfl⟩;simp! [];have e:((ys.length:Int)).toNat=m.length:=by lia
  rw[e];exact⟨by decide,k H4 g4⟩
noncomputable def mvS(f:Fr)(P:Int×Int):Int×Int:=(f.p*P.1+f.q*P.2+2*f.t,f.r*P.1+f.s*P.2+2*f.u)
theorem mvS_sum(f:Fr)(a b:Int×Int):((mv f a).1+(mv f b).1,(mv f a).2+(mv f b).2)=mvS f (a.1+b.1,a.2+b.2):=by
 unfold mv mvS;exact Qg (by dsimp only;grind) (by dsimp only;grind)
theorem ov_tn(f:Fr)(P a b:Int×Int):((dbl (mv f b)).1-(dbl (mv f a)).1)*((mvS f P).2-(dbl (mv f a)).2)-((dbl (mv f b)).2-(dbl (mv f a)).2)*((mvS f P).1-(dbl (mv f a)).1)=2*((f.p*f.s-f.q*f.r)*tnn a b P):=by
 unfold mv mvS dbl tnn;dsimp only
 grind
theorem ov_x(f:Fr)(P a:Int×Int):(dbl (mv f a)).1-(mvS f P).1=2*xi f.p f.q a-xi f.p f.q P:=by
 unfold mv mvS dbl xi;dsimp only
 grind
variable{d:Int}
theorem Z2{x:Int}(hd:0<d):d*x<0↔x<0:=by
 constructor
 ·intro h;rcases gN x 0 with z|z
  ·exact z
  ·have:=Uf (Uk hd) z;lia
 ·intro h;have:=QV hd (show 0< -x by lia)
  rw[CZ] at this;lia
theorem zal{f:Fr}(d0:0<fd2 f)(P a b:Int×Int):ov0 (mvS f P) (dbl (mv f a)) (dbl (mv f b))=ind (2*xi f.p f.q a-xi f.p f.q P<=0/\0<2*xi f.p f.q b-xi f.p f.q P/\tnn a b P<0):=by
 have t:=ov_tn f P a b;have x1:=ov_x f P a;have x2:=ov_x f P b;have pn:=Z2 (x:=tnn a b P) (show 0<f.p*f.s-f.q*f.r from d0);unfold ov0;generalize (f.p*f.s-f.q*f.r)*tnn a b P=T at*;generalize ((dbl (mv f b)).1-(dbl (mv f a)).1)*((mvS f P).2-(dbl (mv f a)).2)=U1 at*;generalize ((dbl (mv f b)).2-(dbl (mv f a)).2)*((mvS f P).1-(dbl (mv f a)).1)=U2 at*
 by_cases c:(dbl (mv f a)).1=(dbl (mv f b)).1∨(mvS f P).1<(dbl (mv f a)).1∨(dbl (mv f b)).1<=(mvS f P).1
 ·rw[if_pos c,zt (by omega)]
 ·rw[if_neg c]
  by_cases d:tnn a b P<0
  ·rw[if_pos (by have:=pn.mpr d;lia),zV (by omega)]
  ·rw[if_neg (λz=>d (pn.mp (by omega))),zt (λz=>d z.2.2)]
theorem ov_crx{f:Fr}(d0:0<fd2 f)(P:Int×Int)(e:E2):ovL (mvS f P) (dbl (mv f e.1)) (dbl (mv f e.2))%2=Fx f.p f.q P e%2:=by
 have x1:=ov_x f P e.1;have x2:=ov_x f P e.2;unfold ovL Fx crx;rw[zal d0,zal d0,zat];have i3:ind (2*xi f.p f.q e.2-xi f.p f.q P<=0/\0<2*xi f.p f.q e.1-xi f.p f.q P/\ -tnn e.1 e.2 P<0)=ind (2*xi f.p f.q e.2-xi f.p f.q P<=0/\0<2*xi f.p f.q e.1-xi f.p f.q P/\0<tnn e.1 e.2 P):=by
  by_cases z:2*xi f.p f.q e.2-xi f.p f.q P<=0/\0<2*xi f.p f.q e.1-xi f.p f.q P/\0<tnn e.1 e.2 P
  ·rw[zV z,zV (by omega)]
  ·rw[zt z,zt (by omega)]
 rw[i3]
 by_cases c:lt2 (dbl (mv f e.2)) (dbl (mv f e.1))=true
 ·rw[if_pos c];rw[YE] at c;rw[zt (show ¬(2*xi f.p f.q e.1-xi f.p f.q P<=0/\0<2*xi f.p f.q e.2-xi f.p f.q P/\tnn e.1 e.2 P<0) by omega)]
  lia
 ·rw[if_neg c];rw[YE] at c;rw[zt (show ¬(2*xi f.p f.q e.2-xi f.p f.q P<=0/\0<2*xi f.p f.q e.1-xi f.p f.q P/\0<tnn e.1 e.2 P) by omega),BM]
def Y7{c d:Prop}[Decidable c][Decidable d](h:c↔d):ind c=ind d:=by
 by_cases z:c
 ·rw[zV z,zV (h.mp z)]
 ·rw[zt z,zt λy=>z (h.mpr y)]
def JY{a b c:Int}{p:Prop}[Decidable p](h1:a<=b)(h2:b<=c):ind (a<=0/\0<b/\p)+ind (b<=0/\0<c/\p)=ind (a<=0/\0<c/\p):=by
 rcases gN 0 b with z|z
 ·rw[zt (c:=b<=0/\0<c/\p) λy=>Int.not_le.mpr z y.1,UH];exact Y7 ⟨λy=>⟨y.1,FV z h2,y.2.2⟩,λy=>⟨y.1,z,y.2.2⟩⟩
 ·rw[zt (c:=a<=0/\0<b/\p) λy=>FU.mpr z y.2.1,QY];exact Y7 ⟨λy=>⟨CA h1 z,y.2⟩,λy=>⟨z,y.2⟩⟩
theorem sb2(x y:Int):0-x+(0-y)=0-(y+x):=by lia
def crx_add{a b c:Int}(h:(a<=b/\b<=c)∨(c<=b/\b<=a)):crx a b t+crx b c t=crx a c t:=by
 have f:∀{x y:Int}{p:Prop}[Decidable p],x<=y->ind (y<=0/\0<x/\p)=0:=λl=>zt λy=>FU.mpr (CA l y.1) y.2.1;unfold crx;rcases h with h|h
 ·rw[f h.1,f h.2,f (CA h.1 h.2),←JY h.1 h.2,BM,BM,BM]
 ·rw[f h.2,f h.1,f (CA h.1 h.2),←JY (p:=0<t) h.1 h.2];exact sb2 _ _
def zgb{a b:Int}(h1:t<0↔t'<0)(h2:0<t↔0<t'):crx a b t=crx a b t':=by
 unfold crx;rw[Y7 (and_congr DV (and_congr DV h1)),Y7 (and_congr DV (and_congr DV h2))]
theorem zi1(a t:Int):crx a a t=0:=by
 unfold crx;rw[zt (by lia),zt (by omega)]
 rfl
theorem Fx_un(p q:Int)(P a:Int×Int)(k:Fin 8):∀n:Nat,su (Fx p q P) ((pP n).map λj=>(att a k ((j:Nat):Int),att a k ((j+1:Nat):Int)))=crx (2*xi p q a-xi p q P) (2*xi p q (att a k (n:Int))-xi p q P) (tnn a (stp a k) P)
 |0=>by
  rw[show((0:Nat):Int)=0 from rfl,xa,zi1];rfl
 |n+1=>by
  rw[QQ,uF,xP,Fx_un p q P a k n];show _+(Fx p q P (att a k (n:Int),att a k ((n:Int)+1))+0)=_;rw[UH];unfold Fx;dsimp only;have e1:∀j:Int,xi p q (att a k j)=xi p q a+j*xi p q (dv k):=λj=>by
   unfold xi att;dsimp only
   grind
  have e2:tnn (att a k (n:Int)) (att a k ((n:Int)+1)) P=tnn a (stp a k) P:=by
   rw[←xp,YU,YU];unfold att;dsimp only
   grind
  rw[e2,show((n+1:Nat):Int)=(n:Int)+1 by lia]
  refine crx_add ?_;rw[e1,e1];rcases EL 0 (xi p q (dv k)) with z|z
  ·left;have:=Uf (show 0<=(n:Int) by lia) z
   rw[Ad,CY];lia
  ·right;have:=XM (show 0<=(n:Int) by lia) z
   rw[Ad,CY];lia
theorem Fx_way(p q:Int)(P:Int×Int){es ws:List E2}(W:Wys es ws){w:E2}(hw:w∈ws):su (Fx p q P) (exW es w)=Fx p q P w:=by
 obtain⟨a,c⟩:=w;obtain⟨k,m,y,b⟩:=W.of _ hw;dsimp only at y;rw[xn y];unfold unE;rw[Fx_un,show((m+1:Nat):Int)=(m:Int)+1 by lia,←y.fin]
 unfold Fx;dsimp only;have e:tnn a c P=((m:Int)+1)*tnn a (stp a k) P:=by
  rw[YU,y.fin];unfold tnn att;dsimp only
  grind
 rw[e];have hm:0<(m:Int)+1:=by lia
 refine zgb (Z2 hm).symm ⟨λz=>QV hm z,λz=>za9 hm z⟩
theorem Fx_lp(p q:Int)(P:Int×Int){es ws:List E2}(W:Wys es ws):∀{wl:List E2},(∀w,w∈wl->w∈ws)->su (Fx p q P) (lpW es wl)=su (Fx p q P) wl
 |[],_=>rfl
 |w::wl,s=>by
  show su (Fx p q P) (exW es w++lpW es wl)=Fx p q P w+su (Fx p q P) wl
  rw[xP,Fx_way p q P W (s w (by simp)),Fx_lp p q P W λw hw=>s w (pE _ hw)]
noncomputable def zA(r:List (Int×Int)):List E2:=(pP r.length).map λi=>(nz r i,nz r (i+1))
section
variable{f:Fr}{cs:List C3}{es ws:List E2}
variable{r:List (Int×Int)}
def jZ(h:0<r.length)(i:Nat):nx (r.map (PF f)) i=PF f (nz r i):=by
 unfold nx nz;have hi:i%r.length<r.length:=BG _ h;rw[pC,pD,pD,pT,pJ hi];rfl
def ZT(h:0<r.length):(zA r).map (tdF f)=sds (r.map (PF f)):=by
 unfold zA sds;rw[gM,pC];refine Qx λi _=>?_;show(PF f (nz r i),PF f (nz r (i+1)))=_;rw[jZ h,jZ h]
theorem told_rs(w0:0<f.w)(d0:0<fd2 f){g:Int}{os:List (List Q3)}(td:Told (ws.map (tdF f)) g os):∃rs:List (List (Int×Int)),rs.map (DJ (PF f))=os/\∀r,r∈rs->3<=r.length/\r.length<=ws.length/\(∀a,a∈r->∃e,e∈ws/\a=e.1)/\∀e,e∈zA r->e∈ws:=by
 refine lift (g:=DJ (PF f)) (S:=λr=>3<=r.length/\r.length<=ws.length/\(∀a,a∈r->∃e,e∈ws/\a=e.1)/\∀e,e∈zA r->e∈ws) λq hq=>?_;have q3:=(td.rg q hq).2;have ql:=Wf hq;rw[td.pm.length_eq,pC] at ql;have sd:∀x,x∈sds q->∃e,e∈ws/\x=tdF f e:=λx hx=>by
  obtain⟨e,h1,h2⟩:=pL.mp (td.pm.mem_iff.mp (YI hq hx));exact⟨e,h1,h2.symm⟩
 obtain⟨r,h1,h2⟩:=lift (g:=PF f) (S:=λa=>∃e,e∈ws/\a=e.1) (l:=q) λx hx=>by
  obtain⟨j,hj,rfl⟩:=UC.mp hx;obtain⟨e,he,ee⟩:=sd _ (j5 (r:=q) (by lia) j)
  exact⟨e.1,⟨e,he,rfl⟩,by rw[←xg hj];exact(congrArg CB ee).symm⟩
 have lr:r.length=q.length:=by rw[←h1,pC]
 refine⟨r,⟨by lia,by lia,h2,λe he=>?_⟩,h1⟩
 have m:tdF f e∈sds q:=by
  rw[←h1,←ZT (by lia)]
  exact pL.mpr ⟨e,he,rfl⟩
 obtain⟨e',h3,h4⟩:=sd _ m;rw[j6 w0 d0 h4];exact h3
theorem crs_mv(f:Fr)(a b:Int×Int):crs0 (mv f a,mv f b)=(f.p*f.s-f.q*f.r)*crs (a,b)+((f.t*(f.r*b.1+f.s*b.2)-f.u*(f.p*b.1+f.q*b.2))-(f.t*(f.r*a.1+f.s*a.2)-f.u*(f.p*a.1+f.q*a.2))):=by
 unfold crs0 crs mv;dsimp only
 grind
def wL(h:0<r.length)(i:Nat):nz (r.map (mv f)) i=mv f (nz r i):=by
 unfold nz;have hi:i%r.length<r.length:=BG _ h;rw[pC,pD,pD,pT,pJ hi];rfl
def twc_mv(h:0<r.length):twc (r.map (mv f)) (r.map (mv f)).length=(f.p*f.s-f.q*f.r)*su crs (zA r):=by
 unfold twc;rw[pC,zP (g:=λi=>(f.p*f.s-f.q*f.r)*crs (nz r i,nz r (i+1))+((f.t*(f.r*(nz r (i+1)).1+f.s*(nz r (i+1)).2)-f.u*(f.p*(nz r (i+1)).1+f.q*(nz r (i+1)).2))-(f.t*(f.r*(nz r i).1+f.s*(nz r i).2)-f.u*(f.p*(nz r i).1+f.q*(nz r i).2)))) λi _=>by rw[wL h,wL h,crs_mv],Ya,ji]
 have c:Chn (nz r 0) (zA r) (nz r r.length):=YT (nz r) r.length;have e:nz r r.length=nz r 0:=by unfold nz;rw[HQ,HS]
 rw[e] at c;have z:=c.su (φ:=λv=>f.t*(f.r*v.1+f.s*v.2)-f.u*(f.p*v.1+f.q*v.2));rw[CD] at z;unfold zA at z⊢;rw[jg] at z⊢;dsimp only at z;rw[z,UH]
end
theorem zae{α:Type}{g h:α->Int}:∀{l:List α},(∀x,x∈l->g x%2=h x%2)->su g l%2=su h l%2
 |[],_=>rfl
 |x::l,k=>by
  have a:=k x (by simp)
  have b:=zae λy hy=>k y (pE x hy);show(g x+su g l)%2=(h x+su h l)%2;lia
def wi_par{f:Fr}(d0:0<fd2 f){r:List (Int×Int)}(h:0<r.length)(P:Int×Int):wiN (mvS f P) (r.map (mv f)) (r.map (mv f)).length%2=su (Fx f.p f.q P) (zA r)%2:=by
 unfold wiN zA;rw[pC,jg];refine zae λi _=>?_;rw[wL h,wL h];exact ov_crx d0 P (nz r i,nz r (i+1))
theorem YH{α β:Type}{g:α->β}:∀{l:List α},(l.map g).Nodup->∀{x y:α},x∈l->y∈l->g x=g y->x=y
 |[],_,_,_,h,_,_=>by cases h
 |z::l,nd,x,y,hx,hy,e=>by
  rw[pR] at nd;obtain⟨n1,n2⟩:=US.mp nd;rcases pS.mp hx with a|a<;>rcases pS.mp hy with b|b
  ·rw[a,b]
  ·exact absurd (pL.mpr ⟨y,b,by rw[←e,a]⟩) n1
  ·exact absurd (pL.mpr ⟨x,a,by rw[e,b]⟩) n1
  ·exact YH n2 a b e
theorem wit_rnd{X Y:Nat}{f:Fr}{cs:List C3}{es ws:List E2}{Ps:List (List C3)}{rs:List (List (Int×Int))}(A:All X Y f cs es ws Ps (rs.map zA))(hp:0<f.p)(l3:∀r,r∈rs->3<=r.length){r r':List (Int×Int)}(hr:r∈rs)(hr':r'∈rs)(ne:r≠r'):wiN (mvS f ((nz r' 0).1+(nz r' 1).1,(nz r' 0).2+(nz r' 1).2)) (r.map (mv f)) (r.map (mv f)).length%2=1↔Rnd (lpW es (zA r)) (lpW es (zA r')):=by
 have h3:=l3 r hr;have h3':=l3 r' hr';have m:∀{r:List (Int×Int)},r∈rs->lpW es (zA r)∈(rs.map zA).map (lpW es):=λh=>pL.mpr ⟨_,pL.mpr ⟨_,h,rfl⟩,rfl⟩;have nl:lpW es (zA r)≠lpW es (zA r'):=λz=>ne (by
  have nd:=A.ndL.1;rw[gM] at nd;exact YH nd hr hr' z)
 have sub:=λ{r:List (Int×Int)}(h:r∈rs)=>A.sub (zA r) (pL.mpr ⟨r,h,rfl⟩);have e0:zA r'=(nz r' 0,nz r' 1)::(zA r').tail:=by
  unfold zA;obtain⟨n,hn⟩:∃n,r'.length=n+1:=⟨r'.length-1,by lia⟩
  rw[hn,List.range_succ_eq_map];rfl
 have hw:(nz r' 0,nz r' 1)∈zA r':=by rw[e0];simp
 have hws:=sub hr' _ hw;have hx:∀e,e∈exW es (nz r' 0,nz r' 1)->e∈lpW es (zA r'):=λe he=>QC.mpr ⟨_,hw,he⟩;have hd:(lpW es (zA r')).headD ((0,0),(0,0))∈exW es (nz r' 0,nz r' 1):=by
  rw[e0];show(exW es (nz r' 0,nz r' 1)++lpW es (zA r').tail).headD _∈_;obtain⟨k,mm,y,b⟩:=A.W.of _ hws;rw[xn y];have:unE (nz r' 0) k mm≠[]:=λz=>by
   have:=congrArg Bd z;unfold unE at this;rw[pC,uS] at this
   cases this
  obtain⟨x,l,e⟩:=BH this;rw[e];exact pj ..
 have cr:=A.cross (m hr) (m hr') nl hws hx (p:=f.p) (q:=f.q) hp hd;rw[wi_par A.d0 (by lia),←Fx_lp f.p f.q _ A.W (sub hr),cr]
 obtain⟨P,hP,lP⟩:=A.part (m hr);obtain⟨c0,h0⟩:=A.pr.ne P hP;obtain⟨P',hP',lP'⟩:=A.part (m hr');have t:=(A.lps hP).two lP h0 _ (A.inB' (A.sP hP' (A.hd (m hr') lP')));have w:=(A.lps hP).w01 lP h0;unfold Rnd hdC at*
 constructor
 ·intro z;exact⟨nl,by omega⟩
 ·rintro⟨_,z⟩;omega
def LI(H:Hp)(p:Addr)(ns:List Int):Prop:=H p=some (.lst (ns.map V.int))
noncomputable def yQ(row:List Int)(hs:List (List Int))(n:Int):Bool:=(row.filter λk=> !decide (k=n)).all λk=>decide (k∈hs.getD n.toNat [])
noncomputable def di(n:Int):De:=.int n
theorem Ww{K:pI}{H:Hp}:∀ns:List Int,zO K H (ns.map di) (ns.map V.int)
 |[]=>by rw[QF,QF,zO]
 |n::ns=>by
  rw[pR,pR,zO];exact⟨_,_,rfl,by unfold di;rw[RdD],Ww ns⟩
theorem WB(ns:List Int):uU (ns.map di)=true:=by
 induction ns with
 |nil=>rfl
 |cons n ns ih=>rw[pR,uU,ih];rfl
def zba(ns:List Int)(k:Int):((ns.map di).any λe=>ut e (di k))=decide (k∈ns):=by
 rw[List.any_map,Qa,List.any_eq_true,decide_eq_true_iff]
 constructor
 ·rintro⟨x,h1,h2⟩;have h2:ut (di x) (di k)=true:=h2;unfold di at h2;rw[ut] at h2;have:x=k:=by simpa using h2
  rw[←this];exact h1
 ·intro h;exact⟨k,h,by show ut (di k) (di k)=true;unfold di;rw[ut];simp⟩
inductive ZK (vs:List V) (H:Hp) (Q:VK) (E:XK):Prop
 |mk (l h:Addr) (row:List Int) (ys:List V) (hs:List (List Int)) (_:vs=[.ref l,.ref h]) (_:LI H l row) (_:row.length<=100) (_:H h=some (.lst ys)) (_:LR LI H ys hs) (_:(∀n,n∈row->0<=n/\n<hs.length)) (_:∀H',ze H H'->Q (match row.find? (yQ row hs) with|some n=>V.int n|none=>V.non) H'):ZK vs H Q E
theorem zep(T:Txt K mg ad fd):zv P w K mg base CX0 1 (ad 17) (fd 17) ["row","holders"] ZK:=by
 refine T.innermost.fn.ok Jh (λvs H Q E h=>?_) (λcdv A outer s H vs Q E hr h=>?_)
 ·obtain⟨l,h',row,ys,hs,rfl,_⟩:=h;rfl
 obtain⟨l,h',row,ys,hs,rfl,hl,n100,hh,hy,rb,k⟩:=h;unfold LI at hl;refine⟨_,
  (pss2
   (yv uE rfl (yd (pm 0)) (zD 2 Jh.nd) (zp (zL (xc (ya (zhq rfl) rfl T.b_all bt_all (pa1 (xT Jh ["k"] [1,2] (yd (pm 0)) (λcl C fp s2 H2 xe=>⟨(zD 0 (show UG (["k","holders","number"]:List Str) from by decide+kernel)),(js (zM vt (pm 0) (pm 2) (nomark _))),(xq (op_inL (K':=K) rfl (hu64 hr)) (pm 0) (zd yg (pm 1) (pm 2)) rfl)⟩)) v7))) (zp (zq (pm 2))) zR)))
   (zq qd))
  ,?_⟩
 dsimp! [L2.start]
 simp! [];refine yo ?_;simp! [zX];refine⟨⟨_,.of hl⟩,?_⟩;refine xz (K:=K) (a:=l) (xs:=row.map V.int) (λi σ H'=>ze H H'/\(∃o:Option V,σ=[some (V.ref l),some (V.ref h'),o])/\∀n,n∈row.take i->yQ row hs n=false) ⟨.refl _,⟨none,rfl⟩,λn hn=>(by rw[Qs] at hn;cases hn)⟩ (λi σ H' _ iv=>.of (iv.1 _ _ hl)) ?_ ?_
 ·intro _ _;rintro i v σ H2 hi ⟨g2,⟨o,rfl⟩,no⟩;rw[pT] at hi;obtain⟨n,hn,rfl⟩:=Qr.mp hi;have hl2:=g2 _ _ hl;have nr:=pX hn;obtain⟨n0,n1⟩:=rb n nr;have en:n=((n.toNat:Nat):Int):=by lia
  obtain⟨ph,nh,hp1,hp2,hp3⟩:=hy.at (j:=n.toNat) (by have:=hy.1;lia)
  have gd:hs.getD n.toNat []=nh:=by rw[pD,hp2];rfl
  have ai:atI ys n=some (.ref ph):=by rw[en];exact yl hp1
  simp! [];refine y9 ?_;simp! [zX];refine⟨⟨_,.of hl2⟩,λB hB=>?_⟩;refine xG (xs:=row.map V.int) (λj qs H'=>ze H2 H'/\H' B=some (.lst qs)/\qs=(((row.take j).filter λk=> !decide (k=n)).map λk=>decide (k∈nh)).map V.bl) ⟨zg hB _,upd_same,rfl⟩ (λj qs H' z=>.of (z.1 _ _ hl2)) ?_ ?_
  ·rintro j qs H3 v hj hv ⟨g3,hB3,eq⟩;rw[pT] at hv;obtain⟨m,hm,rfl⟩:=Qr.mp hv;have lq:qs.length<=row.length:=by
    rw[eq,pC,pC];refine pz (Qm _ _) ?_;rw[uI];lia
   have hh3:=g3 _ _ (g2 _ _ hh);have hn3:H3 ph=some (.lst (nh.map V.int)):=g3 _ _ (g2 _ _ hp3);simp! [rInL,hh3,ai];refine ite2 (λc=>?_) (λc=>?_)
   ·refine⟨di m,by unfold di;rw[RdD],nh.map di,by rw[RdD];exact⟨ph,_,rfl,.of hn3,Ww _⟩,rfl,WB _,by unfold di;rw[Qw];exact uL _,?_⟩
    rw[zba];refine cw_put hj hB3 (small1000 (by lia)) ⟨zW g3 hB,upd_same,?_⟩
    rw[eq,uA,hm,uZ,show(some m).toList.filter (λk=> !decide (k=n))=[m] by show[m].filter _=[m];rw[QX,if_pos c];rfl,uF,uF]
    rfl
   ·refine cw_skip hj ⟨g3,hB3,?_⟩;rw[eq,uA,hm,uZ,show(some m).toList.filter (λk=> !decide (k=n))=[] by show[m].filter _=[];rw[QX,if_neg c];rfl,uR]
  ·rintro qs H3 ⟨g3,hB3,eq⟩;rw[pC,pV (pG _)] at eq;have ei:(((row.filter λk=> !decide (k=n)).map λk=>decide (k∈nh)).all id)=yQ row hs n:=by
    unfold yQ;rw[gd,List.all_map];rfl
   refine⟨B,_,rfl,by rw[←eq];exact hB3,_,rfl,?_⟩
   rw[ei];refine ite2 (λc=>?_) (λc=>?_)
   ·have:=k H3 (g2.trans g3);rw[show row.find? (yQ row hs)=some n from ?_] at this
    ·exact this
    ·rw[List.find?_eq_some_iff_getElem];refine⟨c,i,(pF.mp hn).1,(pF.mp hn).2,λj hj=>?_⟩;rw[no _ (List.mem_iff_getElem?.mpr ⟨j,by rw[AM hj];exact pJ _⟩)]
     rfl
   ·refine⟨g2.trans g3,λx hx=>?_⟩;rw[uA,hn] at hx;rcases pd.mp hx with z|z
    ·exact no x z
    ·have:x=n:=by simpa using z
     rw[this]
     cases q:yQ row hs n with
     |false=>rfl
     |true=>exact absurd q c
 ·rintro σ H2 ⟨g2,⟨o,rfl⟩,no⟩;rw[pC,pV (pG _)] at no;simp! [];have:=k H2 g2;rw[List.find?_eq_none.mpr λx hx z=>by rw[no x hx] at z;cases z] at this
  exact this
inductive zbj (vs:List V) (H:Hp) (Q:VK) (E:XK):Prop
 |mk (n m:Int) (_:vs=[.int n,.int m]) (_:Q (.bl (decide (0<=n/\n<m))) H):zbj vs H Q E
def zik(T:Txt K mg ad fd):zv P w K mg base CX0 1 (ad 42) (fd 42) ["_law_one","_law_many"] zbj:=by
 refine T.law_place.fn.ok zis (λvs H Q E h=>?_) (λcdv A outer s H vs Q E hr h=>?_)
 ·obtain⟨n,m,rfl,_⟩:=h;rfl
 obtain⟨n,m,rfl,k⟩:=h;refine⟨_,
  (zp (zq (qw (ya (jt zcz) rfl T.b_isinstance jn (pa2 (pm 0) zb (jm (v:=.ty "int") rfl T.b_int V1 rfl) zb)) (qw (Zs (ya (jt zc8) rfl T.b_isinstance jn (pa2 (pm 0) zb (jm (v:=.ty "bool") rfl T.b_bool zbr rfl) zb))) (Yt (zhi op_le xF za (pm 0) (pm 1)))))))
  ,?_⟩
 dsimp! [L2.start]
 simp! [zbk]
 by_cases c1:0<=n
 ·by_cases c2:n<m
  ·rw[decide_eq_true (show 0<=n/\n<m from⟨c1,c2⟩)] at k;simp only[c1,c2,decide_true,if_true];exact k
  ·rw[decide_eq_false (λz=>c2 z.2)] at k;simp only[c1,c2,decide_true,decide_false,if_true];exact k
 ·rw[decide_eq_false (λz=>c1 z.1)] at k;simp only[c1,decide_false,uD,if_false];exact k
theorem Z0:∀F G:List (Int×Int),uP (F.map d2) (G.map d2)=decide (F=G)
 |[],[]=>by simp[uP]
 |[],_::_=>by simp[uP]
 |_::_,[]=>by simp[uP]
 |a::F,b::G=>by
  rw[pR,pR,uP,Va,Z0 F G];rw[Qa]
  simp
def d2s_eqv(F G:List (Int×Int)):ut (.list (F.map d2)) (.list (G.map d2))=decide (F=G):=by
 rw[ut,Z0]
theorem zc9(F:List (Int×Int)):Qq (.list (F.map d2))=true:=by
 have h:=ZJ F;unfold Qq
 simp[UI,Qw,h.1]
 have:=h.2;lia
theorem zbu{K:pI}{H:Hp}:∀{zs:List V}{F:List (Int×Int)},LR P2H H zs F->zO K H (F.map d2) zs
 |[],[],_=>by rw[QF,zO]
 |[],_::_,h=>by cases h.1
 |v::zs,F,h=>by
  obtain⟨a,as,rfl,⟨p,rfl,hp⟩,t⟩:=h.cons_inv;rw[pR,zO];exact⟨_,_,rfl,qB hp,zbu t⟩
def rd_rg{K:pI}{H:Hp}{l:Addr}{m:List (Int×Int)}(h:RgP H l m):RdD K H (.list (m.map d2)) (.ref l):=by
 obtain⟨zs,h1,h2⟩:=h;rw[RdD];exact⟨l,_,rfl,.of h1,zbu h2⟩
def WJ(T:Txt K mg ad fd):zv P w K mg base CX0 1 (ad 0) (fd 0) ["thing"] Zb:=by
 refine T.is_whole.fn.ok zi7 (λvs H Q E h=>?_) (λcdv A outer s H vs Q E hr h=>?_)
 ·obtain⟨i,rfl,_⟩:=h;rfl
 obtain⟨i,rfl,q⟩:=h;refine⟨_,
  (zp (zq (qw (ya (jt zcz) rfl T.b_isinstance jn (pa2 (pm 0) zb (jm (v:=.ty "int") rfl T.b_int V1 rfl) zb)) (Yt (Zs (ya (jt zc8) rfl T.b_isinstance jn (pa2 (pm 0) zb (jm (v:=.ty "bool") rfl T.b_bool zbr rfl) zb)))))))
  ,?_⟩
 dsimp! [L2.start]
 simp! [];exact q
theorem zbp(T:Txt K mg ad fd):zv P w K mg base CX0 1 (ad 1) (fd 1) ["one","other"] Xj:=by
 refine T.divisor.fn.ok ju (λvs H Q E h=>?_) (λcdv A outer s H vs Q E hr h=>?_)
 ·obtain⟨a,b,rfl,_⟩:=h;rfl
 obtain⟨a,b,rfl,q⟩:=h;refine⟨_,
  (pss4
   (zk 2 ju.nd (ya XS rfl T.b_abs Vv (pa1 (pv 0) zb)))
   (zk 3 ju.nd (ya XS rfl T.b_abs Vv (pa1 (pv 1) zb)))
   (Xk uE (zM vt (pv 3) za (nomark _)) (pss3
   (zk 4 ju.nd (zc jx (pv 2) (pv 3)))
   (zk 2 ju.nd (pv 3))
   (zk 3 ju.nd (pv 4))))
   (zq (pv 2)))
  ,?_⟩
 dsimp! [L2.start]
 simp only[zG,Yj,jW,Ja,j7,w6,gName,qX,tVar,tC,tOp,tUn,rI,rI0,rU,rEq,rNe,Yd,tB,qY,qM,tOr,qA,qQ,qH,tIf,tCB,jL,xy,zU,qP,qr,gTup,gCons,gNil,L2.start,rIsi,rIxT,rIxL,cx_K,tyN_non,tyN_bl,tyN_int,tyN_str,isi_ii,isi_ib,VD,VQ,Js,WO,VV,V6,Vp,Vn,XR,Jw,isi_ll,scal_ii,scal_bb,sz0,sz1,sz2,sz3,sz4,pR,QF,uN,Uj,AT,AV,Al,uR,Bg,Bh,DG,DH,At,V.int.injEq,V.bl.injEq,V.ref.injEq,V.ty.injEq,Ba,and_true,true_and,exists_eq_left,exists_eq_left',exists_and_left,exists_and_right,exists_eq,exists_eq',and_assoc,CQ,CS,gZ,DD,uD,if_true,if_false,reduceIte,AJ,decide_true,decide_false];refine zcp (zj2 a b H) (λσ _=>(getI σ 3).toNat) ⟨rfl,_,_,_,rfl,by split<;>lia,by split<;>lia,G_abs a b⟩ ?_
  (λσ H Q Q' m h=>by obtain⟨v,e,s,k,e2,q⟩:=h;exact⟨v,e,s,k,e2,m _ _ q⟩)
 rintro σ H' ⟨rfl,x,y,r,rfl,hx,hy,e⟩;simp only[zG,Yj,jW,Ja,j7,w6,gName,qX,tVar,tC,tOp,tUn,rI,rI0,rU,rEq,rNe,Yd,tB,qY,qM,tOr,qA,qQ,qH,tIf,tCB,jL,xy,zU,qP,qr,gTup,gCons,gNil,L2.start,rIsi,rIxT,rIxL,cx_K,tyN_non,tyN_bl,tyN_int,tyN_str,isi_ii,isi_ib,VD,VQ,Js,WO,VV,V6,Vp,Vn,XR,Jw,isi_ll,scal_ii,scal_bb,sz0,sz1,sz2,sz3,sz4,pR,QF,uN,Uj,AT,AV,Al,uR,Bg,Bh,DG,DH,At,V.int.injEq,V.bl.injEq,V.ref.injEq,V.ty.injEq,Ba,and_true,true_and,exists_eq_left,exists_eq_left',exists_and_left,exists_and_right,exists_eq,exists_eq',and_assoc,CQ,CS,gZ,DD,uD,if_true,if_false,reduceIte,AJ,decide_true,decide_false];refine ite2 (λc=>?_) (λc=>?_)
 ·have hy0:0<y:=by
   rcases Int.lt_or_eq_of_le hy with z|z
   ·exact z
   ·subst z;simp at c
  obtain⟨h1,h2,h3⟩:=turn e hy0;exact⟨by lia,⟨rfl,_,_,_,rfl,h1,h2,h3⟩,less hy0⟩
 ·have hy0:y=0:=by simpa using c
  rw[←e,←G_zero hx hy0] at q;exact q
def zgj(T:Txt K mg ad fd):zv P w K mg base CX0 2 (ad 2) (fd 2) ["x","y","w"] ze3:=by
 refine T.point.fn.ok X5 (λvs H Q E h=>?_) (λcdv A outer s H vs Q E hr h=>?_)
 ·obtain⟨a,b,w,rfl,_⟩:=h;rfl
 obtain⟨a,b,w,rfl,hb,hz,q⟩:=h;refine⟨_,
  (pss5
   (zL (PW.pt (vz (vQ (xc (zu (WJ T) T.is_whole hr (pa1 (pv 0) zb)))) (vz (vQ (xc (zu (WJ T) T.is_whole hr (pa1 (pv 1) zb)))) (j4 (vQ (xc (zu (WJ T) T.is_whole hr (pa1 (pv 2) zb)))))))) (zp VC) zR)
   (zL (zM wz (pv 2) za (nomark _)) (zp VC) zR)
   (zk 3 X5.nd (zu (zbp T) T.divisor hr (pa2 (zu (zbp T) T.divisor hr (pa2 (pv 2) zb (pv 0) zb)) yw (pv 1) zb)))
   (zL (zM xF (pv 2) za (nomark _)) (zp (zk 3 X5.nd (Vh Wu (pv 3)))) zR)
   (zq (ye (pa3 (zc wW (pv 0) (pv 3)) zx (zc wW (pv 1) (pv 3)) zx (zc wW (pv 2) (pv 3)) zx))))
  ,?_⟩
 dsimp! [L2.start]
 simp! [Zb,Xj];have hg:(fac3 a b w).natAbs<2^8000:=QN (fac3_le hb) hz;have hn:=fac3_ne (x:=a) (y:=b) hb;refine ite2 (λc=>absurd (of_decide_eq_true c) hb) (λ_=>ite2 (λc=>?_) λc=>?_)
 ·have ef: -G (G w a) b=fac3 a b w:=(if_pos (of_decide_eq_true c)).symm;rw[ef];exact⟨cdivb hn hg,cdivb hn hg,cdivb hn hg,λp hp=>q p _ (zg hp _) upd_same⟩
 ·have ef:G (G w a) b=fac3 a b w:=(if_neg λz=>c (decide_eq_true z)).symm;rw[ef];exact⟨cdivb hn hg,cdivb hn hg,cdivb hn hg,λp hp=>q p _ (zg hp _) upd_same⟩
def ok_amid(T:Txt K mg ad fd):zv P w K mg base CX0 3 (ad 8) (fd 8) ["P","Q"] zag:=by
 refine T.amid.fn.ok sc_amid (λvs H Q E h=>?_) (λcdv A outer s H vs Q E hr h=>?_)
 ·obtain⟨p,q,x1,y1,w1,x2,y2,w2,rfl,_⟩:=h;rfl
 obtain⟨p,q,x1,y1,w1,x2,y2,w2,rfl,⟨hp,pp⟩,⟨hq,pq⟩,n1,n2,k⟩:=h;refine⟨_,
  (zp (zq (zu (zgj T) T.point hr (pa3 (zc zQ (zc zN (zd zf (pm 0) za) (zd zf (pm 1) za)) (zc zN (zd zf (pm 1) za) (zd zf (pm 0) za))) zx (zc zQ (zc zN (zd zf (pm 0) za) (zd zf (pm 1) za)) (zc zN (zd zf (pm 1) za) (zd zf (pm 0) za))) zx (zc zN (zc y4 za (zd zf (pm 0) za)) (zd zf (pm 1) za)) zx))))
  ,?_⟩
 dsimp! [L2.start]
 simp! [ze3,hp,hq];have l2:(2*w1).natAbs<2^(2+1000):=xJ (by decide) pp.2.2
 refine⟨cbig pp.1 pq.2.2,cbig pq.1 pp.2.2,cbig pp.2.1 pq.2.2,cbig pq.2.1 pp.2.2,.inl ⟨by decide,by decide⟩,cbig l2 pq.2.2,?_,yT (xJ l2 pq.2.2) (by decide),k⟩
 exact Gf (Gf (by decide) n1) n2
def zg6(T:Txt K mg ad fd):zv P w K mg base CX0 2 (ad 11) (fd 11) ["P","Q"] sp_sd:=by
 refine T.stretch.fn.ok zg8 (λvs H Q E h=>?_) (λcdv A outer s H vs Q E hr h=>?_)
 ·obtain⟨p,q,a,b,rfl,_⟩:=h;rfl
 obtain⟨p,q,a,b,rfl,hp,hq,ne,k⟩:=h;refine⟨_,
  (pss3
   (zL (zM (Y4 (hu64 hr)) (pm 0) (pm 1) (nomark _)) (zp VC) zR)
   (zL (xc (zu (zac T) T.before hr (pa2 (pm 0) zb (pm 1) zb))) (zp (zq (ye (pa2 (pm 0) zb (pm 1) zb)))) zR)
   (zq (ye (pa2 (pm 1) zb (pm 0) zb))))
  ,?_⟩
 dsimp! [L2.start]
 simp! [tRaise];refine⟨_,_,YQ (.of hp.1),YQ (.of hq.1),Xp _ _ _,Xp _ _ _,_,rfl,?_⟩;rw[zdl,decide_eq_false ne];unfold sd1 at k;refine yE ⟨p,q,_,_,_,_,_,_,rfl,hp,hq,_,rfl,ite2 (λc=>?_) λc=>?_⟩
 ·intro r hr';have g:=zg hr' (HO.tup [V.ref p,V.ref q]);have z:=k r _ g;rw[if_pos c] at z;exact z ⟨p,q,upd_same,hp.same g,hq.same g⟩
 ·intro r hr';have g:=zg hr' (HO.tup [V.ref q,V.ref p]);have z:=k r _ g;rw[if_neg c] at z;exact z ⟨q,p,upd_same,hq.same g,hp.same g⟩
def zge(T:Txt K mg ad fd):zv P w K mg base CX0 1 (ad 13) (fd 13) ["S","P"] zb0:=by
 refine T.spans.fn.ok zht (λvs H Q E h=>?_) (λcdv A outer s H vs Q E hr h=>?_)
 ·obtain⟨p,q,d,x,y,w,rfl,_⟩:=h;rfl
 obtain⟨p,q,d,x,y,w,rfl,⟨a,b,hp,ha,hb⟩,hq,k⟩:=h;refine⟨_,
  (pss2
   (zL (zM xF (zc zN (zd zf (pm 1) za) (zd zf (zd zf (pm 0) za) za)) (zc zN (zd zf (zd zf (pm 0) za) za) (zd zf (pm 1) za)) (nomark _)) (zp (zq wD)) zR)
   (zq (xq xF (zc zN (zd zf (pm 1) za) (zd zf (zd zf (pm 0) za) za)) (zc zN (zd zf (zd zf (pm 0) za) za) (zd zf (pm 1) za)) (nomark _))))
  ,?_⟩
 dsimp! [L2.start]
 simp! [hp,ha.1,hb.1,hq.1];unfold YD at k;refine⟨cbig hq.2.1 ha.2.2.2,cbig ha.2.1 hq.2.2.2,ite2 (λc=>?_) (λc=>⟨cbig hq.2.1 hb.2.2.2,cbig hb.2.1 hq.2.2.2,?_⟩)⟩
 ·rw[if_pos (of_decide_eq_true c)] at k;exact k
 ·rw[if_neg (λz=>c (decide_eq_true z))] at k;exact k
def zg9(T:Txt K mg ad fd):zv P w K mg base CX0 4 (ad 12) (fd 12) ["stretches","P"] Zu:=by
 refine T.above.fn.ok zb5 (λvs H Q E h=>?_) (λcdv A outer s H vs Q E hr h=>?_)
 ·obtain⟨l,q,ys,ds,x,y,w,rfl,_⟩:=h;rfl
 obtain⟨l,q,ys,ds,x,y,w,rfl,hl,hz,hs,hq,k⟩:=h;refine⟨_,
  (zp (zq (ya y7 rfl T.b_len yG (pa1 (xT zb5 ["S"] [1] (yd (pv 0)) (λcl C fp s2 H2 xe=>⟨(zD 0 (show UG (["S","P"]:List Str) from by decide+kernel)),(js (PW.pt (Xq (xc (zu (zge T) T.spans hr (pa2 (pv 0) zb (pv 1) zb))) (Xs (zM xF (zu (Xd T) T.turn hr (pa3 (zd yP (pv 0) za) zY (zd yP (pv 0) za) zY (pv 1) zb)) za (nomark _)))))),(pv 0)⟩)) v7))))
  ,?_⟩
 dsimp! [L2.start]
 simp only[zG,w6,L2.start,cx_K,pR,QF,uN,Uj,AT,AV,Al,CQ,CS,AJ,jW,tCB,zU,xy];refine y9 ?_;refine⟨_,rfl,l,rfl,⟨_,.of hl⟩,λD hD=>?_⟩;refine xG (xs:=ys) (λi zs H'=>ze H H'/\H' D=some (.lst zs)/\zs.length=cntAb (ds.take i) x y w/\zs.length<=i) ⟨zg hD _,upd_same,rfl,uL _⟩ (λi zs H' p=>.of (p.1 _ _ hl)) ?_ ?_
 ·rintro i zs H2 v hi hv ⟨g2,hD2,hn,hle⟩;obtain⟨p,d,rfl,hd,hp⟩:=hs.2 i v hv;have hp2:=hp.ts (zI g2);have hq2:=hq.same g2;have ct:=zg0 x y w hd;simp! [];obtain⟨a,b,ha,hA,hB⟩:=id hp2;refine⟨p,q,d,x,y,w,rfl,hp2,hq2,_,rfl,ite2 (λc=>?_) λc=>?_⟩
  ·simp! [ha];refine⟨a,b,q,_,_,_,_,_,_,x,y,w,rfl,hA,hB,hq2.mono,λH3 g3'=>⟨_,rfl,ite2 (λc2=>?_) λc2=>?_⟩⟩
   ·have ea:abv x y w d=true:=by unfold abv;rw[c,decide_eq_true (zco.mp (of_decide_eq_true c2))];rfl
    refine cw_put hi (g3' _ _ hD2) (QN hle (Cj hi (Cj hz (by decide)))) ⟨zW (g2.trans g3') hD,upd_same,?_,?_⟩
    ·rw[ct,if_pos ea,pK,hn];rfl
    ·rw[pK];exact gK hle
   ·have ea:¬abv x y w d=true:=by
     unfold abv;rw[c,Dl];exact λz=>c2 (decide_eq_true (zco.mpr (of_decide_eq_true z)))
    exact cw_skip hi ⟨g2.trans g3',g3' _ _ hD2,by rw[ct,if_neg ea,hn];rfl,Bu hle⟩
  ·have ea:¬abv x y w d=true:=by
    unfold abv;intro z;rw[BL] at z;exact c z.1
   exact cw_skip hi ⟨g2,hD2,by rw[ct,if_neg ea,hn];rfl,Bu hle⟩
 ·rintro zs H2 ⟨g2,hD2,hn,hle⟩;simp! [hD2];rw[hn,hs.1,List.take_length];exact k H2 g2
theorem zfz(T:Txt K mg ad fd):zv P w K mg base CX0 3 (ad 14) (fd 14) ["rings"] ZL:=by
 refine T.sides_of.fn.ok qS (λvs H Q E h=>?_) (λcdv A outer s H vs Q E hr h=>?_)
 ·obtain⟨l,ys,rs,rfl,_⟩:=h;rfl
 obtain⟨l,ys,rs,rfl,hl,hz,hR,k⟩:=h;refine⟨_,
  (pss3
   (zk 1 qS.nd (yN yM))
   (yv uE rfl (yd (pv 0)) (zD 2 qS.nd) (zp (yv uE rfl (pi_zip rfl T.b_zip (pa2 (pv 2) zb (zc J9 (vJ vG (pv 2) (vw za) vD) (vJ vG (pv 2) vD (vw za))) zx)) (zde (n:=2) rfl (xt (zD 3 qS.nd) (xt (zD 4 qS.nd) vI))) (zp (zL (zM (vS (hu64 hr)) (pv 3) (pv 4) (nomark _)) (zp (xD (xM uQ uo uq xU (pv 1) (pa1 (zu (zg6 T) T.stretch hr (pa2 (pv 3) zb (pv 4) zb)) yw)))) zR)))))
   (zq (pv 1)))
  ,?_⟩
 dsimp! [L2.start]
 simp! [];intro D hD;have gD:=zg hD (HO.lst []);refine⟨_,rfl,l,rfl,⟨_,.of (gD _ _ hl)⟩,xz (K:=K) (a:=l) (xs:=ys) (λi σ H'=>ze H H'/\∃(zs:List V)(u v t:Option V),σ=[some (V.ref l),some (V.ref D),u,v,t]/\H' D=some (.lst zs)/\zs.length<=200*i/\StL H' zs (sdA rs i)) ⟨gD,[],none,none,none,rfl,upd_same,pG _,.nil⟩ (λi σ H' _ iv=>.of (iv.1 _ _ hl)) ?_ ?_⟩
 ·intro _ _;rintro i v σ H2 hi ⟨g2,zs,u,v',t,rfl,hD2,hn,hs⟩;obtain⟨p,r,rfl,hr',ws,hp,hw,h20,hit⟩:=hR.2 i v hi;have i20:i<200:=pf (pF.mp hi).1 hz;have hp2:=g2 _ _ hp;simp! [];refine yo ?_;simp! [iZip,hp2,WT,ze0];intro p1 hp1;have g3:=zg hp1 (HO.lst (ws.drop 1));have h31:upd H2 p1 (HO.lst (ws.drop 1)) p1=some (HO.lst (ws.drop 1)):=upd_same;have hr3:=g3 _ _ hp2;generalize upd H2 p1 (HO.lst (ws.drop 1))=H3 at*;simp! [hr3,ze0];intro p2 hq2;have g4:=zg hq2 (HO.lst (ws.take 1));have h42:upd H3 p2 (HO.lst (ws.take 1)) p2=some (HO.lst (ws.take 1)):=upd_same;have h41:=g4 _ _ h31;generalize upd H3 p2 (HO.lst (ws.take 1))=H4 at*;refine⟨p1,p2,_,_,rfl,rfl,h41,h42,?_,λp3 hp3=>?_⟩
  ·have:sizeLine=sizeLine:=rfl;rw[uK,uI];exact pz (show _<=400 by lia) (by decide)
  have g5:=zg hp3 (HO.lst (ws.drop 1++ws.take 1));have h53:upd H4 p3 (HO.lst (ws.drop 1++ws.take 1)) p3=some (HO.lst (ws.drop 1++ws.take 1)):=upd_same;have g25:=g3.trans (g4.trans g5);have hD4:=g4 _ _ (g3 _ _ hD2);have nD:D≠p3:=xu hD4 hp3;generalize upd H4 p3 (HO.lst (ws.drop 1++ws.take 1))=H5 at*;simp! [];have len:ws.length=(ws.drop 1++ws.take 1).length:=by rw[pK,uK,uI];lia
  refine⟨⟨_,.of (g25 _ _ hp2)⟩,⟨_,.of h53⟩,for_zip (K:=K) (l1:=p) (l2:=p3) (xs:=ws) (ys:=ws.drop 1++ws.take 1) (λj σ H'=>ze H H'/\H' p3=some (.lst (ws.drop 1++ws.take 1))/\∃(zs:List V)(v t:Option V),σ=[some (V.ref l),some (V.ref D),some (V.ref p),v,t]/\H' D=some (.lst zs)/\zs.length<=200*i+j/\StL H' zs (sdA rs i++sdR r j))
   ⟨g2.trans g25,h53,zs,v',t,rfl,g25 _ _ hD2,hn,by rw[show sdR r 0=[] from rfl,uR];exact hs.ts (zI g25)⟩ (λj σ H' iv=>⟨.of (iv.1 _ _ hp),.of iv.2.1⟩) len ?_ ?_⟩
  ·rintro j x y T σ H6 hx hy ⟨g6,h63,zs6,v6,t6,rfl,hD6,hn6,hs6⟩ hT;have hj:j<ws.length:=(pF.mp hx).1;rw[zhu ws j hj,hw] at hy;obtain⟨a,ca,rfl,ea,ta⟩:=hit _ _ hx;obtain⟨b,cb,rfl,eb,tb⟩:=hit _ _ hy;have g7:=zg hT (HO.tup [V.ref a,V.ref b]);have hT7:upd H6 T (HO.tup [V.ref a,V.ref b]) T=some (HO.tup [V.ref a,V.ref b]):=upd_same;have hD7:=g7 _ _ hD6;have h73:=g7 _ _ h63;have hs7:=hs6.ts (zI g7);have ta7:=ta.same (g6.trans g7);have tb7:=tb.same (g6.trans g7);generalize upd H6 T (HO.tup [V.ref a,V.ref b])=H7 at*;simp! [];refine⟨_,.of hT7,rfl,_,_,rfl,_,_,rfl,rfl,_,_,YQ (.of ta7.1),YQ (.of tb7.1),Xp _ _ _,Xp _ _ _,_,rfl,?_⟩;rw[zdl,zex,JJ ea eb,←uH];unfold sd
   by_cases e:ca.x=cb.x/\ca.y=cb.y/\ca.w=cb.w
   ·rw[decide_eq_true e,if_pos e,uR];exact yE ⟨g6.trans g7,h73,zs6,hD7,by lia,hs7⟩
   ·rw[decide_eq_false e,if_neg e];refine vx ⟨xB hD7,a,b,ca,cb,rfl,ta7,tb7,e,λrr H8 g8 st=>?_⟩;have hD8:=g8 _ _ hD7;refine⟨zs6,hD8,?_,zW (g6.trans (g7.trans g8)) hD,by rw[zh nD.symm];exact g8 _ _ h73,by rw[pK,uz];lia,((hs7.ts (zI g8)).snoc st).ts (yS hD8)⟩
    exact QN (show zs6.length<=50000 by lia) (by decide)
  ·rintro σ H6 ⟨g6,h63,zs6,v6,t6,rfl,hD6,hn6,hs6⟩;refine⟨g6,⟨_,_,_,rfl⟩,zs6,hD6,by lia,?_⟩
   rw[ziw hr',←hw];exact hs6
 ·rintro σ H2 ⟨g2,zs,u,v',t,rfl,hD2,hn,hs⟩;simp! [];rw[hR.1] at hs;exact k D zs H2 hD g2 hD2 (pz hn (Nat.mul_le_mul_left 200 hz)) hs
inductive ZN (vs:List V) (H:Hp) (Q:VK) (E:XK):Prop
 |mk (l q:Addr) (ys:List V) (ds:List S6) (x y w:Int) (_:vs=[.ref l,.ref q]) (_:H l=some (.lst ys)) (_:ys.length<100000) (_:StL H ys ds) (_:TB 1000 H q x y w) (_:∀H',ze H H'->Q (.bl (decide (((cntAb ds x y w:Nat):Int)%2=1))) H'):ZN vs H Q E
def zj8(T:Txt K mg ad fd):zv P w K mg base CX0 5 (ad 15) (fd 15) ["sides","P"] ZN:=by
 refine T.is_round.fn.ok zeo (λvs H Q E h=>?_) (λcdv A outer s H vs Q E hr h=>?_)
 ·obtain⟨l,q,ys,ds,x,y,w,rfl,_⟩:=h;rfl
 obtain⟨l,q,ys,ds,x,y,w,rfl,hl,hn,hs,hq,k⟩:=h;refine⟨_,
  (zp (zq (xq wz (zc yn (zu (zg9 T) T.above hr (pa2 (pm 0) zb (pm 1) zb)) za) za (nomark _))))
  ,?_⟩
 dsimp! [L2.start]
 simp! [];refine⟨l,q,ys,ds,x,y,w,rfl,hl,hn,hs,hq,λH1 g1=>?_⟩;exact⟨_,rfl,by decide,k H1 g1⟩
noncomputable def toP(a:Q3):P3:=⟨a.x,a.y,a.w⟩
variable{p:Addr}
def rgH_of{H:Hp}{r:List Q3}(h:RgQ H p r)(l:r.length<=200):RgH H p (r.map toP):=by
 obtain⟨zs,h1,h2⟩:=h;refine⟨zs,h1,by rw[pC];exact h2.1,by rw[pC];exact l,λk v z=>?_⟩
 obtain⟨a,c,e,f,t⟩:=h2.2 k v z;exact⟨a,toP c,e,by rw[pT,f];rfl,t.tb⟩
noncomputable def vN(a b:Q3):Int:=ptX (a.x*b.w+b.x*a.w) (a.y*b.w+b.y*a.w) (2*a.w*b.w)
noncomputable def vA(a b:Q3):Int:=ptY (a.x*b.w+b.x*a.w) (a.y*b.w+b.y*a.w) (2*a.w*b.w)
noncomputable def vv(a b:Q3):Int:=ptW (a.x*b.w+b.x*a.w) (a.y*b.w+b.y*a.w) (2*a.w*b.w)
def MdH(H:Hp)(p:Addr)(r:List Q3):Prop:=TB 1000 H p (vN (nx r 0) (nx r 1)) (vA (nx r 0) (nx r 1)) (vv (nx r 0) (nx r 1))
def md_ts:∀(H H':Hp)(p:Addr)(r:List Q3),zJ H H'->MdH H p r->MdH H' p r:=λ_ _ _ _ g h=>h.ts g
noncomputable def sd3(r:List Q3):List S6:=sdA [r.map toP] 1
def SdH(H:Hp)(p:Addr)(r:List Q3):Prop:=∃zs,H p=some (.lst zs)/\zs.length<=40000/\StL H zs (sd3 r)
def SdH.same{H H':Hp}{r:List Q3}(h:SdH H p r)(g:ze H H'):SdH H' p r:=by
 obtain⟨zs,h1,h2,h3⟩:=h;exact⟨zs,g _ _ h1,h2,h3.ts (zI g)⟩
noncomputable def wT(a b:List Q3):Bool:=decide (((cntAb (sd3 b) (vN (nx a 0) (nx a 1)) (vA (nx a 0) (nx a 1)) (vv (nx a 0) (nx a 1)):Nat):Int)%2=1)
noncomputable def xb(n i:Nat):List Nat:=(pP n).filter λk=> !decide ((k:Int)=(i:Int))
noncomputable def yt(l:List Nat):List Int:=l.map λk:Nat=>(k:Int)
noncomputable def yu(rs:List (List Q3))(i:Nat):List Int:=yt ((xb rs.length i).filter λk=>wT (rs.getD i []) (rs.getD k []))
noncomputable def yW(rs:List (List Q3)):List (List Int):=(pP rs.length).map (yu rs)
noncomputable def oV(o:Option Int):V:=match o with|some n=>V.int n|none=>V.non
noncomputable def yO(rs:List (List Q3)):List (Option Int):=(yW rs).map λrow=>row.find? (yQ row (yW rs))
noncomputable def xl(rs:List (List Q3)):List V:=(yO rs).map oV
theorem ZR{rs:List (List Q3)}{i:Nat}{n:Int}(h:n∈yu rs i):0<=n/\n<rs.length:=by
 unfold yu yt xb at h;obtain⟨k,hk,rfl⟩:=pL.mp h;have:=pQ.mp (pg.mp (pg.mp hk).1).1;lia
def zfj(rs:List (List Q3))(i:Nat):(yu rs i).length<=rs.length:=by
 unfold yu yt xb;rw[pC];refine pz (Qm _ _) (pz (Qm _ _) ?_);rw[uS];exact pG _
def LI.put{H:Hp}{R:Addr}{r:List Int}{o:HO}(h:LI H p r)(ne:p≠R):LI (upd H R o) p r:=by
 unfold LI at*;rw[zh ne];exact h
inductive zbc (vs:List V) (H:Hp) (Q:VK) (E:XK):Prop
 |mk (l:Addr) (ys:List V) (rs:List (List Q3)) (_:vs=[.ref l]) (_:H l=some (.lst ys)) (_:ys.length<=100) (_:LR RgQ H ys rs) (_:(∀r,r∈rs->2<=r.length/\r.length<=200)) (_:(∀r,r∈rs->Bd3 1000 (vN (nx r 0) (nx r 1)) (vA (nx r 0) (nx r 1)) (vv (nx r 0) (nx r 1)))) (_:∀D H',H D=none->ze H H'->H' D=some (.lst (xl rs))->Q (.ref D) H'):zbc vs H Q E
theorem YW(T:Txt K mg ad fd):zv P w K mg base CX0 6 (ad 16) (fd 16) ["some"] zbc:=by
 refine T.nest.fn.ok wS (λvs H Q E h=>?_) (λcdv A outer s H vs Q E hr h=>?_)
 ·obtain⟨l,ys,rs,rfl,_⟩:=h;rfl
 obtain⟨l,ys,rs,rfl,hl,hn,hr1,h10,hbd,k⟩:=h;refine⟨_,
  (pss5
   (zk 1 wS.nd (xT wS ["ring"] [] (yd (pm 0)) (λcl C fp s2 H2 xe=>⟨(zD 0 (show UG (["ring"]:List Str) from by decide+kernel)),wI,(zu (zfz T) T.sides_of hr (pa1 (yN (pa1 (pm 0) zb)) VP))⟩)))
   (XC 2 wS ["ring"] [] (yd (pm 0)) (λcl C fp s2 H2 xe=>⟨(zD 0 (show UG (["ring"]:List Str) from by decide+kernel)),wI,(zu (ok_amid T) T.amid hr (pa2 (zd yg (pm 0) za) zY (zd yg (pm 0) za) zY))⟩))
   (zk 3 wS.nd (yN yM))
   (yv uE rfl (pi_enu rfl T.b_enumerate (pa1 (pm 2) zb)) (vU (n:=2) rfl (xt (zD 4 wS.nd) (xt (zD 5 wS.nd) vI))) (pss2
   (XC 6 wS ["k"] [4] (wG rfl T.b_range (pa1 (ya y7 rfl T.b_len yG (pa1 (pm 0) zb)) yw)) (λcl C fp s2 H2 xe=>⟨(zD 0 (show UG (["k","number"]:List Str) from by decide+kernel)),(js (zM vt (pm 0) (pm 1) (nomark _))),(pm 0)⟩))
   (xD (xM uQ uo uq xU (pm 3) (pa1 (xT wS ["k"] [1,5] (yd (pm 6)) (λcl C fp s2 H2 xe=>⟨(zD 0 (show UG (["k","sides","middle"]:List Str) from by decide+kernel)),(js (xc (zu (zj8 T) T.is_round hr (pa2 (zd yg (pm 1) (pm 0)) zY (pm 2) zb)))),(pm 0)⟩)) v7)))))
   (zq (xT wS ["row"] [3] (yd (pm 3)) (λcl C fp s2 H2 xe=>⟨(zD 0 (show UG (["row","holders"]:List Str) from by decide+kernel)),wI,(zu (zep T) T.innermost hr (pa2 (pm 0) zb (pm 1) zb))⟩))))
  ,?_⟩
 dsimp! [L2.start]
 simp! [];refine y9 ?_;simp! [zX];have l10:∀r,r∈rs->r.length<=200:=λr hr=>(h10 r hr).2;refine⟨⟨_,.of hl⟩,λS hS=>?_⟩;refine xG (xs:=ys) (λi us H'=>ze H H'/\H' S=some (.lst us)/\us.length=i/\LR (λH p r=>p≠S/\SdH H p r) H' us (rs.take i)) ⟨zg hS _,upd_same,rfl,by rw[Qs];exact .nil⟩ (λi us H' iv=>.of (iv.1 _ _ hl)) ?_ ?_
 ·rintro i us H2 v hi hv ⟨g2,hS2,lu,hus⟩;obtain⟨p,r,rfl,hr',hp⟩:=hr1.2 i v hv;simp! [];intro L hL;have g3:=zg hL (HO.lst [V.ref p]);have hL3:upd H2 L (HO.lst [V.ref p]) L=some (.lst [V.ref p]):=upd_same;generalize upd H2 L (HO.lst [V.ref p])=H3 at*;refine⟨L,[V.ref p],[r.map toP],rfl,hL3,(by show 1<=200;decide),⟨rfl,λj v z=>?_⟩,λD zs H4 hD g4 hD4 l400 hst=>?_⟩
  ·cases j with
   |zero=>cases z;exact⟨p,r.map toP,rfl,rfl,rgH_of (hp.same (g2.trans g3)) (l10 r (pX hr'))⟩
   |succ n=>cases z
  ·have g24:=g3.trans g4;have hS4:=g24 _ _ hS2;have nD:D≠S:=λz=>by rw[z,g3 _ _ hS2] at hD;cases hD
   refine cw_put hi hS4 (small1000 (by lia)) ⟨zW (g2.trans g24) hS,upd_same,by rw[pK,lu];rfl,?_⟩
   rw[uA,hr'];refine(LR.snoc (R:=λH p r=>p≠S/\SdH H p r) (hus.imp (R':=λH p r=>p≠S/\SdH H p r) λq r t=>⟨t.1,t.2.same g24⟩) (p:=D) (a:=r) ⟨nD,zs,hD4,l400,hst⟩).imp λq r t=>⟨t.1,?_⟩;obtain⟨ne,ws,w1,w2,w3⟩:=t;exact⟨ws,yY (u:=.lst []) ne w1,w2,w3.ts (yS hS4)⟩
 rintro us H2 ⟨g2,hS2,lu,hus⟩;rw[pV (Qi hr1.1.symm)] at hus;refine y9 ?_;simp! [zX];refine⟨⟨_,.of (g2 _ _ hl)⟩,λM hM=>?_⟩;refine xG (xs:=ys) (vB MdH rs H2 M) (qp hM) (λi us H' iv=>.of (iv.1 _ _ (g2 _ _ hl))) ?_ ?_
 ·rintro i ms H3 v hi hv iv;obtain⟨g3,hM3,lm,hms⟩:=id iv;obtain⟨p,r,rfl,hr',zs,hp,hz⟩:=hr1.2 i v hv;have g03:=g2.trans g3;have two:=(h10 r (pX hr')).1;have bd:=hbd r (pX hr');have hp3:=g03 _ _ hp;obtain⟨p0,q0,e0,f0,hq0⟩:=hz.at (j:=0) (by rw[hz.1];lia)
  obtain⟨p1,q1,e1,f1,hq1⟩:=hz.at (j:=1) (by rw[hz.1];lia)
  rw[YZ (by lia)] at f0 f1
  cases f0
  cases f1;have a0:atI zs 0=some (V.ref p0):=yl (j:=0) e0;have a1:atI zs 1=some (V.ref p1):=yl (j:=1) e1;simp! [hp3,a0,a1];refine⟨p0,p1,_,_,_,_,_,_,rfl,(hq0.same g03).tb,(hq1.same g03).tb,by have:=hq0.2.pos;lia,by have:=hq1.2.pos;lia,λm H4 g4 hm=>?_⟩
  exact qh md_ts hM (by lia) iv hi hr' g4 ⟨hm,bd⟩
 rintro ms H3 ⟨g3,hM3,lm,hms⟩;rw[pV (Qi hr1.1.symm)] at hms;intro O hO;have g4:=zg hO (HO.lst []);have hO4:upd H3 O (HO.lst []) O=some (.lst []):=upd_same;have g03:=g2.trans g3;have hus3:=hus.imp (R':=λH p r=>p≠S/\SdH H p r) (H':=H3) λq r t=>⟨t.1,t.2.same g3⟩;refine yo ?_;simp! [iEnu];refine⟨⟨ms,g4 _ _ hM3⟩,λK'=>?_⟩;have lr:=hr1.1;refine zhv (K:=K') (l:=M) (xs:=ms) (λi σ H'=>ze H3 H'/\∃(os:List V)(o1 o2 o3:Option V),σ=[some (V.ref l),some (V.ref S),some (V.ref M),some (V.ref O),o1,o2,o3]/\H' O=some (.lst os)/\os.length=i/\LR (λH p r=>p≠O/\LI H p r) H' os ((pP i).map (yu rs))) ⟨g4,[],none,none,none,rfl,hO4,rfl,.nil⟩ (λi σ H' iv=>iv.1 _ _ hM3) ?_ ?_
 ·intro _ _;rintro i v Tn σ H5 hi ⟨g5,os,o1,o2,o3,rfl,hO5,lo,hos⟩ hTn;have hi':=(pF.mp hi).1;obtain⟨p,r,rfl,hr',hm⟩:=hms.2 i v hi;have g6:=zg hTn (HO.tup [V.int (i:Int),V.ref p]);have t6:upd H5 Tn (HO.tup [V.int (i:Int),V.ref p]) Tn=some (HO.tup [V.int (i:Int),V.ref p]):=upd_same;generalize upd H5 Tn (HO.tup [V.int (i:Int),V.ref p])=H6 at*;have g36:=g5.trans g6;have hl6:=g36 _ _ (g03 _ _ hl);have gi:rs.getD i []=r:=by rw[pD,hr'];rfl
  simp! [t6];refine y9 ?_;simp! [wv];refine⟨ys,.inl hl6,by lia,by lia,λD hD=>?_⟩
  rw[show((ys.length:Int)).toNat=ys.length by lia]
  refine za8 (n:=ys.length) (λj ks H'=>ze H6 H'/\H' D=some (.lst ks)/\ks=(yt (xb j i)).map V.int) ⟨zg hD _,upd_same,rfl⟩ ?_ ?_
  ·rintro j ks H7 hj ⟨g7,hD7,eq⟩;have lk:ks.length<=j:=by
    rw[eq,pC];unfold yt xb;rw[pC];refine pz (Qm _ _) ?_;rw[uS];exact pG _
   have sc:xb (j+1) i=xb j i++[j].filter (λk:Nat=> !decide ((k:Int)=(i:Int))):=by
    unfold xb;rw[QQ,uZ]
   simp! [QY];refine ite2 (λc=>?_) (λc=>?_)
   ·refine cw_put hj hD7 (small1000 (by lia)) ⟨zW g7 hD,upd_same,?_⟩
    rw[sc,QX,if_pos c,eq];unfold yt;rw[uF,uF];rfl
   ·refine cw_skip hj ⟨g7,hD7,?_⟩;rw[sc,QX,if_neg c,eq];show _=(yt (xb j i++[])).map V.int;rw[uR]
  rintro ks H7 ⟨g7,hD7,eks⟩;have g37:=g36.trans g7;have hO7:=g7 _ _ (g6 _ _ hO5);refine⟨xB hO7,?_⟩;refine y9 ?_;simp! [zX];refine⟨⟨_,.of hD7⟩,λF hF=>?_⟩;have on:∀m,m∈xb ys.length i->m<ys.length:=λm hm=>pQ.mp (pg.mp hm).1;have lk:ks.length<=ys.length:=by
   rw[eks,pC];unfold yt xb;rw[pC];refine pz (Qm _ _) ?_;rw[uS];exact pG _
  refine xG (xs:=ks) (λj fs H'=>ze H7 H'/\H' F=some (.lst fs)/\fs=(yt (((xb ys.length i).take j).filter λk=>wT r (rs.getD k []))).map V.int) ⟨zg hF _,upd_same,rfl⟩ (λj fs H' iv=>.of (iv.1 _ _ hD7)) ?_ ?_
  ·rintro j fs H8 v hj hv ⟨g8,hF8,efs⟩;rw[eks,pT] at hv;obtain⟨m',hm1,rfl⟩:=Qr.mp hv;unfold yt at hm1;rw[pT] at hm1;obtain⟨m,hm2,rfl⟩:∃m,(xb ys.length i)[j]?=some m/\((m:Nat):Int)=m':=Qr.mp hm1;have hm':=on m (pX hm2);have g38:=g37.trans g8;obtain⟨q,b,eq,fb,_,zs,w1,w2,w3⟩:=hus3.at (j:=m) (by lia)
   have gm:rs.getD m []=b:=by rw[pD,fb];rfl
   have am:atI us (m:Int)=some (V.ref q):=yl eq;have hS8:=g38 _ _ (g3 _ _ hS2);have lf:fs.length<=ks.length:=by
    rw[efs,eks,pC,pC];unfold yt;rw[pC,pC];refine pz (Qm _ _) ?_;rw[uI];exact Nat.min_le_right _ _
   simp! [hS8,am];refine⟨q,p,zs,sd3 b,_,_,_,rfl,g38 _ _ w1,by lia,w3.ts (zI g38),md_ts _ _ _ _ (zI g38) hm,λH9 g9=>⟨_,rfl,ite2 (λc=>?_) λc=>?_⟩⟩
   ·have c':wT r (rs.getD m [])=true:=by rw[gm];exact c
    refine cw_put hj (g9 _ _ hF8) (small1000 (by lia)) ⟨zW (g8.trans g9) hF,upd_same,?_⟩
    rw[uA,hm2,uZ,show(some m).toList.filter (λk=>wT r (rs.getD k []))=[m] by show[m].filter _=[m];rw[QX,if_pos c'];rfl,efs]
    unfold yt;rw[uF,uF];rfl
   ·have c':¬wT r (rs.getD m [])=true:=by rw[gm];exact c
    refine cw_skip hj ⟨g8.trans g9,g9 _ _ hF8,?_⟩;rw[uA,hm2,uZ,show(some m).toList.filter (λk=>wT r (rs.getD k []))=[] by show[m].filter _=[];rw[QX,if_neg c'];rfl,uR,efs]
  rintro fs H8 ⟨g8,hF8,efs⟩;have g38:=g37.trans g8;have hO8:=g8 _ _ hO7;have nF:F≠O:=λz=>by rw[z,hO7] at hF;cases hF
  have lks:ks.length=(xb ys.length i).length:=by
   rw[eks,pC];unfold yt;rw[pC]
  rw[pV (Qi lks.symm)] at efs;have hF8':LI H8 F (yu rs i):=by
   unfold LI yu;rw[hF8,efs,lr,gi]
  refine⟨os,hO8,small1000 (by lia),zW g38 hO,by rw[pK,lo];rfl,?_⟩
  rw[QQ,uF];refine((hos.imp (R':=λH p r=>p≠O/\LI H p r) λp r t=>⟨t.1,g8 _ _ (g7 _ _ (g6 _ _ t.2))⟩).snoc (R:=λH p r=>p≠O/\LI H p r) (p:=F) (a:=yu rs i) ⟨nF,hF8'⟩).imp λp r t=>⟨t.1,t.2.put t.1⟩
 ·rintro σ H5 ⟨g5,os,o1,o2,o3,rfl,hO5,lo,hos⟩;have hos':LR LI H5 os (yW rs):=by
   unfold yW;rw[←lr,←lm];exact hos.imp (R':=LI) λp r t=>t.2
  simp! [];refine y9 ?_;simp! [zX];refine⟨⟨_,.of hO5⟩,λD hD=>?_⟩;refine xG (xs:=os) (λj fs H'=>ze H5 H'/\H' D=some (.lst fs)/\fs=(xl rs).take j) ⟨zg hD _,upd_same,by rw[Qs]⟩ (λj fs H' iv=>.of (iv.1 _ _ hO5)) ?_ ?_
  ·rintro j fs H6 v hj hv ⟨g6,hD6,ef⟩;obtain⟨p,row,rfl,hrow,hp⟩:=hos'.2 j v hv;have lrow:row.length<=100/\∀n,n∈row->0<=n/\n<(yW rs).length:=by
    unfold yW at hrow⊢;rw[pT] at hrow;obtain⟨i,_,rfl⟩:=Qr.mp hrow;rw[pC,uS];exact⟨by have:=zfj rs i;lia,λn hn=>ZR hn⟩
   simp! [];refine⟨p,O,row,os,yW rs,rfl,g6 _ _ hp,lrow.1,g6 _ _ hO5,hos'.imp λp r t=>g6 _ _ t,lrow.2,λH7 g7=>?_⟩;refine cw_put hj (g7 _ _ hD6) (small1000 (by rw[ef,uI];lia)) ⟨zW (g6.trans g7) hD,upd_same,?_⟩
   rw[ef,uA,show(xl rs)[j]?=some (oV (row.find? (yQ row (yW rs)))) by unfold xl yO;rw[pT,pT,hrow];rfl]
   rfl
  ·rintro fs H6 ⟨g6,hD6,ef⟩;have g35:=g5.trans g6;refine k D H6 ((g03.trans g5).free hD) (g03.trans g35) ?_;rw[hD6,ef,pV (by unfold xl yO;rw[pC,pC];exact Qi hos'.1.symm)]
noncomputable def pkR(ms:List (List (Int×Int)))(r:List (Int×Int))(k:Nat):Bool:= !decide (ms.getD k []=r)&&decide (wiN ((nz r 0).1+(nz r 1).1,(nz r 0).2+(nz r 1).2) (ms.getD k []) (ms.getD k []).length%2=1)
noncomputable def yA(ms:List (List (Int×Int)))(r:List (Int×Int))(n:Nat):List Int:=yt ((pP n).filter (pkR ms r))
def Vr(p:Nat->Bool)(n:Nat):(pP (n+1)).filter p=(pP n).filter p++if p n=true then[n] else[]:=by
 rw[QQ,uZ,QX];rfl
def za2(a b:List Nat):yt (a++b)=yt a++yt b:=uF
def zbs(ms:List (List (Int×Int)))(r:List (Int×Int))(n:Nat):(yA ms r n).length<=n:=by
 unfold yA yt;rw[pC];refine pz (Qm _ _) ?_;rw[uS];exact pG _
def RgB(ms:List (List (Int×Int))):Prop:=∀m,m∈ms->2<=m.length/\m.length<=200/\∀x,x∈m->x.1.natAbs<2^60/\x.2.natAbs<2^60
inductive Zm (vs:List V) (H:Hp) (Q:VK) (E:XK):Prop
 |mk (F R:Addr) (fs:List V) (ms:List (List (Int×Int))) (r:List (Int×Int)) (_:vs=[.ref F,.ref R]) (_:H F=some (.lst fs)) (_:fs.length<=100) (_:LR RgP H fs ms) (_:RgP H R r) (_:r∈ms) (_:RgB ms) (_:∀D H',H D=none->ze H H'->LI H' D (yA ms r ms.length)->Q (.ref D) H'):Zm vs H Q E
theorem zaw(T:Txt K mg ad fd):zv P w K mg base CX0 3 (ad 43) (fd 43) ["_law_found","_law_ring"] Zm:=by
 refine T.law_round.fn.ok Jg (λvs H Q E h=>?_) (λcdv A outer s H vs Q E hr h=>?_)
 ·obtain⟨F,R,fs,ms,r,rfl,_⟩:=h;rfl
 obtain⟨F,R,fs,ms,r,rfl,hF,nf,hfs,⟨ys,hR,hr1⟩,rm,bd,k⟩:=h;refine⟨_,
  (pss2
   (zk 2 Jg.nd (ye (pa2 (zc zQ (zd zf (zd yg (pm 1) za) za) (zd zf (zd yg (pm 1) za) za)) zx (zc zQ (zd zf (zd yg (pm 1) za) za) (zd zf (zd yg (pm 1) za) za)) zx)))
   (zq (xT Jg ["_law_k"] [0,1,2] (wG rfl T.b_range (pa1 (ya y7 rfl T.b_len yG (pa1 (pm 0) zb)) yw)) (λcl C fp s2 H2 xe=>⟨(zD 0 (show UG (["_law_k","_law_found","_law_ring","_law_spot"]:List Str) from by decide+kernel)),(js (PW.pt (Xq (zM (op_neDK (K':=K) rfl (hu64 hr)) (zd yg (pm 1) (pm 0)) (pm 2) (nomark _)) (Xs (xc (zu (zfr T) T.law_within hr (pa2 (pm 3) zb (zd yg (pm 1) (pm 0)) zY))))))),(pm 0)⟩))))
  ,?_⟩
 dsimp! [L2.start]
 have lfs:=hfs.1;have lr:=hr1.1;have r2:=(bd r rm).1;obtain⟨c0,x0,a0,e0,h0⟩:=hr1.at (j:=0) (by omega)
 obtain⟨c1,x1,a1,e1,h1⟩:=hr1.at (j:=1) (by omega)
 unfold P2H at h0 h1;have i0:atI ys 0=some (.ref c0):=yl a0;have i1:atI ys 1=some (.ref c1):=yl a1;have n0:nz r 0=x0:=by unfold nz;rw[HS,pD,e0];rfl
 have n1:nz r 1=x1:=by unfold nz;rw[gL (by omega),pD,e1];rfl
 have b0:=(bd r rm).2.2 x0 (pX e0);have b1:=(bd r rm).2.2 x1 (pX e1);simp! [hR,i0,i1,h0,h1];intro S hS;have gS:=zg hS (HO.tup [V.int (x0.1+x1.1),V.int (x0.2+x1.2)]);have hS1:upd H S (HO.tup [V.int (x0.1+x1.1),V.int (x0.2+x1.2)]) S=some (HO.tup [V.int (x0.1+x1.1),V.int (x0.2+x1.2)]):=upd_same;generalize upd H S (HO.tup [V.int (x0.1+x1.1),V.int (x0.2+x1.2)])=H1 at*;refine y9 ?_;simp! [wv];refine⟨fs,.inl (gS _ _ hF),by omega,by omega,λD hD=>?_⟩
 rw[show((fs.length:Int)).toNat=fs.length by omega]
 refine za8 (n:=fs.length) (λj ks H'=>ze H1 H'/\H' D=some (.lst ks)/\ks=(yA ms r j).map V.int) ⟨zg hD _,upd_same,rfl⟩ ?_ ?_
 ·rintro j ks H7 hj ⟨g7,hD7,eq⟩;have lk:ks.length<=j:=by rw[eq,pC];exact zbs ms r j
  obtain⟨p,m,q1,q2,hp⟩:=hfs.at (j:=j) hj;have g07:=gS.trans g7;have hF7:=g07 _ _ hF;have hp7:RgP H7 p m:=hp.same g07;have hR7:RgP H7 R r:=(show RgP H R r from⟨ys,hR,hr1⟩).same g07;have gm:ms.getD j []=m:=by rw[pD,q2];rfl
  have bm:=bd m (pX q2);have aj:atI fs (j:Int)=some (V.ref p):=yl q1;have no:pkR ms r j=false->jv fs.length (λj ks H'=>ze H1 H'/\H' D=some (.lst ks)/\ks=(yA ms r j).map V.int) j H7:=λz=>cw_skip hj ⟨g7,hD7,by unfold yA;rw[Vr,z];show ks=(yt ((pP j).filter (pkR ms r)++[])).map V.int;rw[uR];exact eq⟩
  simp! [QY,hF7,aj];refine⟨_,_,rd_rg hp7,rd_rg hR7,zc9 _,zc9 _,_,rfl,?_⟩;rw[d2s_eqv];refine ite2 (λc=>?_) (λc=>?_)
  ·have e60:(2:Nat)^60=1152921504606846976:=rfl;have e62:(2:Nat)^62=4611686018427387904:=rfl;refine⟨_,hF7,_,aj,S,p,(x0.1+x1.1,x0.2+x1.2),m,rfl,g7 _ _ hS1,hp7,bm.2.1,by dsimp only;omega,bm.2.2,λH8 g8=>⟨_,rfl,ite2 (λc2=>?_) λc2=>?_⟩⟩
   ·have z:pkR ms r j=true:=by
     unfold pkR;rw[gm,n0,n1,c,c2];rfl
    refine cw_put hj (g8 _ _ hD7) (small1000 (by omega)) ⟨zW (g7.trans g8) hD,upd_same,?_⟩
    unfold yA;rw[Vr,z,if_pos rfl,za2,uF,eq];rfl
   ·have z:pkR ms r j=false:=by
     unfold pkR;rw[gm,n0,n1,Ec];exact .inr (CC.mpr c2)
    refine cw_skip hj ⟨g7.trans g8,g8 _ _ hD7,?_⟩;unfold yA;rw[Vr,z,za2,uF,eq];exact(uR _).symm
  ·refine no ?_;unfold pkR;rw[gm,Ec];exact .inl (CC.mpr c)
 ·rintro ks H7 ⟨g7,hD7,eq⟩;refine k D H7 (gS.free hD) (gS.trans g7) ?_;unfold LI;rw[hD7,eq,lfs]
def RgtK(ms:List (List (Int×Int)))(r:List (Int×Int))(o:Option Int):Prop:=match o with
 |none=>yA ms r ms.length=[]/\¬twc r r.length<0
 |some j=>∃r',0<=j/\ms[j.toNat]?=some r'/\j∈yA ms r ms.length/\decide (0<twc r r.length)= !decide (0<twc r' r'.length)/\yA ms r' ms.length=(yA ms r ms.length).filter λk=> !decide (k=j)
theorem Xi(ns:List Int):Qq (.list (ns.map di))=true:=by
 have h:uT (ns.map di)<=3:=by
  induction ns with
  |nil=>simp[uT]
  |cons n ns ih=>
   rw[pR,uT];have:(di n).depth=0:=by unfold di;rw[Qw]
   lia
 unfold Qq;rw[UI,WB,Dl,Qw];exact decide_eq_true (by lia)
theorem Zh:∀F G:List Int,uP (F.map di) (G.map di)=decide (F=G)
 |[],[]=>by simp[uP]
 |[],_::_=>by simp[uP]
 |_::_,[]=>by simp[uP]
 |a::F,b::G=>by
  rw[pR,pR,uP,Zh F G];unfold di;rw[ut,Qa]
  simp
def zeb(F G:List Int):ut (.list (F.map di)) (.list (G.map di))=decide (F=G):=by rw[ut,Zh]
variable{l:Addr}
def qV{K:pI}{H:Hp}(h:LI H l ns):RdD K H (.list (ns.map di)) (.ref l):=by
 rw[RdD];exact⟨l,_,rfl,.of h,Ww ns⟩
inductive zda (vs:List V) (H:Hp) (Q:VK) (E:XK):Prop
 |mk (F T:Addr) (fs:List V) (ms:List (List (Int×Int))) (os:List (Option Int)) (_:vs=[.ref F,.ref T]) (_:H F=some (.lst fs)) (_:fs.length<=100) (_:LR RgP H fs ms) (_:RgB ms) (_:H T=some (.lst (os.map oV))) (_:os.length=ms.length) (_:(∀(k:Nat)(r:List (Int×Int))(o:Option Int),ms[k]?=some r->os[k]?=some o->RgtK ms r o)) (_:∀H',ze H H'->Q (.bl true) H'):zda vs H Q E
theorem zfi(T:Txt K mg ad fd):zv P w K mg base CX0 4 (ad 44) (fd 44) ["_law_found","_law_told_here"] zda:=by
 refine T.law_right.fn.ok Yq (λvs H Q E h=>?_) (λcdv A outer s H vs Q E hr h=>?_)
 ·obtain⟨F,T,fs,ms,os,rfl,_⟩:=h;rfl
 obtain⟨F,T',fs,ms,os,rfl,hF,nf,hfs,bd,hT,lo,rk,k⟩:=h;refine⟨_,
  (pss2
   (yv uE rfl (wG rfl T.b_range (pa1 (ya y7 rfl T.b_len yG (pa1 (pm 0) zb)) yw)) (zD 2 Yq.nd) (pss2
   (zk 3 Yq.nd (zu (zaw T) T.law_round hr (pa2 (pm 0) zb (zd y6 (pm 0) (pm 2)) zY)))
   (zL (zM Vu (zd y6 (pm 1) (pm 2)) qd (nomark _)) (zp (zL (PW.pt (vz (zM (vS (hu64 hr)) (pm 3) (yN yM) (nomark _)) (j4 (zM xF (zu (W8 T) T.law_twice hr (pa1 (zd y6 (pm 0) (pm 2)) zY)) za (nomark _))))) (zp (zq wD)) zR)) (zp (zL (zM (zax (K':=K) rfl (hu64 hr)) (zd y6 (pm 1) (pm 2)) (pm 3) rfl) (zp (zq wD)) (pss3
   (zk 4 Yq.nd (zd y6 (pm 0) (zd y6 (pm 1) (pm 2))))
   (zL (zM wz (xq qf (zu (W8 T) T.law_twice hr (pa1 (zd y6 (pm 0) (pm 2)) zY)) za (nomark _)) (xq qf (zu (W8 T) T.law_twice hr (pa1 (pm 4) zb)) za (nomark _)) (nomark _)) (zp (zq wD)) zR)
   (zL (zM (vS (hu64 hr)) (zu (zaw T) T.law_round hr (pa2 (pm 0) zb (pm 4) zb)) (xT Yq ["_law_one"] [1,2] (yd (pm 3)) (λcl C fp s2 H2 xe=>⟨(zD 0 (show UG (["_law_one","_law_told_here","_law_k"]:List Str) from by decide+kernel)),(js (zM vt (pm 0) (zd y6 (pm 1) (pm 2)) (nomark _))),(pm 0)⟩)) (nomark _)) (zp (zq wD)) zR)))))))
   (zq wD))
  ,?_⟩
 dsimp! [L2.start]
 have lfs:=hfs.1;simp! [];refine yo ?_;simp! [wv];refine⟨fs,.inl hF,by lia,by lia,vH (λi σ H'=>ze H H'/\∃o1 o2 o3:Option V,σ=[some (V.ref F),some (V.ref T'),o1,o2,o3]) ⟨.refl _,none,none,none,rfl⟩ ?_ ?_⟩
 ·intro _ _;rintro j σ H4 hj ⟨g4,o1,o2,o3,rfl⟩;have hj':j<fs.length:=by lia
  obtain⟨p,r,q1,q2,hp⟩:=hfs.at (j:=j) hj';have aj:atI fs (j:Int)=some (V.ref p):=yl q1;obtain⟨o,ho⟩:∃o,os[j]?=some o:=⟨_,pJ (by lia)⟩
  have tj:atI (os.map oV) (j:Int)=some (oV o):=yl (by rw[pT,ho];rfl)
  have rj:=rk j r o q2 ho;have rm:=pX q2;have br:=bd r rm;have hF4:=g4 _ _ hF;simp! [QY,hF4,aj];refine⟨F,p,fs,ms,r,rfl,hF4,nf,hfs.imp λp r t=>t.same g4,hp.same g4,rm,bd,λM H5 hM g5 hM5=>?_⟩;have g05:=g4.trans g5;have hF5:=g05 _ _ hF;have hT5:=g05 _ _ hT;simp! [hT5,tj,hF5,aj]
  cases o with
  |none=>
   obtain⟨z1,z2⟩:=rj;refine ite2 (λ_=>?_) (λc=>absurd (decide_eq_true rfl) c);intro p' hp';have g6:=zg hp' (HO.lst []);have h6:upd H5 p' (HO.lst []) p'=some (.lst []):=upd_same;generalize upd H5 p' (HO.lst [])=H6 at*;have hM6:LI H6 M (yA ms r ms.length):=g6 _ _ hM5;have hp6:LI H6 p' []:=h6;have g06:=g05.trans g6;refine⟨_,_,qV hM6,qV hp6,Xi _,Xi _,_,rfl,?_⟩;rw[zeb,z1,decide_eq_true rfl];refine yE ?_;exact⟨fs,g06 _ _ hF,_,aj,p,r,rfl,hp.same g06,br.2.1,br.2.2,_,rfl,ite2 (λc=>absurd (of_decide_eq_true c) z2) λ_=>g06⟩
  |some n=>
   obtain⟨r',n0,z1,z2,z3,z4⟩:=rj;have tn:oV (some n)=V.int n:=rfl;rw[tn] at tj⊢;refine ite2 (λc=>nomatch of_decide_eq_true c) (λ_=>?_);refine⟨di n,_,by unfold di;rw[RdD],qV hM5,rfl,WB _,by unfold di;rw[Qw];exact uL _,_,rfl,?_⟩
   rw[zba,decide_eq_true z2];refine yE ?_;obtain⟨p2,r2,y1,y2,hp2⟩:=hfs.at (j:=n.toNat) (by have:=(pF.mp z1).1;lia)
   rw[z1] at y2
   cases y2;have rm':=pX z1;have br':=bd r' rm';have an:atI fs n=some (V.ref p2):=by
    rw[show n=((n.toNat:Nat):Int) by lia]
    exact yl y1
   refine⟨_,hT5,_,tj,fs,n,rfl,hF5,_,an,fs,hF5,_,aj,p,r,rfl,hp.same g05,br.2.1,br.2.2,_,rfl,p2,r',rfl,hp2.same g05,br'.2.1,br'.2.2,_,rfl,ite2 (λc=>?_) λ_=>?_⟩
   ·have c:=of_decide_eq_true c;rw[z3] at c
    cases h:decide (0<twc r' r'.length)<;>rw[h] at c<;>cases c
   refine⟨F,p2,fs,ms,r',rfl,hF5,nf,hfs.imp λp r t=>t.same g05,hp2.same g05,rm',bd,λM2 H6 hM2 g6 hM6=>?_⟩;have g06:=g05.trans g6;have hMa:LI H6 M (yA ms r ms.length):=g6 _ _ hM5;refine y9 ?_;simp! [zX];refine⟨⟨_,.of hMa⟩,λD hD=>?_⟩;refine xG (xs:=(yA ms r ms.length).map V.int) (λi qs H'=>ze H6 H'/\H' D=some (.lst qs)/\qs=(((yA ms r ms.length).take i).filter λk=> !decide (k=n)).map V.int) ⟨zg hD _,upd_same,rfl⟩ (λi qs H' z=>.of (z.1 _ _ hMa)) ?_ ?_
   ·rintro i qs H7 v hi hv ⟨g7,hD7,eq⟩;rw[pT] at hv;obtain⟨m,hm,rfl⟩:=Qr.mp hv;have lq:qs.length<=ms.length:=by
     rw[eq,pC];refine pz (Qm _ _) ?_;rw[uI];have:=zbs ms r ms.length;lia
    have hT7:=g7 _ _ (g06 _ _ hT);simp! [hT7,tj];refine ite2 (λc=>?_) (λc=>?_)
    ·refine cw_put hi hD7 (small1000 (by lia)) ⟨zW g7 hD,upd_same,?_⟩
     rw[eq,uA,hm,uZ,show(some m).toList.filter (λk=> !decide (k=n))=[m] by show[m].filter _=[m];rw[QX,if_pos c];rfl,uF]
     rfl
    ·refine cw_skip hi ⟨g7,hD7,?_⟩;rw[eq,uA,hm,uZ,show(some m).toList.filter (λk=> !decide (k=n))=[] by show[m].filter _=[];rw[QX,if_neg c];rfl,uR]
   ·rintro qs H7 ⟨g7,hD7,eq⟩;rw[pC,pV (pG _)] at eq;have hD7':LI H7 D ((yA ms r ms.length).filter λk=> !decide (k=n)):=by
     unfold LI;rw[hD7,eq]
    have hM7:LI H7 M2 (yA ms r' ms.length):=g7 _ _ hM6;refine⟨_,_,qV hM7,qV hD7',Xi _,Xi _,_,rfl,?_⟩;rw[zeb,z4,decide_eq_true rfl];exact yE (g06.trans g7)
 ·rintro σ H4 ⟨g4,o1,o2,o3,rfl⟩;simp! [];exact k H4 g4
def cn_tr{S:C3->Prop}{a b c:C3}(h:Cn S a b)(k:Cn S b c):Cn S a c:=h.trans k
open Classical in
theorem prt_ex{cs:List C3}(v:∀c,c∈cs->vq c):∃Ps,Prt (λc=>c∈cs) Ps:=by
 have sy:∀{a b:C3},Cn (λc=>c∈cs) a b->Cn (λc=>c∈cs) b a:=λh=>h.symm v;have go:∀l:List C3,(∀c,c∈l->c∈cs)->∃Ps:List (List C3),(∀p,p∈Ps->∃c,c∈cs/\p=cs.filter λd=>decide (Cn (λc=>c∈cs) c d))/\(Ps.Pairwise λp q=>∀c,c∈p->¬c∈q)/\∀c,c∈l->∃p,p∈Ps/\c∈p:=by
  intro l
  induction l with
  |nil=>exact λ_=>⟨[],λp hp=>(by cases hp),.nil,λc hc=>(by cases hc)⟩
  |cons c l ih=>
   intro s;obtain⟨Ps,h1,h2,h3⟩:=ih λx hx=>s x (pE _ hx);have hc:=s c (by simp)
   by_cases e:∃p,p∈Ps/\c∈p
   ·refine⟨Ps,h1,h2,λx hx=>?_⟩;rcases pS.mp hx with z|z
    ·rw[z];exact e
    ·exact h3 x z
   ·refine⟨(cs.filter λd=>decide (Cn (λc=>c∈cs) c d))::Ps,λp hp=>?_,List.pairwise_cons.mpr ⟨λq hq d hd hdq=>e ⟨q,hq,?_⟩,h2⟩,λx hx=>?_⟩
    ·rcases pS.mp hp with z|z
     ·exact⟨c,hc,z⟩
     ·exact h1 p z
    ·obtain⟨c',_,rfl⟩:=h1 q hq;have d1:=of_decide_eq_true (pg.mp hd).2;have d2:=of_decide_eq_true (pg.mp hdq).2;exact pg.mpr ⟨hc,decide_eq_true (cn_tr d2 (sy d1))⟩
    ·rcases pS.mp hx with z|z
     ·exact⟨_,pj ..,pg.mpr ⟨by rw[z];exact hc,decide_eq_true (by rw[z];exact .refl hc)⟩⟩
     ·obtain⟨p,p1,p2⟩:=h3 x z;exact⟨p,pE _ p1,p2⟩
 obtain⟨Ps,h1,h2,h3⟩:=go cs λc hc=>hc;refine⟨Ps,λc=>⟨h3 c,λ⟨p,p1,p2⟩=>?_⟩,λp hp=>?_,λp hp c d hc hd=>?_,λp hp c d hc hd m=>?_,h2⟩
 ·obtain⟨c',_,rfl⟩:=h1 p p1;exact(pg.mp p2).1
 ·obtain⟨c',z,rfl⟩:=h1 p hp;exact⟨c',pg.mpr ⟨z,decide_eq_true (.refl z)⟩⟩
 ·obtain⟨c',z,rfl⟩:=h1 p hp;have d1:=of_decide_eq_true (pg.mp hc).2;have d2:=of_decide_eq_true (pg.mp hd).2;exact cn_tr (sy d1) d2
 ·obtain⟨c',z,rfl⟩:=h1 p hp;have d1:=of_decide_eq_true (pg.mp hc).2;exact pg.mpr ⟨hd,decide_eq_true (.step d1 m hd)⟩
variable{x:Int}
section
variable{n:Nat}{ro:Nat->Nat->Bool}{sg:Nat->Int}
def RoS(n:Nat)(ro:Nat->Nat->Bool)(i k:Nat):Prop:=k<n/\k≠i/\ro i k=true
def InS(n:Nat)(ro:Nat->Nat->Bool)(i j:Nat):Prop:=RoS n ro i j/\∀k,RoS n ro i k->k≠j->RoS n ro j k
structure v8(n:Nat)(ro:Nat->Nat->Bool)(sg:Nat->Int):Prop where
 a:∀i,i<n->(∀k,¬RoS n ro i k)->0<sg i
 b:∀i j,i<n->InS n ro i j->((0<sg i↔¬0<sg j)/\∀k,RoS n ro j k↔RoS n ro i k/\k≠j)
 c:∀i,i<n->(∃j,RoS n ro i j)->∃j,InS n ro i j
variable{i:Nat}
def v8.uniq(N:v8 n ro sg){j j':Nat}(hi:i<n)(h:InS n ro i j)(h':InS n ro i j'):j=j':=by
 refine QK λne=>?_;have s1:RoS n ro j' j:=h'.2 j h.1 ne;have s2:RoS n ro j j':=h.2 j' h'.1 λz=>ne z.symm;have b:=(N.b i j hi h).2;have q:=(N.b j j' h.1.1 ⟨s2,λk hk nk=>h'.2 k ((b k).mp hk).1 nk⟩).2;exact((q j).mp s1).1.2.1 rfl
noncomputable def xZ(n:Nat)(ro:Nat->Nat->Bool)(i:Nat):List Int:=yt ((xb n i).filter (ro i))
theorem vF:x∈xZ n ro i↔∃k:Nat,x=k/\RoS n ro i k:=by
 unfold xZ yt xb RoS;rw[pL]
 constructor
 ·rintro⟨k,hk,rfl⟩;obtain⟨h1,h2⟩:=pg.mp hk;obtain⟨h3,h4⟩:=pg.mp h1;exact⟨k,rfl,pQ.mp h3,λz=>by subst z;simp at h4,h2⟩
 ·rintro⟨k,rfl,h1,h2,h3⟩;exact⟨k,pg.mpr ⟨pg.mpr ⟨pQ.mpr h1,by rw[decide_eq_false (by lia)];rfl⟩,h3⟩,rfl⟩
noncomputable def qt(n:Nat)(ro:Nat->Nat->Bool):List (List Int):=(pP n).map (xZ n ro)
theorem zdz{j:Nat}(hj:j<n):yQ (xZ n ro i) (qt n ro) (j:Int)=true↔∀k,RoS n ro i k->k≠j->RoS n ro j k:=by
 have g:(qt n ro).getD ((j:Int)).toNat []=xZ n ro j:=by
  unfold qt;rw[pD,Ua,pT,gQ hj];rfl
 unfold yQ;rw[g,Do]
 constructor
 ·intro h k hk ne;have:=h (k:Int) (pg.mpr ⟨vF.mpr ⟨k,rfl,hk⟩,by rw[decide_eq_false (by lia)];rfl⟩)
  obtain⟨k',e,s⟩:=vF.mp (of_decide_eq_true this);rw[show k=k' by lia]
  exact s
 ·intro h x hx;obtain⟨h1,h2⟩:=pg.mp hx;obtain⟨k,rfl,s⟩:=vF.mp h1;exact decide_eq_true (vF.mpr ⟨k,rfl,h k s λz=>by subst z;simp at h2⟩)
def Tld(n:Nat)(ro:Nat->Nat->Bool)(i:Nat):Option Int->Prop
 |none=>∀k,¬RoS n ro i k
 |some x=>∃j:Nat,x=j/\InS n ro i j
theorem v8.det(N:v8 n ro sg){i:Nat}(hi:i<n):∀{o o':Option Int},Tld n ro i o->Tld n ro i o'->o=o'
 |none,none,_,_=>rfl
 |none,some x,h,h'=>by
  obtain⟨j,_,z⟩:=h';exact absurd z.1 (h j)
 |some x,none,h,h'=>by
  obtain⟨j,_,z⟩:=h;exact absurd z.1 (h' j)
 |some x,some y,h,h'=>by
  obtain⟨j,rfl,z⟩:=h;obtain⟨j',rfl,z'⟩:=h';rw[N.uniq hi z z']
end
variable{n:Nat}{ro ro':Nat->Nat->Bool}
theorem qU(h:∀i k,i<n->k<n->ro' i k=ro (n-1-i) (n-1-k)){i k:Nat}(hi:i<n)(hk:k<n):RoS n ro' i k↔RoS n ro (n-1-i) (n-1-k):=by
 unfold RoS;rw[h i k hi hk]
 constructor
 ·rintro⟨a,b,c⟩;exact⟨by omega,by omega,c⟩
 ·rintro⟨a,b,c⟩;exact⟨hk,by lia,c⟩
theorem zce{n:Nat}{ro ro':Nat->Nat->Bool}(h:∀i k,i<n->k<n->ro' i k=ro (n-1-i) (n-1-k)){i:Nat}(hi:i<n):∀{o:Option Int},Tld n ro' i o->Tld n ro (n-1-i) (o.map λx=>(n:Int)-1-x)
 |none,t=>λk hk=>by
  have:=t (n-1-k) ((qU h hi (by have:=hk.1;lia)).mpr (by rw[show n-1-(n-1-k)=k by have:=hk.1;lia];exact hk))
  exact this
 |some x,t=>by
  obtain⟨j,rfl,s,q⟩:=t;have hj:=s.1;refine⟨n-1-j,by show(n:Int)-1-(j:Int)=_;lia,(qU h hi hj).mp s,λk hk ne=>?_⟩
  have hk1:=hk.1;have e:n-1-(n-1-k)=k:=by lia
  have:=q (n-1-k) ((qU h hi (by lia)).mpr (by rw[e];exact hk)) (by lia)
  have:=(qU h hj (by lia)).mp this
  rw[e] at this;exact this
theorem ovr_ovL(P a b:Int×Int):ovr P.1 P.2 a.1 a.2 b.1 b.2=ovL P a b:=by
 unfold ovr ovL;have e:gt2 a.1 a.2 b.1 b.2=lt2 b a:=by
  rw[Qa,W6,YE];omega
 rw[e];rfl
theorem JT{α:Type}(g:α->List S6)(X Y W:Int):∀l:List α,(cntAb (l.flatMap g) X Y W:Int)=su (λx=>(cntAb (g x) X Y W:Int)) l
 |[]=>rfl
 |x::l=>by
  rw[Qt,zha];show _=(cntAb (g x) X Y W:Int)+su _ l;rw[←JT g X Y W l];lia
variable{r:List (Int×Int)}
def X0(h:0<r.length)(i:Nat):r[i%r.length]?=some (nz r i):=by
 unfold nz;rw[pD,pJ (BG _ h)];rfl
def cnt_wi{f:Fr}(hw:0<f.w)(h:0<r.length)(u v:Int×Int):(cntAb (sd3 (r.map (PF f))) (vN (PF f u) (PF f v)) (vA (PF f u) (PF f v)) (vv (PF f u) (PF f v)):Int)=wiN ((mv f u).1+(mv f v).1,(mv f u).2+(mv f v).2) (r.map (mv f)) (r.map (mv f)).length:=by
 have sp':=zer hw ⟨(mv f u).1,(mv f u).2⟩ ⟨(mv f v).1,(mv f v).2⟩;have e:sd3 (r.map (PF f))=(pP r.length).flatMap λk=>sd (toP (PF f (nz r k))) (toP (PF f (nz r (k+1)))):=by
  show sdR ((r.map (PF f)).map toP) ((r.map (PF f)).map toP).length++[]=_
  rw[uR,pC,pC];unfold sdR;rw[gc,gc]
  congr 1
  refine Qx λk hk=>?_;have hk:=pQ.mp hk;refine JJ ?_ ?_
  ·have:=X0 h k;rw[gL hk] at this;rw[pT,pT,this];rfl
  ·rw[pC,pC,pT,pT,X0 h (k+1)];rfl
 rw[e,JT];unfold wiN;rw[pC];refine zP λk _=>?_;have c:(cntAb (sd (toP (PF f (nz r k))) (toP (PF f (nz r (k+1))))) (vN (PF f u) (PF f v)) (vA (PF f u) (PF f v)) (vv (PF f u) (PF f v)):Int)=_:=cnt_sd hw sp' ⟨(mv f (nz r k)).1,(mv f (nz r k)).2⟩ ⟨(mv f (nz r (k+1))).1,(mv f (nz r (k+1))).2⟩;rw[c,wL h,wL h];exact ovr_ovL ((mv f u).1+(mv f v).1,(mv f u).2+(mv f v).2) (dbl (mv f (nz r k))) (dbl (mv f (nz r (k+1))))
def zdm{f:Fr}(hw:0<f.w){a b:List (Int×Int)}(ha:0<a.length)(hb:0<b.length):wT (a.map (PF f)) (b.map (PF f))=decide (wiN ((nz (a.map (mv f)) 0).1+(nz (a.map (mv f)) 1).1,(nz (a.map (mv f)) 0).2+(nz (a.map (mv f)) 1).2) (b.map (mv f)) (b.map (mv f)).length%2=1):=by
 unfold wT;rw[jZ ha,jZ ha,cnt_wi hw hb,wL ha,wL ha]
variable{i:Nat}
section
variable{X Y:Nat}{f:Fr}{cs:List C3}{es ws:List E2}{Ps:List (List C3)}{rs:List (List (Int×Int))}
noncomputable def osF(f:Fr)(rs:List (List (Int×Int))):List (List Q3):=rs.map (DJ (PF f))
noncomputable def msF(f:Fr)(rs:List (List (Int×Int))):List (List (Int×Int)):=rs.map (DJ (mv f))
noncomputable def roF(f:Fr)(rs:List (List (Int×Int)))(i k:Nat):Bool:=wT ((osF f rs).getD i []) ((osF f rs).getD k [])
def wX{g:List α->List β}{rs:List (List α)}(h:i<rs.length):(rs.map g).getD i []=g (rs.getD i []):=by
 rw[pD,pD,pT,pJ h];rfl
theorem Zd(A:All X Y f cs es ws Ps (rs.map zA))(hp:0<f.p)(l3:∀r,r∈rs->3<=r.length):v8 rs.length (roF f rs) (λi=>su crs (zA (rs.getD i []))):=by
 have gm:∀{i:Nat},i<rs.length->rs.getD i []∈rs:=λ{i} h=>by
  rw[pD,pJ h];exact UJ h
 have m:∀{i:Nat},i<rs.length->lpW es (zA (rs.getD i []))∈(rs.map zA).map (lpW es):=λh=>pL.mpr ⟨_,pL.mpr ⟨_,gm h,rfl⟩,rfl⟩;have nd:(rs.map λr=>lpW es (zA r)).Nodup:=by
  have:=A.ndL.1;rw[gM] at this;exact this
 have inj:∀{i k:Nat},i<rs.length->k<rs.length->rs.getD i []=rs.getD k []->i=k:=λ{i k} hi hk e=>by
  rw[pD,pJ hi,pD,pJ hk] at e;exact(BJ (WR nd)).mp e
 have of:∀j,j∈(rs.map zA).map (lpW es)->∃k,k<rs.length/\j=lpW es (zA (rs.getD k [])):=λj hj=>by
  obtain⟨wl,h1,rfl⟩:=pL.mp hj;obtain⟨r,h2,rfl⟩:=pL.mp h1;obtain⟨k,hk,rfl⟩:=UC.mp h2;exact⟨k,hk,by rw[pD,pJ hk];rfl⟩
 have la:∀{i:Nat},i<rs.length->lace (lpW es (zA (rs.getD i [])))=su crs (zA (rs.getD i [])):=λ{i} hi=>su_lp A.W (A.sub _ (pL.mpr ⟨_,gm hi,rfl⟩));have key:∀{i k:Nat},i<rs.length->k<rs.length->(RoS rs.length (roF f rs) i k↔Rnd (lpW es (zA (rs.getD k []))) (lpW es (zA (rs.getD i [])))):=λ{i k} hi hk=>by
  have i3:=l3 _ (gm hi);have k3:=l3 _ (gm hk);have e:roF f rs i k=decide (wiN (mvS f ((nz (rs.getD i []) 0).1+(nz (rs.getD i []) 1).1,(nz (rs.getD i []) 0).2+(nz (rs.getD i []) 1).2)) ((rs.getD k []).map (mv f)) ((rs.getD k []).map (mv f)).length%2=1):=by
   unfold roF osF;rw[wX hi,wX hk,zdm A.w0 (by lia) (by lia),wL (by lia),wL (by lia),mvS_sum]
  by_cases c:k=i
  ·subst c;exact⟨λz=>absurd rfl z.2.1,λz=>absurd rfl z.1⟩
  ·have w:=wit_rnd A hp l3 (gm hk) (gm hi) λz=>c (inj hk hi z);rw[←w];unfold RoS;rw[e,decide_eq_true_iff];exact⟨λz=>z.2.2,λz=>⟨hk,c,z⟩⟩
 have inn:∀{i j:Nat},i<rs.length->j<rs.length->(InS rs.length (roF f rs) i j↔Rnd (lpW es (zA (rs.getD j []))) (lpW es (zA (rs.getD i [])))/\∀l,l∈(rs.map zA).map (lpW es)->Rnd l (lpW es (zA (rs.getD i [])))->l≠lpW es (zA (rs.getD j []))->Rnd l (lpW es (zA (rs.getD j [])))):=λ{i j} hi hj=>by
  constructor
  ·rintro⟨h1,h2⟩;refine⟨(key hi hj).mp h1,λl hl r ne=>?_⟩;obtain⟨k,hk,rfl⟩:=of l hl;exact(key hj hk).mp (h2 k ((key hi hk).mpr r) λz=>ne (by rw[z]))
  ·rintro⟨h1,h2⟩;refine⟨(key hi hj).mpr h1,λk hk ne=>(key hj hk.1).mpr (h2 _ (m hk.1) ((key hi hk.1).mp hk) λz=>ne (inj hk.1 hj (YH nd (gm hk.1) (gm hj) z)))⟩
 refine⟨λi hi no=>?_,λi j hi h=>?_,λi hi⟨j,hj⟩=>?_⟩
 ·have:=(A.nest (m hi)).1 λj hj r=>by
   obtain⟨k,hk,rfl⟩:=of j hj;exact no k ((key hi hk).mpr r)
  rw[la hi] at this;exact this
 ·have hj:=h.1.1;obtain⟨h1,h2⟩:=(inn hi hj).mp h;obtain⟨q1,q2⟩:=(A.nest (m hi)).2.1 _ (m hj) h1 h2;rw[la hi,la hj] at q1;refine⟨q1,λk=>?_⟩
  by_cases hk:k<rs.length
  ·rw[key hj hk,key hi hk,q2 _ (m hk)];refine and_congr_right λ_=>⟨λz e=>z (by rw[e]),λz e=>z (inj hk hj (YH nd (gm hk) (gm hj) e))⟩
  ·exact⟨λz=>absurd z.1 hk,λz=>absurd z.1.1 hk⟩
 ·obtain⟨l,hl,r,q⟩:=(A.nest (m hi)).2.2 ⟨_,m hj.1,(key hi hj.1).mp hj⟩;obtain⟨k,hk,rfl⟩:=of l hl;exact⟨k,(inn hi hk).mpr ⟨r,q⟩⟩
theorem YG(A:All X Y f cs es ws Ps (rs.map zA))(l3:∀r,r∈rs->3<=r.length){i:Nat}(hi:i<rs.length):yA (msF f rs) ((msF f rs).getD i []) rs.length=xZ rs.length (roF f rs) i:=by
 have nd:rs.Nodup:=by
  have:=A.ndL.1;rw[gM] at this;exact WR this
 have gm:∀{i:Nat},i<rs.length->rs.getD i []∈rs:=λ{i} h=>by
  rw[pD,pJ h];exact UJ h
 unfold yA xZ xb;rw[Bc]
 congr 1
 refine Fw λk hk=>?_;have hk:=pQ.mp hk;have i3:=l3 _ (gm hi);have k3:=l3 _ (gm hk);have e:decide ((msF f rs).getD k []=(msF f rs).getD i [])=decide ((k:Int)=(i:Int)):=by
  rw[decide_eq_decide]
  constructor
  ·intro z;unfold msF at z;rw[wX hi,wX hk] at z;have z2:rs.getD k []=rs.getD i []:=by
    refine List.map_inj_right (f:=mv f) (λx y e=>?_)|>.mp z;exact wC A.w0 A.d0 (by unfold PF;rw[e])
   rw[pD,pJ hk,pD,pJ hi] at z2;have:=(BJ nd).mp z2;lia
  ·intro z;rw[show k=i by lia]
 unfold pkR;rw[e,Bool.and_comm]
 congr 1
 unfold roF osF msF;rw[wX hi,wX hk,wX hi,wX hk,zdm A.w0 (by lia) (by lia)]
end
theorem find_of(c:∀i,i<n->(∃j,RoS n ro i j)->∃j,InS n ro i j){i:Nat}(hi:i<n):Tld n ro i ((xZ n ro i).find? (yQ (xZ n ro i) (qt n ro))):=by
 cases e:(xZ n ro i).find? (yQ (xZ n ro i) (qt n ro)) with
 |none=>
  intro k hk;obtain⟨j,hj⟩:=c i hi ⟨k,hk⟩;have:=List.find?_eq_none.mp e (j:Int) (vF.mpr ⟨j,rfl,hj.1⟩);exact this ((zdz hj.1.1).mpr hj.2)
 |some x=>
  obtain⟨j,rfl,s⟩:=vF.mp (DM e);exact⟨j,rfl,s,(zdz s.1).mp (List.find?_some e)⟩
theorem c_rev(h:∀i k,i<n->k<n->ro' i k=ro (n-1-i) (n-1-k))(c:∀i,i<n->(∃j,RoS n ro i j)->∃j,InS n ro i j):∀i,i<n->(∃j,RoS n ro' i j)->∃j,InS n ro' i j:=λi hi⟨j,hj⟩=>by
 obtain⟨j2,h2⟩:=c (n-1-i) (by omega) ⟨_,(qU h hi hj.1).mp hj⟩
 have sw:∀i k,i<n->k<n->ro i k=ro' (n-1-i) (n-1-k):=λi k hi hk=>by
  rw[h (n-1-i) (n-1-k) (by omega) (by omega),show n-1-(n-1-i)=i by omega,show n-1-(n-1-k)=k by omega]
 obtain⟨j3,_,s⟩:=zce sw (show n-1-i<n by omega) (o:=some (j2:Int)) ⟨j2,rfl,h2⟩
 rw[show n-1-(n-1-i)=i by omega] at s
 exact⟨j3,s⟩
noncomputable def roO(os:List (List Q3))(i k:Nat):Bool:=wT (os.getD i []) (os.getD k [])
variable{os:List (List Q3)}
def VG(c:∀i,i<os.length->(∃j,RoS os.length (roO os) i j)->∃j,InS os.length (roO os) i j){i:Nat}(hi:i<os.length):Tld os.length (roO os) i ((yu os i).find? (yQ (yu os i) (yW os))):=find_of c hi
def zaj:∀i k,i<os.length->k<os.length->roO os.reverse i k=roO os (os.length-1-i) (os.length-1-k):=λi k hi hk=>by
 unfold roO;have e:∀{i:Nat},i<os.length->os.reverse.getD i []=os.getD (os.length-1-i) []:=λ{i} hi=>by
  rw[pD,pD,Ar hi]
 rw[e hi,e hk]
theorem zel{sg:Nat->Int}(N:v8 os.length (roO os) sg)(hi:i<os.length):(yu os i).find? (yQ (yu os i) (yW os))=((yu os.reverse (os.length-1-i)).find? (yQ (yu os.reverse (os.length-1-i)) (yW os.reverse))).map λx=>(os.length:Int)-1-x:=by
 have c':=c_rev (zaj (os:=os)) N.c;have lr:os.reverse.length=os.length:=UZ;have t':Tld os.length (roO os.reverse) (os.length-1-i) ((yu os.reverse (os.length-1-i)).find? (yQ (yu os.reverse (os.length-1-i)) (yW os.reverse))):=by
  have:=VG (os:=os.reverse) (by rw[lr];exact c') (i:=os.length-1-i) (by rw[lr];omega)
  rw[lr] at this;exact this
 have t:=zce zaj (show os.length-1-i<os.length by omega) t'
 rw[show os.length-1-(os.length-1-i)=i by omega] at t
 exact N.det hi (VG N.c hi) t
section
variable{X Y:Nat}{f:Fr}{cs:List C3}{es ws:List E2}{Ps:List (List C3)}{rs:List (List (Int×Int))}
theorem pos_of(hd:0<d)(h:0<d*x):0<x:=by
 rcases gN 0 x with z|z
 ·exact z
 ·have:=Ac z (Uk hd);rw[Uy] at this;lia
theorem rgt_of(A:All X Y f cs es ws Ps (rs.map zA))(hp:0<f.p)(l3:∀r,r∈rs->3<=r.length){i:Nat}(hi:i<rs.length):∀{o:Option Int},Tld rs.length (roF f rs) i o->RgtK (msF f rs) ((msF f rs).getD i []) o:=by
 have N:=Zd A hp l3;have lm:(msF f rs).length=rs.length:=by unfold msF;rw[pC]
 have gm:∀{i:Nat},i<rs.length->rs.getD i []∈rs:=λ{i} h=>by
  rw[pD,pJ h];exact UJ h
 have tw:∀{i:Nat},i<rs.length->twc ((msF f rs).getD i []) ((msF f rs).getD i []).length=(f.p*f.s-f.q*f.r)*su crs (zA (rs.getD i [])):=λ{i} h=>by
  unfold msF;rw[wX h];exact twc_mv (by have:=l3 _ (gm h);lia)
 have d0:0<f.p*f.s-f.q*f.r:=A.d0;have ps:∀{i:Nat},i<rs.length->(0<twc ((msF f rs).getD i []) ((msF f rs).getD i []).length↔0<su crs (zA (rs.getD i []))):=λ{i} h=>by
  rw[tw h];exact⟨λz=>pos_of d0 z,λz=>QV d0 z⟩
 intro o t
 cases o with
 |none=>
  refine⟨?_,λz=>?_⟩
  ·rw[lm,YG A l3 hi];refine List.eq_nil_iff_forall_not_mem.mpr λx hx=>?_;obtain⟨k,_,s⟩:=vF.mp hx;exact t k s
  ·have:=(ps hi).mpr (N.a i hi t);lia
 |some x=>
  obtain⟨j,rfl,s⟩:=t;have hj:=s.1.1;obtain⟨b1,b2⟩:=N.b i j hi s;refine⟨(msF f rs).getD j [],by lia,?_,?_,?_,?_⟩
  ·rw[Ua,pD,pJ (by lia)]
   rfl
  ·rw[lm,YG A l3 hi];exact vF.mpr ⟨j,rfl,s.1⟩
  ·rw[Qa,AK,decide_eq_true_iff,decide_eq_false_iff_not,ps hi,ps hj];exact b1
  ·rw[lm,YG A l3 hi,YG A l3 hj];unfold xZ xb;have e:∀l:List Nat,(yt l).filter (λk=> !decide (k=(j:Int)))=yt (l.filter λk=> !decide ((k:Int)=(j:Int))):=λl=>by
    unfold yt;rw[List.filter_map];rfl
   rw[e,Bc,Bc,Bc]
   congr 1
   refine Fw λk hk=>?_;have hk:=pQ.mp hk;have b:=b2 k;unfold RoS at b;rw[Qa,BL,BL,BL,AK,AK,decide_eq_false_iff_not,decide_eq_false_iff_not];have n1:¬((k:Int)=(i:Int))↔k≠i:=by lia
   have n2:¬((k:Int)=(j:Int))↔k≠j:=by lia
   rw[n1,n2]
   constructor
   ·rintro⟨z1,z2⟩;obtain⟨⟨_,y1,y2⟩,y3⟩:=b.mp ⟨hk,z2,z1⟩;exact⟨⟨y3,y2⟩,y1⟩
   ·rintro⟨⟨y3,y2⟩,y1⟩;obtain⟨_,z2,z1⟩:=b.mpr ⟨⟨hk,y1,y2⟩,y3⟩;exact⟨z1,z2⟩
end
def YJ(K:pI)(ts:List Addr):Sp:=λvs H Q _=>∃(a:Addr)(ns:List Int),vs=[.ref a]/\SqL K H a (ns.map V.int)/\ns.length<=63/\(∀b,b∈ts->xh H b X2 qlP)/\∀H',Q (.bl true) H'
variable{H:Hp}
def zfd{b:Addr}{pos:Pos}{q:Str}(h:H b=some (.tbl #[])):xh H b pos q:=⟨#[],h,by trivial,.inl rfl⟩
variable{cs:List C3}{es:List E2}
theorem wys_len{ws:List E2}(E:Edg cs es)(nd:es.Nodup)(W:Wys es ws):ws.length<=es.length:=by
 rw[←(zb7 E nd W).length_eq];have go:∀l:List E2,(∀w,w∈l->w∈ws)->l.length<=(l.flatMap (exW es)).length:=by
  intro l
  induction l with
  |nil=>exact λ_=>pG _
  |cons w l ih=>
   intro s;have h:=ih λx hx=>s x (pE _ hx);obtain⟨k,m,y,_⟩:=W.of w (s w (by simp))
   have e:exW es w=unE w.1 k m:=xn y;rw[Qt,pK,uN,e];unfold unE;rw[pC,uS];lia
 exact go ws λw hw=>hw
theorem zfn(E:Edg cs es)(nd:es.Nodup):es.length<=3*cs.length:=by
 have s3:∀c:C3,(zF c).length<=3:=λc=>by
  unfold zF;rw[pC];unfold yx
  repeat' split
  all_goals first|exact pG _|exact uL _
 have len:∀cs:List C3,(cs.flatMap zF).length<=3*cs.length:=by
  intro cs
  induction cs with
  |nil=>exact pG _
  |cons c cs ih=>
   have:=s3 c;rw[Qt,pK,uN];lia
 refine pz (vV _ (cs.flatMap zF) nd λe he=>?_) (len cs);obtain⟨a,k,rfl,o,h1,h2⟩:=E.of he;exact QC.mpr ⟨_,h1,xS.mpr ⟨a,k,wU o,rfl⟩⟩
theorem cell48{w h:Int}(nd:cs.Nodup)(w1:w<=4)(h1:h<=3)(b:∀c,c∈cs->0<=c.1/\c.1<w/\0<=c.2.1/\c.2.1<h/\vq c):cs.length<=48:=by
 have:=vV cs ((pP 48).map λn:Nat=>((((n/4%4:Nat):Int),((n/16:Nat):Int),((n%4:Nat):Int)):C3)) nd λc hc=>by
  obtain⟨b1,b2,b3,b4,b5,b6⟩:=b c hc;refine pL.mpr ⟨(16*c.2.1+4*c.1+c.2.2).toNat,pQ.mpr (by lia),?_⟩
  exact Qg (by dsimp only;omega) (Qg (by dsimp only;omega) (by dsimp only;lia))
 rw[pC,uS] at this;exact this
noncomputable def dR(r:List Q3):De:=.list (r.map dQ)
theorem rd_rs{K:pI}{H:Hp}:∀{zs:List V}{F:List (List Q3)},LR RgQ H zs F->zO K H (F.map dR) zs
 |[],[],_=>by rw[QF,zO]
 |[],_::_,h=>by cases h.1
 |_::_,[],h=>by cases h.1
 |v::zs,r::F,h=>by
  obtain⟨a,as',e,⟨p,rfl,us,h1,h2⟩,h3⟩:=h.cons_inv
  cases e;rw[pR,zO];exact⟨_,zs,rfl,rd_ql h1 h2,rd_rs h3⟩
def rd_rl{K:pI}{zs:List V}{F:List (List Q3)}(h:H l=some (.lst zs))(hz:LR RgQ H zs F):RdD K H (.list (F.map dR)) (.ref l):=by
 rw[RdD];exact⟨l,zs,rfl,.of h,rd_rs hz⟩
theorem dR_lay(r:List Q3):(dR r).canLay0=true/\(dR r).depth<=4:=by
 obtain⟨h1,h2⟩:=dQs_lay r;unfold dR;rw[UI,Qw];exact⟨h1,by lia⟩
theorem dRs_lay(F:List (List Q3)):uU (F.map dR)=true/\uT (F.map dR)<=4:=by
 induction F with
 |nil=>exact⟨rfl,by simp[uT]⟩
 |cons r F ih=>
  have h:=dR_lay r;rw[pR]
  constructor
  ·rw[uU,h.1,ih.1];rfl
  ·rw[uT];have:=h.2;have:=ih.2;lia
theorem za6(F:List (List Q3)):Qq (.list (F.map dR))=true:=by
 obtain⟨h1,h2⟩:=dRs_lay F;unfold Qq;rw[UI,h1,Dl,Qw];exact decide_eq_true (by lia)
theorem zd9:∀F:List (List Q3),uP (F.map dR) (F.map dR)=true
 |[]=>by simp[uP]
 |r::F=>by
  rw[pR,uP,zd9 F];unfold dR;rw[dQs_eqv,decide_eq_true rfl];rfl
def dRs_eqv(F:List (List Q3)):ut (.list (F.map dR)) (.list (F.map dR))=true:=by rw[ut,zd9]
theorem zc4{a b:Q3}(h1:PQ 60 a)(h2:PQ 60 b):Bd3 1000 (vN a b) (vA a b) (vv a b):=by
 obtain⟨p1,_,a1,a2,a3⟩:=h1;obtain⟨p2,_,b1,b2,b3⟩:=h2;have l2:(2*a.w).natAbs<2^(2+60):=xJ (by decide) a3
 have hw:0<2*a.w*b.w:=QV (QV (by decide) p1) p2
 have z:Pt 122 (vN a b) (vA a b) (vv a b):=pt_mk (by lia) (yT (zbl (xJ a1 b3) (xJ b1 a3)) (by decide)) (yT (zbl (xJ a2 b3) (xJ b2 a3)) (by decide)) (xJ l2 b3)
 exact Pt.bd z (by decide)
def Xl(os:List (List Q3))(H7:Hp)(Ha:Addr)(i:Nat)(qs:List V)(H':Hp):Prop:=ze H7 H'/\H' Ha=some (.lst qs)/\qs.length=i/\LR (λH p r=>p≠Ha/\RgQ H p r) H' qs (os.take i)
theorem JK{H7 H8:Hp}{Ha Lc:Addr}{m:Nat}{qs:List V}{r:List Q3}(hHa:H7 Ha=none)(iv:Xl os H7 Ha n qs H8)(hn:n<m)(m1:m<=900)(hr':os[n]?=some r)(hp:H7 p=some (.lst us))(hu:LR QH H7 us r)(hLc:H8 Lc=none):jl m (Xl os H7 Ha) Ha n (.ref Lc) (upd H8 Lc (.lst us)):=by
 obtain⟨g8,hHa8,lq,hqs⟩:=iv;have g9:=zg hLc (HO.lst us);have h9:upd H8 Lc (HO.lst us) Lc=some (.lst us):=upd_same;have nL:Lc≠Ha:=λz=>by rw[z,hHa8] at hLc;cases hLc
 generalize upd H8 Lc (HO.lst us)=H9 at*;have hHa9:=g9 _ _ hHa8;refine cw_put hn hHa9 (small1000 (by lia)) ⟨zW (g8.trans g9) hHa,upd_same,by rw[pK,lq];rfl,?_⟩
 rw[uA,hr'];exact(LR.snoc (R:=λH p r=>p≠Ha/\RgQ H p r) (hqs.imp (R':=λH p r=>p≠Ha/\RgQ H p r) λq r t=>⟨t.1,t.2.same g9⟩) (p:=Lc) (a:=r) ⟨nL,us,h9,hu.same (g8.trans g9)⟩).imp λq r t=>⟨t.1,t.2.put t.1 hHa9⟩
def lr_rev{R:Hp->Addr->α->Prop}{ys:List V}{as:List α}(h:LR R H ys as):LR R H ys.reverse as.reverse:=⟨by rw[UZ,UZ,h.1],λj v z=>by
 have hj:=(pF.mp z).1;rw[UZ] at hj;rw[Ar hj] at z;obtain⟨p,a,e,f,r⟩:=h.2 _ v z;exact⟨p,a,e,by rw[Ar (by rw[←h.1];exact hj),←h.1];exact f,r⟩⟩
def jO(os:List (List Q3)):(yO os).length=os.length:=by
 unfold yO yW;rw[pC,pC,uS]
def YF(hi:i<os.length):(yO os)[i]?=some ((yu os i).find? (yQ (yu os i) (yW os))):=by
 unfold yO;have:(yW os)[i]?=some (yu os i):=by
  unfold yW;rw[pT,gQ hi];rfl
 rw[pT,this];rfl
def nest_bd(h:(yO os)[i]?=some (some x)):0<=x/\x<os.length:=by
 have hi:=(pF.mp h).1;rw[jO] at hi;rw[YF hi] at h;exact ZR (DM (ux h))
def zgv(r:List Q3):xl [r]=[none].map oV:=rfl
def qZ{y w:Int}(h:0<w)(g:g3 x y w=1)(hx:x.natAbs<2^2)(hy:y.natAbs<2^2)(hw:w.natAbs<2^2)(hn:2<=n):PQ n ⟨x,y,w⟩:=⟨h,g,yT hx hn,yT hy hn,yT hw hn⟩
noncomputable def dO(o:Option Int):De:=match o with|some n=>.int n|none=>.none
theorem rd_os{K:pI}{H:Hp}:∀os:List (Option Int),zO K H (os.map dO) (os.map oV)
 |[]=>by rw[QF,QF,zO]
 |o::os=>by
  rw[pR,pR,zO];refine⟨_,_,rfl,?_,rd_os os⟩
  cases o with
  |none=>unfold dO oV;rw[RdD]
  |some n=>unfold dO oV;rw[RdD]
def jM{K:pI}{os:List (Option Int)}(h:H l=some (.lst (os.map oV))):RdD K H (.list (os.map dO)) (.ref l):=by
 rw[RdD];exact⟨l,_,rfl,.of h,rd_os os⟩
theorem jS(os:List (Option Int)):Qq (.list (os.map dO))=true:=by
 have h:uU (os.map dO)=true/\uT (os.map dO)<=3:=by
  induction os with
  |nil=>exact⟨rfl,by simp[uT]⟩
  |cons o os ih=>
   have:(dO o).canLay0=true/\(dO o).depth=0:=by
    cases o with
    |none=>exact⟨rfl,by unfold dO;rw[Qw]⟩
    |some n=>exact⟨rfl,by unfold dO;rw[Qw]⟩
   rw[pR,uU,uT,this.1,ih.1];exact⟨rfl,by lia⟩
 unfold Qq;rw[UI,h.1,Dl,Qw];exact decide_eq_true (by lia)
theorem zbn:∀os:List (Option Int),uP (os.map dO) (os.map dO)=true
 |[]=>by simp[uP]
 |o::os=>by
  rw[pR,uP,zbn os]
  cases o with
  |none=>unfold dO;rw[ut];rfl
  |some n=>unfold dO;rw[ut];simp
def VX(os:List (Option Int)):ut (.list (os.map dO)) (.list (os.map dO))=true:=by rw[ut,zbn]
theorem ok_law(T:Txt K mg ad fd)(hK:K.In base)(hB:base.BuiltinsAt mg (ad 47)):zv P w K mg base CX0 8 (ad 45) (fd 45) ["_law_script"] (YJ K [(ad 47)]):=by
 refine T.law.fn.ok xv (λvs H Q E h=>?_) (λcdv A outer s H vs Q E hr h=>?_)
 ·obtain⟨a,ns,rfl,_⟩:=h;rfl
 obtain⟨a0,ns,rfl,hS,hlen,lts,k⟩:=h;have lt:=lts _ (pZ.mpr rfl);clear lts;obtain⟨tl,htl,hk⟩:∃tl,PSs (wc CX0 P w K mg base ["_law_script","_law_cells_here","_law_frame_here","_law_ways","_law_some","_law_found","_law_handed","_law_told_here","_law_one","_law_kept","_law_other","_law_turned","_law_k","_law_here"] "law" (zo qO) (ad 45) cdv A outer s H E).nox ((xw qO).drop 2) tl/\∀(C:Addr)(zs:List V)(cs:List C3)(X Y:Nat)(H1:Hp),ze H H1->H1 C=some (.lst zs)->zs.length<=196->LR C3H H1 zs cs->cs.Nodup->(∀c,c∈cs->c.1<X/\c.2.1<Y)->(∀es,Edg cs es->es.Nodup->es.length<=191)->tl {nx:=λ_ H'=>Q .non H',rt:=Q} [some (.ref a0),some (.ref C),none,none,none,none,none,none,none,none,none,none,none,none] H1:=by
  have kZ:=@pss17;have ke:=@zk;have kc:=@zu;have wF:=@pa1;have qpm:=@pm;have kh:=@pa2;have kz:=@zd;have xR:=@za;have km:=@zL;have kg:=@zM;have ku:=@qd;have kj:=@zp;have kA:=@zq;have kC:=@wD;have kq:=@zR;have kN:=@XC;unfold L2.CompBody at kN;have kG:=@yd;have kD:=@zD;have kO:=@wI;have kH:=@zd4;have kB:=@PW.pt;have kF:=@vz;have kR:=@vQ;have kT:=@xc;have kx:=@ya;have ua:=@jm;have kI:=@j4;have kU:=@yv;have kJ:=@Xq;have kK:=@Xs;have kL:=@yN;have kr:=@pa3;have kM:=@ye;have kW:=@xD;have uc:=@pe_bm0;have ud:=@xM;have kX:=@xT;unfold L2.CompBody at kX;have ue:=@pe_rev;have uf:=@Vh;have ug:=@wG;have uh:=@pss2;have ki:=@zc;have ui:=@qw;have uj:=@Yt;have uk:=@xq;generalize @PE=QE,@PT=QT,@PW=QW,@PA=QA,@PS=QS,@PSs=QSs,@PG=QG,@PGs=QGs,@L2.PI=QI,@PO=QO,@PIf=QIf at kZ ke kc wF qpm kh kz xR km kg ku kj kA kC kq kN kG kD kO kH kB kF kR kT kx ua kI kU kJ kK kL kr kM kW uc ud kX ue uf ug uh ki ui uj uk⊢;refine⟨_,
  (kZ
   (ke 2 xv.nd (kc (zh3 T) T.law_frame hr (wF (qpm 0) zb)))
   (ke 3 xv.nd (kc (zhh T) T.law_land hr (kh (qpm 1) zb (qpm 2) zb)))
   (ke 4 xv.nd (kc (zgk T hK hB) T.rings_of hr (wF (kc (zfa T) T.law_told hr (kh (qpm 3) zb (kz yg (qpm 2) xR) zY)) yw)))
   (ke 5 xv.nd (kc (zi9 T) T.law_rings hr (kh (qpm 4) zb (kc (zhf T) T.law_back hr (kh (qpm 3) zb (kz yg (qpm 2) xR) zY)) yw)))
   (km (kg Vu (qpm 5) ku (nomark _)) (kj (kA kC)) kq)
   (kN 6 xv ["_law_ring"] [] (kG (qpm 4)) (λcl C fp s2 H2 xe=>⟨(kD 0 (show UG (["_law_ring"]:List Str) from by decide+kernel)),kO,(kH VU rfl T.b_list jH (wF (qpm 0) zb))⟩))
   (ke 7 xv.nd (kc (YW T) T.nest hr (wF (qpm 6) zb)))
   (km (kB (kF (kg (vS (hu64 hr)) (qpm 6) (qpm 4) (nomark _)) (kF (kR (kT (kx (jt VN) rfl T.b_isinstance jn (kh (qpm 7) zb (ua (v:=.ty "list") rfl T.b_list jH rfl) zb)))) (kI (kg vt (kx y7 rfl T.b_len yG (wF (qpm 7) zb)) (kx y7 rfl T.b_len yG (wF (qpm 5) zb)) (nomark _)))))) (kj (kA kC)) kq)
   (kU uE rfl (kG (qpm 7)) (kD 8 xv.nd) (kj (km (kB (kJ (kg VR (qpm 8) ku (nomark _)) (kK (kR (kT (kc (zik T) T.law_place hr (kh (qpm 8) zb (kx y7 rfl T.b_len yG (wF (qpm 5) zb)) yw))))))) (kj (kA kC)) kq)))
   (ke 9 xv.nd (kH VU rfl T.b_list jH (wF (qpm 7) zb)))
   (ke 10 xv.nd (kc (YW T) T.nest hr (wF (kL (wF (kL (kr (kM (kr xR yy xR yy xR yy)) xI (kM (kr xR yy xR yy xR yy)) xI (kM (kr xR yy xR yy xR yy)) xI)) VP)) VP)))
   (kW (uc uQ PySem.F.slot_list_clear PySem.F.type_list_clear zh5 (qpm 6)))
   (km (kB (kF (kg (vS (hu64 hr)) (qpm 10) (kL (wF ku yy)) (nomark _)) (kI (kg (vS (hu64 hr)) (qpm 7) (qpm 9) (nomark _))))) (kj (kA kC)) kq)
   (kW (ud uQ uo uq xU (qpm 7) (wF ku yy)))
   (ke 11 xv.nd (kc (YW T) T.nest hr (wF (kX xv ["_law_ring"] [] (kG (ue (qpm 4) (uf Wu xR))) (λcl C fp s2 H2 xe=>⟨(kD 0 (show UG (["_law_ring"]:List Str) from by decide+kernel)),kO,(kH VU rfl T.b_list jH (wF (qpm 0) zb))⟩)) v7)))
   (kU uE rfl (ug rfl T.b_range (wF (kx y7 rfl T.b_len yG (wF (qpm 9) zb)) yw)) (kD 12 xv.nd) (uh
   (ke 13 xv.nd (kz yg (qpm 11) (ki yr (ki yr (kx y7 rfl T.b_len yG (wF (qpm 9) zb)) xR) (qpm 12))))
   (km (kB (kF (kB (kJ (kg Vu (kz yg (qpm 9) (qpm 12)) ku (nomark _)) (kK (kg VR (qpm 13) ku (nomark _))))) (kI (kB (kJ (kg VR (kz yg (qpm 9) (qpm 12)) ku (nomark _)) (kK (kg vt (qpm 13) (ki yr (ki yr (kx y7 rfl T.b_len yG (wF (qpm 9) zb)) xR) (kz yg (qpm 9) (qpm 12))) (nomark _)))))))) (kj (kA kC)) kq)))
   (kA (ui (kc (zfi T) T.law_right hr (kh (qpm 5) zb (qpm 9) zb)) (uj (uk (Y4 (hu64 hr)) (kc (YW T) T.nest hr (wF (qpm 4) zb)) (qpm 9) (nomark _))))))
   ,λC zs cs X Y H1 g1 hC1 nzs hz ndc cb few=>?_⟩
  clear kZ ke kc wF qpm kh kz xR km kg ku kj kA kC kq kN kG kD kO kH kB kF kR kT kx ua kI kU kJ kK kL kr kM kW uc ud kX ue uf ug uh ki ui uj uk QE QT QW QA QS QSs QG QGs QI QO QIf;refine ym λfX hX=>?_;simp! [];have cB:∀c,c∈cs->0<=c.1/\0<=c.2.1/\vq c:=λc hc=>by
   obtain⟨j,hj⟩:=Ql.mp hc;obtain⟨p,x,_,e2,e3⟩:=hz.at (j:=j) (by rw[hz.1];exact(pF.mp hj).1)
   rw[hj] at e2
   cases e2;exact⟨e3.2.1,e3.2.2.2.1,e3.2.2.2.2.2.1,e3.2.2.2.2.2.2⟩
  refine⟨a0,ns,rfl,g1.seq hS,λM f H2 hM g2 hf=>?_⟩;refine hX _ _ (ym λfX hX=>?_);simp! [];have hC2:=g2 _ _ hC1;have hz2:=hz.ts qe (zI g2);refine⟨C,M,zs,cs,f,rfl,hC2,nzs,hz2,hf,λW ys ws es H3 hW g3 hW3 ny hw nd Eg Wg=>?_⟩;refine hX _ _ (ym λfX hX=>?_);simp! [];obtain⟨xf,hxf,f0,f1,f2,f3,f4,f5,f6,fb⟩:=hf.same g3;have w0:0<f.w:=by have:=fb.2.2.2.2.2.2.1;lia
  have p0:0<f.p:=by have:=fb.1.1;lia
  have d0:0<fd2 f:=by have:=fb.2.2.2.2.2.2.2.2;unfold fd2;lia
  have Fe:=XY w0 d0 Eg Wg;have lws:=hw.1;have lwe:=wys_len Eg nd Wg;have l191:=few es Eg nd;refine⟨xf,hxf,_,f6,W,ys,ws,f,rfl,hW3,by lia,hw,fb,λL ls H4 hL g4 hL4 hls=>?_⟩
  have lls:=hls.1;rw[pC] at lls;have g04:=((g1.trans g2).trans g3).trans g4;have lt4:=lt.same g04;refine⟨L,ls,_,rfl,hL4,by lia,hls,Fe,lt4,λF fs os g H5 hF st5 lt5 hF5 ho td=>?_⟩
  refine hX _ _ (ym λfX hX=>?_);simp! [];have ts5:zJ H4 H5:=λb xs q=>st5.tup lt4 q;have hM5:=st5.lst lt4 (g4 _ _ hxf);have hW5:=st5.lst lt4 (g4 _ _ hW3);have hw5:=(hw.ts Xo (zI g4)).ts Xo ts5;have ho5:LR RgQ H5 fs os:=ho.imp (R':=RgQ) λp r t=>t.2.2;refine⟨xf,hM5,_,f6,W,ys,ws,f,rfl,hW5,by lia,hw5,fb,d0,λB kvs H6 hB g6 bk=>?_⟩
  obtain⟨rs,ers,hrs⟩:=told_rs w0 d0 td;have l3:=zbz λq hq=>(td.rg q hq).2;rw[td.pm.length_eq,pC] at l3;have lfs:=ho.1;have lrs:rs.length=os.length:=by rw[←ers,pC]
  refine⟨F,B,fs,rs,f,_,kvs,rfl,g6 _ _ hF5,by lia,by rw[ers];exact je ho5 g6,λr hr1=>⟨(hrs r hr1).1,by have:=(hrs r hr1).2.1;lia,(hrs r hr1).2.2.1⟩,bk,λD zs2 H7 hD g7 hD7 hz7=>?_⟩
  refine hX _ _ (ym λfX hX=>?_);simp! [];refine hX _ _ (ym λfX hX=>?_);simp! [];have lz2:=hz7.1;rw[pC] at lz2;have hF7:=g7 _ _ (g6 _ _ hF5);have ho7:LR RgQ H7 fs os:=je ho5 (g6.trans g7);have bx:∀e,e∈ws->Bx e.1:=λe he=>by
   obtain⟨j,hj⟩:=Ql.mp he;obtain⟨p,x,_,e2,e3⟩:=hw.at (j:=j) (by rw[hw.1];exact(pF.mp hj).1)
   rw[hj] at e2
   cases e2;exact e3.2.1
  have lens:∀r,r∈os->2<=r.length/\r.length<=200:=λr hr=>by
   rw[←ers] at hr;obtain⟨r0,h0,rfl⟩:=pL.mp hr;have:=(hrs r0 h0).1;have:=(hrs r0 h0).2.1;rw[pC];lia
  have mids:∀r,r∈os->Bd3 1000 (vN (nx r 0) (nx r 1)) (vA (nx r 0) (nx r 1)) (vv (nx r 0) (nx r 1)):=λr hr=>by
   rw[←ers] at hr;obtain⟨r0,h0,rfl⟩:=pL.mp hr;obtain⟨h3,_,hm,_⟩:=hrs r0 h0;have pq:∀i,PQ 60 (PF f (nz r0 i)):=λi=>by
    obtain⟨e,he,ee⟩:=hm (nz r0 i) (pX (X0 (by lia) i))
    rw[ee];exact zb4 (jE fb (bx e he)) w0
   rw[jZ (by lia),jZ (by lia)]
   exact zc4 (pq 0) (pq 1)
  refine y9 ?_;simp! [zX];refine⟨⟨_,.of hF7⟩,λHa hHa=>?_⟩;refine xG (xs:=fs) (Xl os H7 Ha) ⟨zg hHa _,upd_same,rfl,by rw[Qs];exact .nil⟩ (λn qs H' z=>.of (z.1 _ _ hF7)) ?_ ?_
  ·rintro n qs H8 v hn hv iv;obtain⟨p,r,rfl,hr',us,hp,hu⟩:=ho7.2 n v hv;simp! [];exact⟨us,.inl (iv.1 _ _ hp),λLc hLc=>JK hHa iv hn (by lia) hr' hp hu hLc⟩
  rintro qs H8 ⟨g8,hHa8,lq,hqs⟩;rw[pV (by lia)] at hqs
  have hqs8:LR RgQ H8 qs os:=hqs.imp (R':=RgQ) λp r t=>t.2;refine hX _ _ (ym λfX hX=>?_);simp! [];refine⟨Ha,qs,os,rfl,hHa8,by lia,hqs8,lens,mids,λN H9 hN g9 hN9=>?_⟩
  refine hX _ _ (ym λfX hX=>?_);simp! [];have g79:=g8.trans g9;have hD9:=g79 _ _ hD7;refine⟨_,_,rd_rl (g9 _ _ hHa8) (je hqs8 g9),rd_rl (g79 _ _ hF7) (je ho7 g79),za6 _,za6 _,_,rfl,?_⟩;rw[dRs_eqv];refine yE ⟨_,JC hN9,?_⟩;rw[isi_ll];refine yE ⟨_,.inl hN9,zs2,.inl hD9,?_⟩;have ln:(xl os).length=os.length:=by unfold xl;rw[pC,jO]
  rw[decide_eq_true (show((xl os).length:Int)=(zs2.length:Int) by lia)]
  refine yE ?_;refine hX _ _ (ym λfX hX=>?_);simp! [];refine yo ?_;simp! [zX];refine⟨⟨_,.of hN9⟩,?_⟩;refine xz (K:=K) (a:=N) (xs:=xl os) (λi σ H'=>H'=H9/\∃o,σ=[some (V.ref a0),some (V.ref C),some (V.ref M),some (V.ref W),some (V.ref F),some (V.ref D),some (V.ref Ha),some (V.ref N),o,none,none,none,none,none]) ⟨rfl,_,rfl⟩ (λi σ H' _ iv=>.of (by rw[iv.1];exact hN9)) ?_ ?_
  ·intro _ _;rintro i v σ H9 hi ⟨rfl,o,rfl⟩;unfold xl at hi;rw[pT] at hi;obtain⟨o1,h1,rfl⟩:=Qr.mp hi;simp! []
   cases o1 with
   |none=>
    rw[show oV none=V.non from rfl,decide_eq_true rfl];exact yE trivial
   |some x=>
    have hx:=nest_bd h1;rw[show oV (some x)=V.int x from rfl,decide_eq_false (λz=>nomatch z)];refine vx ⟨zs2,.inl hD9,x,_,rfl,_,rfl,?_⟩;rw[decide_eq_true (show 0<=x/\x<(zs2.length:Int) by lia)]
    exact yE rfl
  rintro σ H9 ⟨rfl,o,rfl⟩;refine hX _ _ (ym λfX hX=>?_);simp! [];refine⟨_,.inl hN9,λKp hKp=>?_⟩;have g10:=zg hKp (HO.lst (xl os));have hKp10:upd H9 Kp (HO.lst (xl os)) Kp=some (.lst (xl os)):=upd_same;have hHa9:=g9 _ _ hHa8;have nKN:Kp≠N:=λz=>by rw[z,hN9] at hKp;cases hKp
  have nKH:Kp≠Ha:=λz=>by rw[z,hHa9] at hKp;cases hKp
  generalize upd H9 Kp (HO.lst (xl os))=H10 at*;refine hX _ _ (ym λfX hX=>?_);simp! [];intro p1 hp1;have s1:=zg hp1 (HO.tup [V.int 0,V.int 0,V.int 1]);have t1:upd H10 p1 (HO.tup [V.int 0,V.int 0,V.int 1]) p1=some (HO.tup [V.int 0,V.int 0,V.int 1]):=upd_same;generalize upd H10 p1 (HO.tup [V.int 0,V.int 0,V.int 1])=J1 at*;intro p2 hp2;have s2:=zg hp2 (HO.tup [V.int 2,V.int 1,V.int 1]);have t2:upd J1 p2 (HO.tup [V.int 2,V.int 1,V.int 1]) p2=some (HO.tup [V.int 2,V.int 1,V.int 1]):=upd_same;generalize upd J1 p2 (HO.tup [V.int 2,V.int 1,V.int 1])=J2 at*;intro p3 hp3;have s3:=zg hp3 (HO.tup [V.int 1,V.int 3,V.int 1]);have t3:upd J2 p3 (HO.tup [V.int 1,V.int 3,V.int 1]) p3=some (HO.tup [V.int 1,V.int 3,V.int 1]):=upd_same;generalize upd J2 p3 (HO.tup [V.int 1,V.int 3,V.int 1])=J3 at*;intro p4 hp4;have s4:=zg hp4 (HO.lst [V.ref p1,V.ref p2,V.ref p3]);have t4:upd J3 p4 (HO.lst [V.ref p1,V.ref p2,V.ref p3]) p4=some (HO.lst [V.ref p1,V.ref p2,V.ref p3]):=upd_same;generalize upd J3 p4 (HO.lst [V.ref p1,V.ref p2,V.ref p3])=J4 at*;intro p5 hp5;have s5:=zg hp5 (HO.lst [V.ref p4]);have t5:upd J4 p5 (HO.lst [V.ref p4]) p5=some (HO.lst [V.ref p4]):=upd_same;generalize upd J4 p5 (HO.lst [V.ref p4])=J5 at*;have s45:=s4.trans s5;have gJ:=s1.trans (s2.trans (s3.trans s45));have q1:QH J5 p1 ⟨0,0,1⟩:=⟨(s2.trans (s3.trans s45)) _ _ t1,qZ (by decide) (by decide) (by decide) (by decide) (by decide) (by decide)⟩
  have q2:QH J5 p2 ⟨2,1,1⟩:=⟨(s3.trans s45) _ _ t2,qZ (by decide) (by decide) (by decide) (by decide) (by decide) (by decide)⟩
  have q3:QH J5 p3 ⟨1,3,1⟩:=⟨s45 _ _ t3,qZ (by decide) (by decide) (by decide) (by decide) (by decide) (by decide)⟩
  have rg5:LR RgQ J5 [V.ref p4] [[⟨0,0,1⟩,⟨2,1,1⟩,⟨1,3,1⟩]]:=LR.snoc (R:=RgQ) (ys:=[]) (as:=[]) .nil (p:=p4) (a:=[⟨0,0,1⟩,⟨2,1,1⟩,⟨1,3,1⟩]) ⟨[V.ref p1,V.ref p2,V.ref p3],s5 _ _ t4,((LR.nil.snoc q1).snoc q2).snoc q3⟩;refine⟨p5,[V.ref p4],[[⟨0,0,1⟩,⟨2,1,1⟩,⟨1,3,1⟩]],rfl,t5,(by show 1<=100;decide),rg5,λr hr=>(by rw[pZ.mp hr];decide),λr hr=>(by rw[pZ.mp hr];exact zc4 (a:=⟨0,0,1⟩) (b:=⟨2,1,1⟩) (qZ (by decide) (by decide) (by decide) (by decide) (by decide) (by decide)) (qZ (by decide) (by decide) (by decide) (by decide) (by decide) (by decide))),λO H11 hO g11 hO11=>?_⟩
  refine hX _ _ (ym λfX hX=>?_);simp! [];rw[zgv] at hO11;have g911:=g10.trans (gJ.trans g11);have hHa11:=g911 _ _ hHa9;have hKp11:=g11 _ _ (gJ _ _ hKp10);have hN11:=g911 _ _ hN9;have nOH:O≠Ha:=λz=>by rw[z,gJ _ _ (g10 _ _ hHa9)] at hO;cases hO
  have nNH:N≠Ha:=λz=>by rw[z,hHa8] at hN;cases hN
  refine⟨xB hHa11,⟨_,hHa11⟩,?_⟩;refine hX _ _ (ym λfX hX=>?_);simp! [];intro p6 hp6;have g12:ze H7 (upd H11 Ha (HO.lst [])):=zW (g79.trans g911) hHa;have hO12:upd H11 Ha (HO.lst []) O=some (.lst ([none].map oV)):=by rw[zh nOH];exact hO11
  have hN12:upd H11 Ha (HO.lst []) N=some (.lst ((yO os).map oV)):=by rw[zh nNH];exact hN11
  have hKp12:upd H11 Ha (HO.lst []) Kp=some (.lst ((yO os).map oV)):=by rw[zh nKH];exact hKp11
  generalize upd H11 Ha (HO.lst [])=H12 at*;have s6:=zg hp6 (HO.lst [V.non]);have t6:upd H12 p6 (HO.lst [V.non]) p6=some (.lst ([none].map oV)):=upd_same;generalize upd H12 p6 (HO.lst [V.non])=H13 at*;have g13:=g12.trans s6;have hN13:=s6 _ _ hN12;have hKp13:=s6 _ _ hKp12;refine⟨_,_,jM (s6 _ _ hO12),jM t6,jS _,jS _,_,rfl,?_⟩;rw[VX];refine yE ⟨_,_,jM hN13,jM hKp13,jS _,jS _,_,rfl,?_⟩;rw[VX];refine yE ?_;refine hX _ _ (ym λfX hX=>?_);simp! [];refine⟨xB hN13,_,hN13,small1000 (by rw[pC,jO];lia),?_⟩
  have g14:ze H7 (upd H13 N (HO.lst ((yO os).map oV++[V.non]))):=zW g13 (g8.free hN);have hKp14:upd H13 N (HO.lst ((yO os).map oV++[V.non])) Kp=some (.lst ((yO os).map oV)):=by rw[zh nKN];exact hKp13
  generalize upd H13 N (HO.lst ((yO os).map oV++[V.non]))=H14 at*;have hF14:=g14 _ _ hF7;refine hX _ _ (ym λfX hX=>?_);simp! [];refine y9 ?_;simp! [zX,tSlR,hF14];intro Rv hRv;have s7:=zg hRv (HO.lst fs.reverse);have t7:upd H14 Rv (HO.lst fs.reverse) Rv=some (HO.lst fs.reverse):=upd_same;generalize upd H14 Rv (HO.lst fs.reverse)=H15 at*;have g15:=g14.trans s7;have ho15:LR RgQ H15 fs.reverse os.reverse:=lr_rev (je ho7 g15);have lrv:os.reverse.length=os.length:=UZ;have lfv:fs.reverse.length=fs.length:=UZ;refine⟨⟨_,.of t7⟩,λHb hHb=>?_⟩;refine xG (xs:=fs.reverse) (Xl os.reverse H15 Hb) ⟨zg hHb _,upd_same,rfl,by rw[Qs];exact .nil⟩ (λn qs H' z=>.of (z.1 _ _ t7)) ?_ ?_
  ·rintro n qs2 H16 v hn hv iv;obtain⟨p,r,rfl,hr',us,hp,hu⟩:=ho15.2 n v hv;simp! [];exact⟨us,.inl (iv.1 _ _ hp),λLc hLc=>JK hHb iv hn (by lia) hr' hp hu hLc⟩
  rintro qs2 H16 ⟨g16,hHb16,lq2,hqs2⟩;rw[pV (by lia)] at hqs2
  have hq16:LR RgQ H16 qs2 os.reverse:=hqs2.imp (R':=RgQ) λp r t=>t.2;refine⟨Hb,qs2,os.reverse,rfl,hHb16,by lia,hq16,λr hr=>lens r (GV.mp hr),λr hr=>mids r (GV.mp hr),λN2 H17 hN2 g17 hN217=>?_⟩
  have g1417:=s7.trans (g16.trans g17);have hKp17:=g1417 _ _ hKp14;have g717:=g14.trans g1417;have hD17:=g717 _ _ hD7;have lkp:((yO os).map oV).length=os.length:=by rw[pC,jO]
  obtain⟨Ps,pr⟩:=prt_ex (cs:=cs) λc hc=>(cB c hc).2.2;have AA:All X Y f cs es ws Ps (rs.map zA):=⟨w0,d0,Eg,nd,Wg,pr,ndc,λc hc=>⟨(cB c hc).1,(cb c hc).1,(cB c hc).2.1,(cb c hc).2,(cB c hc).2.2⟩,⟨g,os,td,by
   rw[←ers,gM,gM];exact Qx λr hr1=>ZT (by have:=(hrs r hr1).1;lia)⟩,λwl hwl w hw'=>by
   obtain⟨r,hr1,rfl⟩:=pL.mp hwl;exact(hrs r hr1).2.2.2 w hw'⟩
  have l3r:∀r,r∈rs->3<=r.length:=λr hr=>(hrs r hr).1;have NN:v8 os.length (roO os) (λi=>su crs (zA (rs.getD i []))):=by
   have:=Zd AA p0 l3r;rw[lrs,show roF f rs=roO os by unfold roF osF;rw[ers];rfl] at this
   exact this
  refine hX _ _ (ym λfX hX=>?_);simp! [];refine yo ?_;simp! [wv];refine⟨_,.inl hKp17,by lia,by lia,vH (λi σ H'=>H'=H17/\∃o1 o2,σ=[some (V.ref a0),some (V.ref C),some (V.ref M),some (V.ref W),some (V.ref F),some (V.ref D),some (V.ref Ha),some (V.ref N),o,some (V.ref Kp),some (V.ref O),some (V.ref N2),o1,o2]) ⟨rfl,none,none,rfl⟩ ?_ ?_⟩
  ·intro _ _;rintro j σ H17 hj ⟨rfl,o1,o2,rfl⟩;have hj':j<os.length:=by lia
   have a1:=YF hj';have a2:=YF (os:=os.reverse) (i:=os.length-1-j) (by lia)
   have e:=zel NN hj';generalize (yu os j).find? (yQ (yu os j) (yW os))=oa at*;generalize (yu os.reverse (os.length-1-j)).find? (yQ (yu os.reverse (os.length-1-j)) (yW os.reverse))=ob at*;have i1:atI ((yO os).map oV) (j:Int)=some (oV oa):=yl (by rw[pT,a1];rfl)
   have i2:atI (xl os.reverse) (((((yO os).map oV).length:Nat):Int)-1-(j:Int))=some (oV ob):=by
    rw[lkp,show((os.length:Int)-1-(j:Int))=((os.length-1-j:Nat):Int) by lia]
    exact yl (by unfold xl;rw[pT,a2];rfl)
   simp! [QY,hKp17,hN217,i1,i2];rw[lkp];subst e
   cases ob with
   |none=>
    rw[show oV (Hf (λx=>(os.length:Int)-1-x) none)=V.non from rfl,show oV none=V.non from rfl,decide_eq_true rfl];exact vx (yE (yE trivial))
   |some y=>
    rw[show oV (Hf (λx=>(os.length:Int)-1-x) (some y))=V.int ((os.length:Int)-1-y) from rfl,show oV (some y)=V.int y from rfl,decide_eq_false (λz=>nomatch z)];refine yE (vx ⟨_,rfl,rfl,?_⟩);rw[decide_eq_true (congrArg V.int (by lia))]
    exact yE trivial
  rintro σ H17 ⟨rfl,o1,o2,rfl⟩;refine hX _ _ ?_;simp! [];refine⟨D,Kp,zs2,msF f rs,yO os,rfl,hD17,by lia,hz7.imp λp r t=>t.same g717,λm hm=>?_,hKp17,by unfold msF;rw[jO,pC,lrs],λk r o hr ho=>?_,λH18 g18=>⟨_,rfl,vx ?_⟩⟩
  ·obtain⟨r0,h0,rfl⟩:=pL.mp hm;obtain⟨r3,rl,rS,_⟩:=hrs r0 h0;rw[pC];refine⟨by lia,by lia,λx hx=>?_⟩
   obtain⟨a,ha,rfl⟩:=pL.mp hx;obtain⟨e,he,rfl⟩:=rS a ha;have:=jE fb (bx e he);exact⟨this.1,this.2.1⟩
  ·have hk1:k<os.length:=by rw[←jO];exact(pF.mp ho).1
   have t:=VG NN.c hk1;rw[YF hk1] at ho
   cases ho;rw[←lrs,show roO os=roF f rs by unfold roF osF;rw[ers];rfl] at t
   have:=rgt_of AA p0 l3r (by lia) t
   rw[pD,hr] at this;exact this
  ·have g718:=g717.trans g18;refine⟨F,fs,os,rfl,g718 _ _ hF7,by lia,je ho7 g718,lens,mids,λN3 H19 hN3 g19 h19=>?_⟩
   refine⟨_,_,jM (os:=yO os) h19,jM (os:=yO os) (g19 _ _ (g18 _ _ hKp17)),jS _,jS _,?_⟩;rw[VX];exact k _
 have kY:=@zK;have ke:=@zk;have kc:=@zu;have kr:=@pa3;have qpm:=@pm;have ki:=@zc;have xR:=@za;have kh:=@pa2;have km:=@zL;have kg:=@zM;have kj:=@zp;have wF:=@pa1;have kq:=@zR;generalize @PE=QE,@PT=QT,@PW=QW,@PA=QA,@PS=QS,@PSs=QSs,@PG=QG,@PGs=QGs,@L2.PI=QI,@PO=QO,@PIf=QIf at kY ke kc kr qpm ki xR kh km kg kj wF kq htl⊢;refine⟨_,
  (kY (ke 1 xv.nd (kc (zga T) T.law_cells hr (kr (qpm 0) zb (ki zQ xR (ki yn (kc (xW T) T.law_cell hr (kh (qpm 0) zb xR yy)) xR)) zx (ki zQ xR (ki yn (kc (xW T) T.law_cell hr (kh (qpm 0) zb xR yy)) xR)) zx)))
   (kY (km (kg wz (ki yn (kc (xW T) T.law_cell hr (kh (qpm 0) zb xR yy)) xR) xR (nomark _)) (kj (ke 1 xv.nd (kc (zgl T) T.law_deep hr (wF (qpm 0) zb)))) kq)
   htl))
  ,?_⟩
 clear htl kY ke kc kr qpm ki xR kh km kg kj wF kq QE QT QW QA QS QSs QG QGs QI QO QIf;simp! [];refine⟨a0,ns,0,rfl,hS,by decide,by decide,λ⟨v0,_⟩=>⟨v0,rfl,by decide,a0,ns,1,rfl,hS,by decide,by decide,λ⟨v1,_⟩=>⟨v1,rfl,by decide,?_⟩⟩⟩
 have wd1:1<=1+v0%4/\1+v0%4<=4:=by lia
 have hg1:1<=1+v1%3/\1+v1%3<=3:=by lia
 generalize 1+v0%4=wd at*;generalize 1+v1%3=hg at*;refine⟨a0,ns,_,_,rfl,hS,by lia,by lia,by lia,by lia,λC zs cs H1 hC g1 hC1 nzs hz ci=>?_⟩
 have cB:∀{H1:Hp}{zs:List V}{cs:List C3},LR C3H H1 zs cs->∀c,c∈cs->0<=c.1/\0<=c.2.1/\vq c:=λ{H1 zs cs} hz c hc=>by
  obtain⟨j,hj⟩:=Ql.mp hc;obtain⟨p,x,_,e2,e3⟩:=hz.at (j:=j) (by rw[hz.1];exact(pF.mp hj).1)
  rw[hj] at e2
  cases e2;exact⟨e3.2.1,e3.2.2.2.1,e3.2.2.2.2.2.1,e3.2.2.2.2.2.2⟩
 refine⟨a0,ns,5,rfl,g1.seq hS,by decide,by decide,λ⟨v5,_⟩=>⟨v5,rfl,by decide,ite2 (λ_=>?_) λ_=>?_⟩⟩
 ·exact⟨a0,ns,rfl,g1.seq hS,λD zs2 cs2 H2 m q1 q2 hD g2 hD2 nz2 hz2 ci2 de=>hk D zs2 cs2 7 7 H2 (g1.trans g2) hD2 nz2 hz2 ci2.1 (λc hc=>⟨(ci2.2 c hc).1,(ci2.2 c hc).2.1⟩) λes E nd=>zio de (λc hc=>⟨(cB hz2 c hc).1,(ci2.2 c hc).1,(cB hz2 c hc).2.1,(ci2.2 c hc).2.1,(cB hz2 c hc).2.2⟩) E nd⟩
 ·refine hk C zs cs wd.toNat hg.toNat H1 g1 hC1 nzs hz ci.1 (λc hc=>by obtain⟨c1,c2,_⟩:=ci.2 c hc;lia) λes E nd=>?_
  have c1:=zfn E nd;have c2:=cell48 ci.1 wd1.2 hg1.2 λc hc=>⟨(cB hz c hc).1,(ci.2 c hc).1,(cB hz c hc).2.1,(ci.2 c hc).2.1,(cB hz c hc).2.2⟩;lia
end
variable{ps:List Str}{F:UM}{us:List pB}
theorem ar1(h:us.length=1)(f:∀x0,AS F ⟨[x0],[]⟩=pure (ps.zip [x0])):AS F ⟨us,[]⟩=pure (ps.zip us):=by
 match us,h with
 |[x0],_=>exact f x0
theorem ar2(h:us.length=2)(f:∀x0 x1,AS F ⟨[x0,x1],[]⟩=pure (ps.zip [x0,x1])):AS F ⟨us,[]⟩=pure (ps.zip us):=by
 match us,h with
 |[x0,x1],_=>exact f x0 x1
theorem ar3(h:us.length=3)(f:∀x0 x1 x2,AS F ⟨[x0,x1,x2],[]⟩=pure (ps.zip [x0,x1,x2])):AS F ⟨us,[]⟩=pure (ps.zip us):=by
 match us,h with
 |[x0,x1,x2],_=>exact f x0 x1 x2
theorem ar4(h:us.length=4)(f:∀x0 x1 x2 x3,AS F ⟨[x0,x1,x2,x3],[]⟩=pure (ps.zip [x0,x1,x2,x3])):AS F ⟨us,[]⟩=pure (ps.zip us):=by
 match us,h with
 |[x0,x1,x2,x3],_=>exact f x0 x1 x2 x3
def all_mk{l:EN}{w:uW}{K:pI}{h:Heap}{mg:Str->Option pB}{fa f0 f1 f2 f3 f4 f5 f6 f7 f8 f9 f10 cT0 pT0 f11 f12 f13 f14 f15 f16 f17 f18 f19 f20 f21 f22 f23 f24 f25 f26 f27 f28 f29 f30 f31 f32 f33 f34 f35 f36 f37 f38 f39 f40 f41 f42 f43 f44 f45:Addr}{d0 d1 d2 d3 d4 d5 d6 d7 d8 d9 d11 d12 d13 d14 d15 d16 d17 d18 d19 d20 d21 d22 d23 d24 d25 d26 d27 d28 d29 d30 d31 d32 d33 d34 d35 d36 d37 d38 d39 d40 d41 d42 d43 d44 d45:UM}(X:K.In h)(G:h.Ns ul mg)(hfa:mg "law"=some (.ref fa)){odT0 anT0:Option Addr}{slT0:Array (Option pB)}{oT0 kVT0 dcT0 pmT0 ctT0:pB}{tdT0:Option Addr}{tvT0:Array pB}{tsT0:Array (Option pB)}{tcT0:pB}
  (h0:Fd K "is_whole" Vl f0 d0)
  (h1:Fd K "divisor" Wc f1 d1)
  (h2:Fd K "point" W4 f2 d2)
  (h3:Fd K "before" Jo f3 d3)
  (h4:Fd K "sign_of" VA f4 d4)
  (h5:Fd K "line_of" X4 f5 d5)
  (h6:Fd K "side_of" Je f6 d6)
  (h7:Fd K "turn" JE f7 d7)
  (h8:Fd K "amid" WA f8 d8)
  (h9:Fd K "order_keys" Vy f9 d9)
  (a10:UF K ul "by_points"=some (some (.ref f10)))(l10:K.lookup f10=some ⟨oT0,odT0,.func (Ut "by_points" "by_points" (wV xN) (xw xN) (zo xN) .none kVT0 dcT0 pmT0 anT0 (.ref cT0) ctT0),slT0⟩)(c10:Ay K (.ref cT0) "by_points"=true)(k10:Bm K (.ref f10)=true)
  (lT0:K.lookup cT0=some ⟨tcT0,tdT0,.fields tvT0,tsT0⟩)(vT0:tvT0[11]?=some (.ref pT0))(hT0:PySem.W.codeHdIn K cT0 pT0=true)(tT0:Dg K "by_points"=some (cT0,pT0))(nT0:K.lookup pT0=none)
  (h11:Fd K "stretch" Vb f11 d11)
  (h12:Fd K "above" Wq f12 d12)
  (h13:Fd K "spans" V0 f13 d13)
  (h14:Fd K "sides_of" WY f14 d14)
  (h15:Fd K "is_round" VF f15 d15)
  (h16:Fd K "nest" VY f16 d16)
  (h17:Fd K "innermost" JH f17 d17)
  (h18:Fd K "rings_of" VL f18 d18)
  (h19:Fd K "leaving_of" XQ f19 d19)
  (h20:Fd K "way_round" WX f20 d20)
  (h21:Fd K "first_right" Jq f21 d21)
  (h22:Fd K "is_met_sooner" VH f22 d22)
  (h23:Fd K "from_least" Vt f23 d23)
  (h24:Fd K "_law_cell" Wm f24 d24)
  (h25:Fd K "_law_divisor" WQ f25 d25)
  (h26:Fd K "_law_point" VE f26 d26)
  (h27:Fd K "_law_cells" Vf f27 d27)
  (h28:Fd K "_law_ends" Jv f28 d28)
  (h29:Fd K "_law_edges" VB f29 d29)
  (h30:Fd K "_law_straight" JD f30 d30)
  (h31:Fd K "_law_long" qD f31 d31)
  (h32:Fd K "_law_frame" WZ f32 d32)
  (h33:Fd K "_law_moved" WI f33 d33)
  (h34:Fd K "_law_land" WN f34 d34)
  (h35:Fd K "_law_told" Jt f35 d35)
  (h36:Fd K "_law_back" Vx f36 d36)
  (h37:Fd K "_law_rings" JB f37 d37)
  (h38:Fd K "_law_twice" W2 f38 d38)
  (h39:Fd K "_law_over" Yr f39 d39)
  (h40:Fd K "_law_within" XV f40 d40)
  (h41:Fd K "_law_deep" XO f41 d41)
  (h42:Fd K "_law_place" JF f42 d42)
  (h43:Fd K "_law_round" Wz f43 d43)
  (h44:Fd K "_law_right" Jj f44 d44)
  (h45:Fd K "law" qO f45 d45)
  (z0:UF K ul "abs"=some none)
  (z1:UF K ul "all"=some none)
  (z2:UF K ul "bool"=some none)
  (z3:UF K ul "enumerate"=some none)
  (z4:UF K ul "int"=some none)
  (z5:UF K ul "isinstance"=some none)
  (z6:UF K ul "len"=some none)
  (z7:UF K ul "list"=some none)
  (z8:UF K ul "max"=some none)
  (z9:UF K ul "min"=some none)
  (z10:UF K ul "range"=some none)
  (z11:UF K ul "sorted"=some none)
  (z12:UF K ul "zip"=some none)
  :∃(fd:UM)(ts:List Addr),(∀b,b∈ts->K.lookup b=none/\∃y c,y∈([Ui "by_points"]:List Str)/\Dg K y=some (c,b))/\(∀(s:pH)(v:pB),Fb s fd ⟨[v],[]⟩ [("_law_script",v)])/\∀base:Heap,K.In base->base.Ns ul mg->(∀b,b∈ts->base.BuiltinsAt mg b)->zv l.prog w K mg base CX0 8 fa fd ["_law_script"] (YJ K ts):=by
 cases hfa.symm.trans (HC X G h45.1);have FC10:FunC K "by_points" "by_points" xN f10 _ cT0 pT0:=⟨⟨_,_,_,_,_,_,_,_,rfl,l10,c10⟩,hT0⟩;have T:Txt K mg (λn=>[f0,f1,f2,f3,f4,f5,f6,f7,f8,f9,f10,f11,f12,f13,f14,f15,f16,f17,f18,f19,f20,f21,f22,f23,f24,f25,f26,f27,f28,f29,f30,f31,f32,f33,f34,f35,f36,f37,f38,f39,f40,f41,f42,f43,f44,fa,cT0,pT0].getD n 0) (λn=>[d0,d1,d2,d3,d4,d5,d6,d7,d8,d9,Ut "by_points" "by_points" (wV xN) (xw xN) (zo xN) .none kVT0 dcT0 pmT0 anT0 (.ref cT0) ctT0,d11,d12,d13,d14,d15,d16,d17,d18,d19,d20,d21,d22,d23,d24,d25,d26,d27,d28,d29,d30,d31,d32,d33,d34,d35,d36,d37,d38,d39,d40,d41,d42,d43,d44,d45].getD n d45):=by
  refine⟨h0.at X G ?_,h1.at X G ?_,h2.at X G ?_,h3.at X G ?_,h4.at X G ?_,h5.at X G ?_,h6.at X G ?_,h7.at X G ?_,h8.at X G ?_,h9.at X G ?_,(Fd.at ⟨a10,zb8 l10 c10 k10⟩ X G ?_),FC10,h11.at X G ?_,h12.at X G ?_,h13.at X G ?_,h14.at X G ?_,h15.at X G ?_,h16.at X G ?_,h17.at X G ?_,h18.at X G ?_,h19.at X G ?_,h20.at X G ?_,h21.at X G ?_,h22.at X G ?_,h23.at X G ?_,h24.at X G ?_,h25.at X G ?_,h26.at X G ?_,h27.at X G ?_,h28.at X G ?_,h29.at X G ?_,h30.at X G ?_,h31.at X G ?_,h32.at X G ?_,h33.at X G ?_,h34.at X G ?_,h35.at X G ?_,h36.at X G ?_,h37.at X G ?_,h38.at X G ?_,h39.at X G ?_,h40.at X G ?_,h41.at X G ?_,h42.at X G ?_,h43.at X G ?_,h44.at X G ?_,h45.at X G ?_,Qb X G z0,Qb X G z1,Qb X G z2,Qb X G z3,Qb X G z4,Qb X G z5,Qb X G z6,Qb X G z7,Qb X G z8,Qb X G z9,Qb X G z10,Qb X G z11,Qb X G z12⟩
  all_goals
   intro _ _ _ _ _ _ us hl
   first|exact ar1 hl λ_=>rfl|exact ar2 hl λ_ _=>rfl|exact ar3 hl λ_ _ _=>rfl|exact ar4 hl λ_ _ _ _=>rfl
 refine⟨_,[pT0],λb hb=>by rw[pZ.mp hb];exact⟨nT0,_,cT0,pZ.mpr rfl,tT0⟩,?bnd,λbase hK _ hB=>ok_law T hK (hB _ (pZ.mpr rfl))⟩
 obtain⟨_,⟨⟨oc,od,kV,doc,pm,an,cdv,ct,osl,e,_⟩,_⟩⟩:=h45;subst e;exact λs v=>.of_eq rfl
def walk{l:EN}{q:uB}{loose:List Str}{XP:(Str->Option pB)->Heap->Prop}{YP:uW->Heap->Prop}{d:DefRec}{K:Params->pI}(hn:l.most=some 63)(hdf:d.params.defaults=[])
  (hY:∀(w:uW)(h:Heap),YP w h->(K w.params).In h)(hD:∀y,y∈([Ui "by_points"]:List Str)->∃e,(PyProof.Rows.recsOf q).find? (λe=>e.name==y)=some e)
  (F:∀(w:uW)(mg:Str->Option pB)(fa:Addr)(h:Heap),(K w.params).In h->h.Ns ul mg->mg d.name=some (.ref fa)->
   ∃(fd:UM)(ts:List Addr),(∀b,b∈ts->(K w.params).lookup b=none/\∃y c,y∈([Ui "by_points"]:List Str)/\Dg (K w.params) y=some (c,b))/\(∀(s:pH)(u:pB),Fb s fd ⟨[u],[]⟩ [("_law_script",u)])/\∀base:Heap,(K w.params).In base->base.Ns ul mg->(∀b,b∈ts->base.BuiltinsAt mg b)->zv l.prog w (K w.params) mg base CX0 8 fa fd ["_law_script"] (YJ (K w.params) ts)):
  Gv q loose XP YP l.row.toRowW d [] (λf vs=>Gk f vs):=
 L2.walk_ofT (n:=63) (k:=8) (x:="_law_script") (CX:=λ_=>CX0) (sp:=λw ts=>YJ (K w.params) ts) (ds:=[Ui "by_points"]) hn (by decide) hdf ⟨rfl,by decide,by decide⟩ hY hD F (λ_ _ a ns ts hl hO hS=>⟨a,ns,rfl,hS,hl,λb hb=>zfd (hO.tabs b hb),λ_=>rfl⟩) λ_ _ _ _ _ z=>z
end Mine
set_option genInjectivity false
set_option genSizeOf false
structure PySem.W.Fast:Prop where(tw14591332487376002188 tw9495750402721729411 tw2166948441764727226 tw10197220700621400418 tw18039820007788086694 tw2717101943414145944 tw17815602038130466980 tw2004052036026538472 tw9069629265924022035 tw15398736540630824203 tw6566842811492549620 tw12135571098258342059 tw1019922039502168573 tw16027012011354219470 tw9891807132875381978 tw11160389317271380027 tw118824583433960570 tw10506870822585622536 tw6094590405772174388 tw17148520028564804305 tw8179337541598428162 tw5009660354794752375 tw12005400387417139167 tw868373870278802007 tw15704622233336344522 tw16699032710598580250 tw17288175744435288383 tw11614919038119421475 tw11979305634970677014 tw5274665511420701145 tw5755617341368134084 tw3732859601783864926 tw17806949736342608745 tw11748488637318406412 tw17955184555796690574 tw13851572103909866475 tw12575273554390677525 tw13962789255989406844 tw1691919105834014591 tw900687063888245953 tw9706554451224605812 tw14116819539210620602 tw8549505572205694080 tw4908384941007650473 tw12737417930380464473 tw279907982470342278 tw11859980315794270395 tw17060902223116987394 tw1618741520762708751 tw2148971637352371994 tw10805060760168845457 tw7872202185106327575 tw18223456210346931175 tw9655813794314035251 tw10154502454234490147 tw3423883672288784074 tw14893189859463723579 tw4827642229263432763 tw3533998039567481060 tw16926001258950063498 tw433968013592472161 tw8119083434039528147 tw18439124025287787191 tw7831753801152445525 tw15500975719271992820 tw13291569613528137625 tw18391042985513235352 tw16808184754903994478 tw6931062267964027858 tw3101179402538363438 tw16047276759492777579 tw16700422405430421166 tw9017538513504960383 tw13831865191495261593 tw8408875385262779278 tw12583607170636973230 tw7274571736150608241 tw4880183599685939648 tw308289954864231219 tw2751932844442231842 tw619426072322759703 tw13108048834477784499 tw1395426141531692904 tw6944525715439742969 tw11353019260934526003 tw15841172404763413480 tw14820590204299895357 tw1627846922564233073 tw16802977922711941441 tw166979937762680176 tw7311599513804726555 tw14610563965869827484 tw1162857615577846003 tw16633142458380679446 tw17303809712809094712 tw16398450965968607404 tw3562492371090563947 tw86066544916608234 tw8982109673708003474 tw9873843934246510058 tw11949506800127297578 tw12022315414413302700 tw17616144447700257562 tw7398477195640375176 tw3783709820768832819 tw12461033742597504831 tw8951470785930909174 tw5255353040219684681 tw2667465316853117105 tw12755029703074158219 tw2739076740450399992 tw6597255719699811784 tw7865844134790183026 tw5096215398553975034 tw9272270757286468769 tw6733250485369953597 tw15772969442533023654 tw2733157007713076127 tw779527942669111349 tw13572812748255119587 tw15688874570844362337 tw17460923295983641448 tw12935156904158235944 tw4156069084987630800 tw8442378359467981184 tw5481653058611248637 tw16712620374069436446 tw18162851206007323871 tw15700804160693335326 tw12150967231268549129 tw7619242342716656056 tw9557080800046777017 tw14309464684401117859 tw739977604333437797 tw2243911895053415988 tw6728141726264919482 tw1379833847944054553 tw6581204080895553460 tw3220235700458712015 tw2030147569996658943 tw379295506621807774 tw4025403127280875438 tw7291935091031929373 tw17836348979781384730 tw17019938394144502731 tw4395751625526792347 tw6523808028720930144 tw16950527321601708328 tw6104541466455850694 tw15804330295893977312 tw14550540765884364749 tw6831526017809079231 tw1330030995426560652 tw17938132842751804079 tw18144317870429785413 tw1856729386022793839 tw4162698774123026756 tw39873948249471747 tw8176433560344172764 tw17145502799069061401 tw2242986884495330159 tw805234714462975891 tw16409763770565719073 tw3562681775032352608 tw5077679850304904761 tw1671353437684879492 tw17609859535863268102 tw18446264781710399314 tw5817185803014259913 tw5638960971378383780 tw16432330312994581333 tw12262098668598026693 tw13228246135932294004 tw16870295642936735741 tw2341217462574933561 tw656710473757099929 tw763164401414909076 tw10821484517814606970 tw10152147340999014800 tw7780962515630060976 tw12433210248083769774 tw11600378429921968221 tw932255396192424244 tw16814272485290669223 tw1632975627054604754 tw2735388108442754178 tw439550632324923584 tw11640992669629470254 tw15592630265615210859 tw5247123134707955381 tw7430487101570055859 tw11155762466182888175 tw2094597769332812718 tw3559586464492749588 tw8697447779878873799 tw2541365542159536164 tw5644114607009422234 tw836395025419617210 tw483841476134742659 tw15135197010726079019 tw1600194020506337851 tw16553581690955197482 tw10741008885834056245 tw13323193644879834439 tw6715788146249149699 tw3430780814128525380:True)
open PySem PySem.W PyProof.Rows
set_option maxRecDepth 100000 in
set_option maxHeartbeats 0 in
theorem PySem.Challenge.cw_acre_k44_nest_told_holds : PySem.Challenge.rw_acre_k44_nest_told.Holds := by
 w_on;o_law;k_head;(case hw=>w_witness2)
 k_fill
 refine Mine.walk (l:=PySem.Challenge.rw_acre_k44_nest_told) rfl rfl (λw h Y=>PySem.W.km_in_of Y) (λy hy=>by rw[pZ.mp hy];exact⟨_,rfl⟩) ?F
 case F=>
  intro w mg fa h KX G hmg
  refine' Mine.all_mk KX G hmg ?h0 ?h1 ?h2 ?h3 ?h4 ?h5 ?h6 ?h7 ?h8 ?h9 ?a10 ?l10 ?c10 ?k10 ?lT0 ?vT0 ?hT0 ?tT0 ?nT0 ?h11 ?h12 ?h13 ?h14 ?h15 ?h16 ?h17 ?h18 ?h19 ?h20 ?h21 ?h22 ?h23 ?h24 ?h25 ?h26 ?h27 ?h28 ?h29 ?h30 ?h31 ?h32 ?h33 ?h34 ?h35 ?h36 ?h37 ?h38 ?h39 ?h40 ?h41 ?h42 ?h43 ?h44 ?h45 ?z0 ?z1 ?z2 ?z3 ?z4 ?z5 ?z6 ?z7 ?z8 ?z9 ?z10 ?z11 ?z12
  all_goals (try (refine' Mine.fd_mk ?a ?l ?c ?k;(case a=>k_is);(case l=>k_is);(case c=>k_is);(case k=>k_is)))
  (case a10=>k_is)
  (case l10=>k_is)
  (case c10=>k_is)
  (case k10=>k_is)
  (case lT0=>k_is)
  (case vT0=>rfl)
  (case hT0=>kernel_rfl)
  (case tT0=>kernel_rfl)
  (case nT0=>kernel_rfl)
  (case z0=>k_is)
  (case z1=>k_is)
  (case z2=>k_is)
  (case z3=>k_is)
  (case z4=>k_is)
  (case z5=>k_is)
  (case z6=>k_is)
  (case z7=>k_is)
  (case z8=>k_is)
  (case z9=>k_is)
  (case z10=>k_is)
  (case z11=>k_is)
  (case z12=>k_is)
