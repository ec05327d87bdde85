import PyProof.Rows.All
import Wide.All
import OpenK.AllK
import Wide.FinOn
import Lean
import PyProof.EqAt
import PyProof.EqKinds
import PyProof.TupleCall
import PySem.Challenge.RW_acre_k15_pieces_end_to_end
open PySem renaming wpAny_bind->pA,Value->pB,Shared->pC,wpAny_pure->pK,Program->pi,isSubtype_type->uL,Around->uQ,World->uR,mainGlobals->uV,starEach->ur,mem_of_lookup->QK,bootBuiltins->Qc,wpAny_mono->Qe,wpAny_seqItems->Qt,sysModules->Qz,wpAny_rule->UI,FuncData->UN,wpAny_holding->UR,compareOp->UZ,wpAny_callSpecial?_slot->Ug,wpAny_call_entry->Uh,wpAny_truthy_bool->Uo,wpAny_loadPart'->Us,wpAny_field->hV,wpAny_typeNameOfWhole_keyiter->gG,wpAny_newObj_type->gI,Fin->gJ,rawInt->gN,wpAny_isInstance->gW,wpAny_Call_Name_kw->gX,wpAny_passesOwn->gt,call_isinstance->gz,codeAny_builtin->AA,wpAny_updateSeq->AB,foldedSetIterable->AE,bindArgs->AF,wpAny_typeNameOf_keyiter->AK,binaryOp->AN,wpAny_forIn_list->AR,wpAny_letGo->Aa,backTo->Ad,wpAny_setField_rec->Ae,tupleKind_room_in1->Ai,wpAny_specialOf->Ak,wpAny_attempt->Am,plainId_quiet->An,Builtin->Av,IsPair->Ay,wpAny_newList->BI,codeAny->BN,assignEach->BV,tupleKind->Bc,keywordEach->Bd,Arguments->Be,sliceBounds->Bf,DictEntry->Bg,codeAny_mono->Bk,argBest->Bn,wpAny_tryCatch->Bo,wpAny_dictEntries->Bp,tupleKeyHash->Bt,wpAny_isOneOf_keyiter->CG,isSubtype_tuple_tuple->CH,isSubtype->CI,wpAny_pyIter_zip->CJ,behindInMarks->CN,wpAny_standAt->CO,compEnvC->CQ,wpAny_newFunctionEnv->CS,wpAny_execs_nil->CY,letOwnedTupleGo->CZ,wpAny_pyIter_tuple->Ct,NameKind->Cu,wpAny_setField->Cv,firstArgMember->Cw,wpAny_fieldsOf->DC,wpAny_tupleItemsOf->DD,wpAny_letOwnedTupleGo_zip->DN,sizeLine_eq->DS,pyNext->DX,PyData->Da,swapsWith->Di,backToKw->Dl,seqItems?->Do,wpAny_Dict_empty->Dr,Paired->Dx,builtinsNs->Dy,call_meets->EC,closureFor->ED,richCompare_meets_room->EH,wpAny_dictEpoch->ER,wpAny_isTrue_Compare1->EV,wpAny_notOrdered_dict->EX,typeOf->Ed,intBits_le_iff->Ef,wpAny_updateSeq_pair->Eg,wpAny_newTuple->Eh,richCompare->Ei,dictSetDefault->Et,Keyword->Ex,callerA->Ey,valueAt->Ez,assignInOrder->FE,attributeBase->FG,wpAny_onRaise->FI,Spec->FK,wpAny_getItem_heap->FO,isInstance->FP,wpAny_assign_Name->FV,wpAny_pyIter_list->FX,BindsTo->FY,getItem->FZ,seqIndex_neg->Fa,slot_list_getitem->Fb,storedH->Fj,wpAny_pyIter_enum->Fo,wpAny_execs_cons->GB,noFill_tuple_add->GC,eqIsQuiet->GI,seqIndex_of->GR,wpAny_of_eq->GS,storedH_new->GX,entryOfKey->Gk,wpAny_Name->Gm,bindName->Gn,Result->Gq,wpAny_call->Gr,call->Gv,ZipApart->Gw,defaultsOf->Gx,cellsFrom->HW,updateSeq->HY,ItemsOf->Hd
open List renaming getElem?_eq_some_iff->pD,getD_eq_getElem?_getD->pE,getElem?_eq_getElem->pG,mem_append_right->pI,length_map->pL,length_append->pM,mem_singleton->pN,mem_append->pP,getElem?_map->pQ,mem_cons->pR,mem_of_getElem?->pS,length_take->pV,mem_cons_self->pX,mem_cons_of_mem->pY,size_toArray->pe,length_drop->pg,map_cons->pj,take_of_length_le->pz,mem_append_left->uD,mem_map->uG,take_add_one->uP,append_assoc->uS,mem_filter->uW,mem_iff_getElem?->uY,length_cons->uZ,map_append->ug,take_zero->ul,mem_iff_getElem->QB,not_mem_nil->QJ,lookup_cons->QL,length_range->QM,take_append_drop->QN,length_filter_le->QP,getElem?_append_right->Qb,range->Qd,getElem?_append_left->Qf,drop_eq_getElem_cons->Qg,getElem_drop->Qi,mem_range->Qr,take_length->Qu,getElem_take->Qv,pairwise_iff_getElem->Qx,toArray->UC,map_map->UD,append_nil->UF,getElem?_eq_none->UJ,Nodup->UK,pairwise_cons->UP,mem_reverse->UU,nodup_cons->Ub,find?_cons->Uc,pairwise_singleton->Ui,mem_of_mem_take->Uj,getElem?_set_self->Um,getElem?_drop->Uv,map_nil->Ux,getElem?_set_ne->hU,drop_drop->gE,mem_of_mem_drop->gH,nodup_append->gL,pairwise_map->gM,length_replicate->gk,perm_append_comm->gr,length_set->gv,drop_zero->AS,getElem_mem->AU,filter_cons->AX,length->AZ,zip_cons_cons->Ag,nil_append->Al,getElem?_toArray->Ao,ext_getElem?->Aq,replicate->As,nodup_nil->At,cons_append->Aw,mem_flatMap->Ax,map_congr_left->BC,getElem?_take_of_lt->BE,forIn_cons->BO,length_nil->BP,getElem?_take->BY,filter_append->Bb,getElem?_cons_zero->Bh,getElem?_cons_succ->Bi,take_sublist->Bl,drop_of_length_le->Bq,reverse_perm->Bv,drop_take->Bw,take_succ_eq_append_getElem->By,drop_eq_nil_of_le->Bz,drop_eq_nil_iff->CT,eq_nil_of_length_eq_zero->CU,of_mem_zip->Ca,filterMap_cons->Ch,getElem?_range->Ci,forIn_nil->Cy,take_take->DF,set_cons_zero->DL,set_cons_succ->DM,any_cons->Dc,getElem?_replicate->Dm,zipIdx_cons->Dq,pairwise_append->Er,reverse_reverse->Es,reverse_append->FD,zip_nil_right->FM,forIn_toArray->FN,filter_filter->FU,zip_nil_left->Ff,push_toArray->Fi,drop_sublist->Fp,getElem_inj->GA,ext_getElem->GF,take_append->GL,nodup_range->GP,zipIdx_nil->GZ,range_succ->Ge,filter_nil->Gj
open PySem.W renaming Frag->pF,mg_none_of->QU,nsIn->Qj,fnOf->UA,codeIn->gY,keepIn->AO,tabIn->BF,codeHd_of_K->Cj,methodObj->DQ,codeHdIn->Dw,cellsFrom_some->Dz,OpenLaw->EO,kla_callFunE->Ej,kla_codeExpr->Ek,kat_cons->GG,kat_yes->Gc,kat_no->HJ,WalkO->HN,mg_of->HU
open PySem.Heap renaming get?_push_of_some->pH,lt_size->pb,get?_push_size->pd,get?_update_ne->uv,get?_update_other->QV,get?_update_self->Qn,size_push->AQ,SameBut->Ac,size_update->GK,IsTuple->Hb,ExtBut->Hm
open Nat renaming le_refl->pJ,lt_of_lt_of_le->po,ne_of_lt->uF,zero_le->uJ,le_trans->uK,le_of_lt->uq,lt_of_le_of_lt->Ud,lt_irrefl->Ul,le_of_eq->Up,le_succ->gS,le_add_right->gU,lt_or_eq_of_le->gc,min_eq_left->AC,pow_le_pow_right->AG,succ_le_succ->AY,add_assoc->BK,ne_of_gt->Bj,gcd->CB,gcd_dvd_right->CC,min_le_left->Cd,le_succ_of_le->DW,gcd_assoc->De,reduceAdd->Df,reduceSub->Dg,gcd_dvd_left->Du,add_comm->EE,lt_or_ge->EI,pow_succ->EM,zero_add->EN,le_antisymm->EQ,lt_trans->Fk,lt_succ_of_lt->Fl,sub_zero->Fm,lt_trichotomy->Fn,le_of_lt_succ->Fq,succ_pos->Fs,gcd_comm->Ft,gcd_mul_right->Fu,le_max_right->GM,mul_lt_mul''->GN,zero_lt_one->Gf,not_lt_zero->Gg,dvd_trans->HR,le_of_dvd->HS,add_zero->He,sub_self->Hi,le_zero->Hq,pow_add->Hs,one_mul->Ht
open PyProof.Rows renaming wpS_bind->pO,wpS_pure->pU,Keyed->pW,seqObj->uC,pendingOf->uE,wpS_forRange->QD,SortSt->QF,wpS_modify->Qk,callWith_type1->Ql,setArr->Qm,SortKind->UM,listItems_at->US,wpS_mono->UW,get?_update_seq->gP,IntsAre->gq,envOfC->gu,mirror_perm->AH,listUpdate_at->AJ,getElem?_mirror_all->BB,failedOf->BG,wpS_get->BU,assignInOrder_cons->Cr,wpS_lift->DG,AllBare->DR,subscriptTail_builtinR->EB,call_function_entry_kw->EK,getElem?_bubble->ES,seqEpoch_at->El,gallopOf->Ep,lt_int->FA,wpAny_call_entry_kw->FC,subscriptTail->FF,setPending->FR,assignInOrder_nil->FW,keyKind'->Fh,bubble_perm->GT,callWith_kw->GV,mirror_size->GW,entry_list_sort->Gd,boot_range->Gp,Subscript_->Gs,ksk_tail->Gy,ksk_rest->Gz,ksk_tree->HI,ksk_end->Hc
open Array renaming length_toList->pT,getD_eq_getD_getElem?->pZ,toList_append->uA,getElem?_eq_getElem->uM,getElem?_toList->ui,getElem_toList->QC,toList_reverse->UO,getElem?_eq_none->UT,getElem_mem->UY,getD->Af,size_extract->BZ,toList_inj->CK,perm_iff_toList_perm->Cz,forIn_toList->DE,toList_push->DV,replicate->EU,getElem_extract->Ea,mem_toList_iff->Eo,toList_modify->FB,toList_zip->GJ,size_push->Gb,toList->HZ
open PySem.Obj renaming mapSeq->uB,data_mapFields->BX,isFreed_of_fields->EW,data_mapDictKeys->Eu,cls_mapFields->Fc,mapFields->HP
open Bool renaming false_ne_true->uH,false_eq_true->uI,eq_false_iff->Uq,not_true->Uz,eq_iff_iff->gO,not_false->Bu,not_eq_true'->Bx,true_and->Dh,not_eq_true->Dv,and_true->FH,not_eq_false'->FS,and_eq_true->GO,false_and->Go,and_false->Gu,or_false->HQ
open Option.some renaming inj->uN,injEq->UL
open PySem.PassesOwn renaming never->uO
open PySem.Str renaming ofString->uT
open Int renaming mul_eq_zero->uU,fmod_eq_emod_of_nonneg->Qa,le_of_lt->Qq,mul_neg_of_neg_of_pos->Qy,mul_comm->UE,neg_mul->UQ,toNat_natCast->UX,emod_lt_of_pos->Uf,emod_nonneg->Ut,mul_le_mul_of_nonneg_right->Uw,natAbs_mul->gd,mul_nonneg->gh,mul_pos->Ab,zero_add->Aj,fdiv_eq_ediv_of_nonneg->Ar,gcd_add_mul_right_left->Au,mul_nonpos_of_nonpos_of_nonneg->Ba,zero_mul->CA,lt_or_le->CD,toNat->CL,mul_le_mul_of_nonneg_left->CV,mul_ediv_mul_of_pos_left->Cg,toNat_of_nonneg->Ck,gcd_add_mul_right_right->Co,mul_lt_mul_of_pos_right->Cp,ofNat_dvd_left->DH,eq_of_mul_eq_mul_right->DI,le_of_mul_le_mul_right->DJ,mul_pos_of_neg_of_neg->DP,fmod_nonneg_of_pos->EL,fmod_add_mul_fdiv->Eb,le_ediv_of_mul_le->Ec,gcd_zero_right->FT,mul_zero->Fv,add_comm->Fw,add_zero->Fx,ediv_mul_le->Gi,fmod->HK,natAbs_dvd->HL,gcd->Hf,gcd_comm->Hg,le_trans->Hh,le_refl->Hr,one_mul->Hu,mul_neg->Hv
open PySem.PyData renaming canLayAll0->uX,eqv->uj,eqvAll->uk,depthAll->uz,depth->Qp,canLay0->Qs,int->Ah,tuple->Fg
open PySem.F renaming plainAttrs_list->uh,slot_list_append->QY,type_list_append->QZ,slot_dict_keyiterator_next->Ue,slot_tuple_iterator_next->gZ,slot_list_extend->AL,plain_max_loop->AT,slot_tuple_hash->AW,slot_tuple_eq->Ap,args_dict_keyiterator_next_1->BA,entry_dict_keyiterator_next->BJ,type_list_extend->BM,args_tuple_iterator_next_1->Cb,slot_zip_next->Cc,slot_dict_setdefault->Cf,entry_tuple_iterator_next->Cm,slot_dict_getitem->DO,args_tuple_add_2->DY,entry_tuple_add->Dn,entry_max_loop->Ds,slot_tuple_add->EA,slot_dict_iter->EF,slot_list_lt->En,args_zip_next_1->Fe,entry_zip_next->GE
open PySem.Value renaming none->ut,ref->uw,type->AI,int->Fz,isStrOf->HM,str->HV,isInt->Hj,bool->Hw
open Option renaming map_some->QQ,map_eq_some_iff->Qh,isSome_iff_exists->BD,isSome_map->DU,getD_none->GD,none->Hl
open PySem.NameKind renaming free->QX,cell->DZ
open List.Perm renaming append_left->Qo,trans->ET
open PySem.Builtin.SmallTypes renaming nextOf->Qw,ownedTupleIsFree->Ua,ownedTupleHandOut->Az
open PySem.SeqAt renaming shaped->UB,eqBoolOverData->DA
open Prod renaming fst->UG,ext->Br
open False renaming elim->UH
open PySem.Builtin.Tuple renaming tupleHashOf->UV,tupleCompareSizes->CF
open PySem.Builtin.List renaming listExtendWith->Uk,listTooLong->Uy,listSameRef->Dd,listItems->EJ
open PySem.Heap.SameBut renaming update->Ur
open Classical renaming byContradiction->Uu
open PySem.Around renaming under_plainId->gF,frames_deeper->CP
open Ne renaming symm->gQ
open Sum renaming inl->AD,inr->Ew
open List.Pairwise renaming imp_of_mem->AM,sublist->EZ,filter->Ev,map->Fy
open PySem.MeetsSeq3 renaming plain_eq_loop->AV,entry_eq_loop->Dt
open List.cons renaming injEq->BQ
open PySem.Calls renaming spliced_cons->BW,callWith_builtin->Bm,Name_function_global->Cq,spliced_nil->DT,evalArgs_plain->Ee
open PySem.Paired renaming length->CM,snoc->GU
open PySem.Builtin.Dict_items renaming ownsTuple->Ce
open PySem.Builtin.Builtins renaming bindParams->Cn
open True renaming intro->DB
open PySem.AutoSeq1 renaming sub_tuple_tuple->Db,sub_list_list->EG
open PySem.Data renaming cell->Dj,fields->GQ,seq->Ho
open PySem.Builtin.Range renaming rangeSize->Dk
open PySem.Builtin.Dict renaming showsAll->EY
open ToString renaming toString->Em
open Prod.mk renaming injEq->FJ
open Or renaming inr->FL,inl->Ha
open PyProof.Rows.SortSt renaming mk'->FQ
open LawfulBEq renaming eq_of_beq->GH
open ForInStep renaming yield->GY
open StateT renaming run_pure->Ga
open Array.Perm renaming refl->Gh
open LawfulMonad renaming pure_bind->HX
open Sum.inl renaming inj->Hk
open PySem.Shared renaming heap->Hn
open PUnit renaming unit->Hx
open PyProof.Rows.IsTup renaming new->Hy
set_option Elab.async false
set_option linter.all false
set_option compiler.extract_closed false
set_option maxRecDepth 100000
set_option maxHeartbeats 4000000
noncomputable section
namespace L2
open PySem PySem.Spec PyProof.Rows
abbrev Key:=Sum Int Str
noncomputable def vB:Key->pB->Bool
 |.inl k,v=>Hj k v
 |.inr x,v=>HM x v
noncomputable def keyH(w:uR):Key->Int
 |.inl k=>hashInt k
 |.inr x=>hashStr w x
theorem wg:∀{k:Key}{v:pB},vB k v=true->(∃i t,k=AD i/\v=Fz i t)∨(∃x t,k=Ew x/\v=HV x t)
 |.inl i,v,h=>by
  obtain⟨t,e⟩:=Value.isInt_shape (k:=i) (v:=v) h;exact .inl ⟨i,t,rfl,e⟩
 |.inr x,v,h=>by
  obtain⟨t,e⟩:=Value.isStrOf_shape (x:=x) (v:=v) h;exact .inr ⟨x,t,rfl,e⟩
def zdw(i:Int)(t:Tok):vB (.inl i) (.int i t)=true:=by simp[vB,Hj]
def zdr(x:Str)(t:Tok):vB (.inr x) (.str x t)=true:=by simp[vB,HM]
def key_ll(a b:Int):decide ((AD a:Key)=AD b)=(a==b):=by
 by_cases e:a=b
 ·subst e;simp
 ·have h:¬(AD a:Key)=AD b:=λq=>e (Hk q);rw[decide_eq_false h];exact(beq_eq_false_iff_ne.mpr e).symm
def key_rr(a b:Str):decide ((Ew a:Key)=Ew b)=decide (a=b):=by
 by_cases e:a=b
 ·subst e;simp
 ·have h:¬(Ew a:Key)=Ew b:=λq=>e (Sum.inr.inj q);rw[decide_eq_false h,decide_eq_false e]
def key_lr(a:Int)(b:Str):decide ((AD a:Key)=Ew b)=false:=decide_eq_false (λq=>nomatch q)
def key_rl(a:Str)(b:Int):decide ((Ew a:Key)=AD b)=false:=decide_eq_false (λq=>nomatch q)
noncomputable def yG(prog:pi)(w:uR):PySem.KeyKind prog w Key where
 is:=vB
 hash:=keyH w
 inj:=λv a b ha hb=>by
  rcases wg ha with⟨i,t,rfl,rfl⟩|⟨x,t,rfl,rfl⟩
  ·rcases wg hb with⟨j,u,rfl,e⟩|⟨y,u,rfl,e⟩
   ·injection e with e1 _;rw[e1]
   ·exact nomatch e
  ·rcases wg hb with⟨j,u,rfl,e⟩|⟨y,u,rfl,e⟩
   ·exact nomatch e
   ·injection e with e1 _;rw[e1]
 byValue:=λk v h=>by
  rcases wg h with⟨i,t,rfl,rfl⟩|⟨x,t,rfl,rfl⟩<;>rfl
 pyHash:=λhv h=>by
  rcases wg hv with⟨i,t,rfl,rfl⟩|⟨x,t,rfl,rfl⟩
  ·exact wpAny_pyHash_int h
  ·exact wpAny_pyHash_str h
 eqBool:=λhu hv h=>by
  rcases wg hu with⟨i,t,rfl,rfl⟩|⟨x,t,rfl,rfl⟩
  ·rcases wg hv with⟨j,u,rfl,rfl⟩|⟨y,u,rfl,rfl⟩
   ·rw[key_ll] at h;exact wpAny_eqBool_int h
   ·rw[key_lr] at h;exact SeqAt.EqAt.int_str i t y u _ _ _ _ h
  ·rcases wg hv with⟨j,u,rfl,rfl⟩|⟨y,u,rfl,rfl⟩
   ·rw[key_rl] at h;exact SeqAt.EqAt.str_int x t j u _ _ _ _ h
   ·rw[key_rr] at h;exact wpAny_eqBool_str h
 «strs»:=λk x t v h=>by
  rcases wg h with⟨i,u,rfl,e⟩|⟨y,u,rfl,e⟩
  ·exact nomatch e
  ·injection e with e1 _
   subst e1
   cases v<;>rfl
def zai(prog:pi)(w:uR)(i:Int)(t:Tok):(yG prog w).is (.inl i) (.int i t)=true:=zdw i t
def zcy(prog:pi)(w:uR)(x:Str)(t:Tok):(yG prog w).is (.inr x) (.str x t)=true:=zdr x t
inductive V where
 |non|bl (b:Bool)|int (i:Int)|str (x:Str)|byt (b:Array UInt8)|flt (b:UInt64)|ref (a:Addr)|ty (n:String)
 deriving DecidableEq
def zm:V->pB->Prop
 |.non,u=>u=ut
 |.bl b,u=>u=Hw b
 |.int i,u=>∃t,u=Fz i t
 |.str x,u=>∃t,u=HV x t
 |.byt b,u=>∃t,u=Value.bytes b t
 |.flt b,u=>∃t,u=Value.float b t
 |.ref a,u=>u=uw a
 |.ty n,u=>u=AI n
abbrev zn:List V->List pB->Prop:=Dx zm
def zn.length{xs:List V}{us:List pB}(r:zn xs us):xs.length=us.length:=CM r
theorem zn.get:∀{xs:List V}{us:List pB}{i:Nat}{x:V},zn xs us->xs[i]?=some x->∃u,us[i]?=some u/\zm x u
 |_,_,_,_,.nil,e=>by simp at e
 |_,_,0,_,.cons r _,e=>by simp at e;subst e;exact⟨_,rfl,r⟩
 |_,_,i+1,x,.cons _ t,e=>by
  obtain⟨u,h1,h2⟩:=zn.get (i:=i) (x:=x) t (by simpa using e)
  exact⟨u,by simpa using h1,h2⟩
theorem zn.set{x:V}{u:pB}(r:zm x u):∀{xs:List V}{us:List pB}(i:Nat),zn xs us->zn (xs.set i x) (us.set i u)
 |_,_,_,.nil=>.nil
 |_,_,0,.cons _ t=>.cons r t
 |_,_,i+1,.cons q t=>.cons q (zn.set r i t)
theorem zn.append:∀{xs ys:List V}{us ws:List pB},zn xs us->zn ys ws->zn (xs++ys) (us++ws)
 |_,_,_,_,.nil,s=>s
 |_,_,_,_,.cons r t,s=>.cons r (zn.append t s)
theorem zn.take:∀{xs:List V}{us:List pB}(n:Nat),zn xs us->zn (xs.take n) (us.take n)
 |_,_,0,_=>.nil
 |_,_,_+1,.nil=>.nil
 |_,_,n+1,.cons r t=>.cons r (zn.take n t)
theorem zn.drop:∀{xs:List V}{us:List pB}(n:Nat),zn xs us->zn (xs.drop n) (us.drop n)
 |_,_,0,r=>r
 |_,_,_+1,.nil=>.nil
 |_,_,n+1,.cons _ t=>zn.drop n t
def xP:Option V->Option pB->Prop
 |some v,some u=>zm v u
 |none,none=>True
 |_,_=>False
def KV{κ:Type}:List (κ×V)->List (κ×pB)->Prop:=Dx λ(p:κ×V)(q:κ×pB)=>p.1=q.1/\zm p.2 q.2
noncomputable def kV:Key->V
 |.inl i=>.int i
 |.inr x=>.str x
inductive HO where
 /--a list-/
 |lst (xs:List V)
 /--a tuple (never changes)-/
 |tup (xs:List V)
 /--a dict whose keys are ints and texts;one whose keys are tuples of ints and texts (the empty one is both)-/
 |dK (kvs:List (Key×V))|dT (kvs:List (List Key×V))
 /--a set of ints:its members,its size-/
 |set (S:Int->Bool) (n:Nat)
 /--an instance of the class at C,its dict at dx,its attributes-/
 |ins (C dx:Addr) (fs:List (Str×V))
 /--the dict of the instance at x-/
 |own (x:Addr)
 /--the dict of an exception-/
 |xd (fs:List (Str×V))
 /--a bound method,f of x-/
 |met (f x:Addr)
 /--a range object lo,lo+1,.. below hi-/
 |rng (lo hi:Int)
 /--a thing that is known to the object (the script;a dict while a loop walks it):read,never written while it is so-/
 |frz (o:Obj) (u:HO)
 /--a code object's table-/
 |tbl (ps:Array pB)
 /--any other thing,by what is true of its one object (a def of one's own:SetO a S n:=HO.ext λh=>..)-/
 |ext (φ:Heap->Prop)
abbrev Hp:=Addr->Option HO
noncomputable def upd(H:Hp)(a:Addr)(o:HO):Hp:=λb=>if b=a then some o else H b
def upd_same{H:Hp}{a:Addr}{o:HO}:upd H a o a=some o:=by unfold upd;rw[if_pos rfl]
def zh{H:Hp}{a b:Addr}{o:HO}(h:b≠a):upd H a o b=H b:=by unfold upd;rw[if_neg h]
def upd_upd{H:Hp}{a:Addr}{o u:HO}:upd (upd H a o) a u=upd H a u:=by
 funext b;unfold upd;split<;>rfl
def ne_of{H:Hp}{a b:Addr}{o u:HO}(h:H a=some o)(h':H b=some u)(d:o≠u):a≠b:=by
 intro e;subst e;rw[h] at h';exact d (uN h')
def zN{H:Hp}{a b:Addr}{o:HO}(h:H a=some o)(h':H b=none):a≠b:=by
 intro e;subst e;rw[h] at h';cases h'
section
variable(P:pi)(w:uR)
def yf(H:Hp)(h:Heap)(a:Addr):HO->Prop
 |.lst xs=>xs.length<=sizeLine/\∃(its:List pB)(n:Nat),zn xs its/\h.get? a=some {cls:=.type "list",data:=.seq its.toArray n}
 |.tup xs=>xs.length<=sizeLine/\∃its:List pB,zn xs its/\IsTup h a its.toArray
 |.dK kvs=>kvs.length<=sizeLine/\(a==Qz)=false/\∃vs,KV kvs vs/\h.DictOf (yG P w) a vs
 |.dT kvs=>kvs.length<=sizeLine/\(a==Qz)=false/\∃xs:List (List Key×Addr×pB),
   Dx (λ(p:List Key×V)(q:List Key×Addr×pB)=>p.1=q.1/\H q.2.1=some (.tup (p.1.map kV))/\zm p.2 q.2.2) kvs xs/\
   ∃o es ep,h.get? a=some o/\o.ExactDict/\o.data=.dict es ep/\es.toList=xs.map (Gk (Bc (yG P w)))/\(xs.map (·.1)).Nodup
 |.set S n=>h.SetOf (intKind P w) a S n
 |.ins C dx fs=>H dx=some (.own a)/\fs.length<=1000/\dx≠a/\h.get? a=some (PySem.W.instObj C dx)/\
   ∃mA,h.Ns1 dx mA/\(∀f,xP (fs.lookup f) (mA f))/\PySem.Within mA (fs.map (·.1))
 |.own _=>∃o,h.get? a=some o
 |.xd fs=>∃mA,h.Ns1 a mA/\∀f,xP (fs.lookup f) (mA f)
 |.rng lo hi=>∃t u v,h.get? a=some {cls:=.type "range",data:=.fields #[.int lo t,.int hi u,.int 1 v]}
 |.frz o u=>h.get? a=some o/\yf H h a u
 |.tbl ps=>h.get? a=some {cls:=.none,data:=.fields ps}
 |.met f x=>h.get? a=some (DQ (.ref f) (.ref x))
 |.ext φ=>φ h/\(∃o,h.get? a=some o)/\∀h1 h2:Heap,φ h1->(∀o,h1.get? a=some o->h2.get? a=some o)->φ h2
def HOk(H:Hp)(h:Heap):Prop:=∀a o,H a=some o->yf P w H h a o
end
section
variable{P:pi}{w:uR}{H H':Hp}{h h':Heap}{a:Addr}{o:HO}
theorem yf.lt(x:yf P w H h a o):a<h.objs.size:=by
 cases o with
 |lst xs=>obtain⟨_,_,_,_,e⟩:=x;exact pb e
 |tup xs=>obtain⟨_,_,_,p⟩:=x;exact p.lt
 |dK kvs=>obtain⟨_,_,_,_,o,_,_,e,_⟩:=x;exact pb e
 |dT kvs=>obtain⟨_,_,_,_,o,_,_,e,_⟩:=x;exact pb e
 |set S n=>obtain⟨o,_,_,_,e,_⟩:=x;exact pb e
 |ins C dx fs=>obtain⟨_,_,_,e,_⟩:=x;exact pb e
 |own y=>obtain⟨_,e⟩:=x;exact pb e
 |xd fs=>obtain⟨_,⟨_,_,_,e,_⟩,_⟩:=x;exact pb e
 |rng lo hi=>obtain⟨_,_,_,e⟩:=x;exact pb e
 |frz ob u=>obtain⟨e,_⟩:=x;exact pb e
 |tbl ps=>exact pb (show h.get? a=some _ from x)
 |met f y=>exact pb (show h.get? a=some _ from x)
 |ext φ=>obtain⟨_,⟨_,e⟩,_⟩:=x;exact pb e
theorem Paired.mapP{α β:Type}{F G:α->β->Prop}:∀{l₁:List α}{l₂:List β},Dx F l₁ l₂->(∀a b,F a b->G a b)->Dx G l₁ l₂
 |_,_,.nil,_=>.nil
 |_,_,.cons r t,f=>.cons (f _ _ r) (Paired.mapP t f)
theorem yf.stay(x:yf P w H h a o)(k:∀b u,(b=a∨H b=some (.own a))->h.get? b=some u->h'.get? b=some u)
  (ho:∀b,H b=some (.own a)->H' b=some (.own a))(ht:∀b xs,H b=some (.tup xs)->H' b=some (.tup xs)):yf P w H' h' a o:=by
 induction o with
 |lst xs=>obtain⟨z,its,n,r,e⟩:=x;exact⟨z,its,n,r,k _ _ (.inl rfl) e⟩
 |tup xs=>obtain⟨z,its,r,ob,e,c⟩:=x;exact⟨z,its,r,ob,k _ _ (.inl rfl) e,c⟩
 |dK kvs=>obtain⟨z,y,vs,r,ob,es,ep,e,c⟩:=x;exact⟨z,y,vs,r,ob,es,ep,k _ _ (.inl rfl) e,c⟩
 |dT kvs=>
  obtain⟨z,y,xs,r,ob,es,ep,e,c⟩:=x;exact⟨z,y,xs,Paired.mapP r λp q z=>⟨z.1,ht _ _ z.2.1,z.2.2⟩,ob,es,ep,k _ _ (.inl rfl) e,c⟩
 |set S n=>obtain⟨ob,es,ep,t,e,c⟩:=x;exact⟨ob,es,ep,t,k _ _ (.inl rfl) e,c⟩
 |ins C dx fs=>
  obtain⟨d,z,ne,e,mA,⟨od,es,ep,e2,c⟩,r⟩:=x;exact⟨ho _ d,z,ne,k _ _ (.inl rfl) e,mA,⟨od,es,ep,k _ _ (.inr d) e2,c⟩,r⟩
 |own y=>obtain⟨ob,e⟩:=x;exact⟨ob,k _ _ (.inl rfl) e⟩
 |xd fs=>obtain⟨mA,⟨od,es,ep,e,c⟩,r⟩:=x;exact⟨mA,⟨od,es,ep,k _ _ (.inl rfl) e,c⟩,r⟩
 |rng lo hi=>obtain⟨t,u,v,e⟩:=x;exact⟨t,u,v,k _ _ (.inl rfl) e⟩
 |frz ob u ih=>obtain⟨e,q⟩:=x;exact⟨k _ _ (.inl rfl) e,ih q⟩
 |tbl ps=>
  have e:h.get? a=some {cls:=.none,data:=.fields ps}:=x;show h'.get? a=some {cls:=.none,data:=.fields ps};exact k a _ (.inl rfl) e
 |met f y=>
  have e:h.get? a=some (DQ (.ref f) (.ref y)):=x;show h'.get? a=some (DQ (.ref f) (.ref y));exact k a _ (.inl rfl) e
 |ext φ=>obtain⟨p,⟨o,e⟩,st⟩:=x;exact⟨st _ _ p λo q=>k _ _ (.inl rfl) q,⟨o,k _ _ (.inl rfl) e⟩,st⟩
def HOk.lt(x:HOk P w H h)(e:H a=some o):a<h.objs.size:=(x a o e).lt
theorem HOk.fresh(x:HOk P w H h)(e:h.objs.size<=a):H a=none:=by
 cases q:H a with
 |none=>rfl
 |some u=>exact absurd (po (x.lt q) e) (Ul _)
def HOk.kept(x:HOk P w H h)(k:∀b u,h.get? b=some u->h'.get? b=some u):HOk P w H h':=λa o e=>
 (x a o e).stay (λb u _ q=>k b u q) (λ_ q=>q) λ_ _ q=>q
def HOk.laid(x:HOk P w H h)(k:∀b u,h.get? b=some u->h'.get? b=some u)(hp:h.objs.size<=a)(new:yf P w (upd H a o) h' a o):HOk P w (upd H a o) h':=λb u e=>by
 have hn:=x.fresh hp
 by_cases hb:b=a
 ·subst hb;rw[upd_same] at e;cases e;exact new
 ·rw[zh hb] at e;exact(x b u e).stay (λc v _ q=>k c v q) (λc q=>by rw[zh (zN q hn)];exact q) λc xs q=>by rw[zh (zN q hn)];exact q
end
def Rd(H:Hp)(a:Addr)(u:HO):Prop:=H a=some u∨∃o,H a=some (.frz o u)
def Rd.ok{P:pi}{w:uR}{H:Hp}{h:Heap}{a:Addr}{u:HO}(r:Rd H a u)(x:HOk P w H h):yf P w H h a u:=by
 rcases r with r|⟨o,r⟩
 ·exact x a u r
 ·obtain⟨_,q⟩:=x a _ r;exact q
def Mut:Option HO->Prop
 |some (.lst _)=>True
 |some (.dK _)=>True
 |some (.dT _)=>True
 |some (.set _ _)=>True
 |some (.ins _ _ _)=>True
 |some (.ext _)=>True
 |_=>False
section
variable{P:pi}{w:uR}{H:Hp}{h h':Heap}{x e:Addr}{o':HO}
def HOk.write(ok:HOk P w H h)(mu:Mut (H x))(he:e=x∨H e=some (.own x))(k:∀b u,b≠e->h.get? b=some u->h'.get? b=some u)(heo:∃u,h'.get? e=some u)
  (new:yf P w (upd H x o') h' x o'):HOk P w (upd H x o') h':=λb u q=>by
 have nown:∀c y,H c=some (.own y)->c≠x:=λc y r z=>by subst z;rw[r] at mu;exact mu
 have ntup:∀c xs,H c=some (.tup xs)->c≠x:=λc xs r z=>by subst z;rw[r] at mu;exact mu
 by_cases hb:b=x
 ·subst hb;rw[upd_same] at q;cases q;exact new
 ·rw[zh hb] at q
  by_cases hbe:b=e
  ·have q':H b=some (.own x):=by
    rcases he with z|z
    ·exact absurd (hbe.trans z) hb
    ·rw[hbe];exact z
   rw[q] at q';cases q';obtain⟨v,hv⟩:=heo;exact⟨v,by rw[hbe];exact hv⟩
  ·refine(ok b u q).stay (λc v hc r=>k c v ?_ r) (λc r=>by rw[zh (nown c b r)];exact r) λc xs r=>by rw[zh (ntup c xs r)];exact r
   rcases hc with rfl|hc
   ·exact hbe
   ·rintro rfl;rcases he with z|z
    ·exact nown c b hc z
    ·rw[hc] at z;cases z;exact hb rfl
end
structure Un(fs ex:List Addr)(H H':Hp)(h h':Heap):Prop where
 keep:∀b o,h.get? b=some o->H b=none->b∉fs->b∉ex->h'.get? b=some o
 slot:∀b o,h.get? b=some o->H b=none->b∈fs->b∉ex->∃sl,h'.get? b=some {o with slots:=sl}
 free:∀b o,h.get? b=some o->H b=none->b∉ex->H' b=none
 there:∀b o,h.get? b=some o->b∉ex->∃o',h'.get? b=some o'
 tups:∀b xs,H b=some (.tup xs)->H' b=some (.tup xs)
 frzs:∀b o u,H b=some (.frz o u)->H' b=some (.frz o u)
 tbls:∀b ps,H b=some (.tbl ps)->∃more,H' b=some (.tbl (ps++more))
section
variable{fs fs' ex ex':List Addr}{H H1 H2:Hp}{h h1 h2 h':Heap}{a x e:Addr}{o:HO}
def Un.any(u:Un fs ex H H1 h h1){b:Addr}{ob:Obj}(q:h.get? b=some ob)(n:H b=none)(hx:b∉ex):∃sl,h1.get? b=some {ob with slots:=sl}:=by
 by_cases hb:b∈fs
 ·exact u.slot b ob q n hb hx
 ·exact⟨ob.slots,u.keep b ob q n hb hx⟩
def Un.kept(k:∀b u,h.get? b=some u->h'.get? b=some u):Un fs ex H H h h':=
 ⟨λb ob q _ _ _=>k b ob q,λb ob q _ _ _=>⟨ob.slots,k b ob q⟩,λ_ _ _ n _=>n,λb ob q _=>⟨ob,k b ob q⟩,λ_ _ q=>q,λ_ _ _ q=>q,λ_ ps q=>⟨#[],by rw[q];simp⟩⟩
def Un.refl:Un fs ex H H h h:=Un.kept λ_ _ q=>q
def Un.laid(k:∀b u,h.get? b=some u->h'.get? b=some u)(hp:h.objs.size<=a)(hn:H a=none):Un fs ex H (upd H a o) h h' where
 keep:=λb u q _ _ _=>k b u q
 slot:=λb u q _ _ _=>⟨u.slots,k b u q⟩
 free:=λb u q n _=>by rw[zh (uF (po (pb q) hp))];exact n
 there:=λb u q _=>⟨u,k b u q⟩
 tups:=λb xs q=>by rw[zh (zN q hn)];exact q
 frzs:=λb u xs q=>by rw[zh (zN q hn)];exact q
 tbls:=λb ps q=>⟨#[],by rw[zh (zN q hn),q];simp⟩
def Un.write(mu:Mut (H x))(he:e=x∨H e=some (.own x))(k:∀b u,b≠e->h.get? b=some u->h'.get? b=some u)(heo:∃u,h'.get? e=some u):Un fs ex H (upd H x o) h h':=by
 have hx:∀b,H b=none->b≠x:=λb n z=>by subst z;rw[n] at mu;exact mu
 have hb:∀b,H b=none->b≠e:=λb n z=>by
  subst z;rcases he with r|r
  ·exact hx b n r
  ·rw[n] at r;cases r
 have hm:∀b u,H b=some u->¬Mut (some u)->b≠x:=λb u q nm z=>by subst z;rw[q] at mu;exact nm mu
 refine⟨λb u q n _ _=>k b u (hb b n) q,λb u q n _ _=>⟨u.slots,k b u (hb b n) q⟩,λb u q n _=>by rw[zh (hx b n)];exact n,λb u q _=>?_,
  λb xs q=>by rw[zh (hm b _ q λz=>z)];exact q,λb u xs q=>by rw[zh (hm b _ q λz=>z)];exact q,λb ps q=>⟨#[],by rw[zh (hm b _ q λz=>z),q];simp⟩⟩
 by_cases hbe:b=e
 ·subst hbe;exact heo
 ·exact⟨u,k b u hbe q⟩
end
noncomputable def trk(h:Heap)(H:Hp):List Addr:=(Qd h.objs.size).filter λa=>(H a).isSome
noncomputable def wo(h:Heap)(H:Hp):Heap:=PySem.W.hideAll h (trk h H)
def zbg(h:Heap)(H:Hp):(wo h H).objs.size=h.objs.size:=PySem.W.hideAll_size _ _
def zfd{h:Heap}{H:Hp}{b:Addr}{o:Obj}(e:h.get? b=some o)(n:H b=none):(wo h H).get? b=some o:=
 PySem.W.hideAll_get _ e λhm=>by
  have q:(H b).isSome=true:=(uW.mp hm).2;rw[n] at q;simp at q
theorem of_hidT{h:Heap}{H:Hp}{b:Addr}{o:Obj}(e:(wo h H).get? b=some o):h.get? b=some o/\H b=none:=by
 have e':h.get? b=some o:=PySem.W.of_hideAll (trk h H) e;refine⟨e',?_⟩
 cases q:H b with
 |none=>rfl
 |some x=>
  have hm:b∈trk h H:=uW.mpr ⟨Qr.mpr (pb e'),by simp[q]⟩
  have z:(wo h H).get? b=none:=PySem.W.hideAll_none (trk h H) hm;rw[z] at e;cases e
noncomputable def allNews(g h:Heap)(L:Addr):List (Addr×Obj):=(Qd h.objs.size).filterMap λa=>if a=L∨(g.get? a).isSome=true then none else(h.get? a).map λo=>(a,o)
noncomputable def rest(g h:Heap)(L d:Addr):List (Addr×Obj):=(allNews g h L).filter λp=>decide (p.1≠d)
structure Mod(K:pF)(mg:Str->Option pB)(base:Heap):Prop where
 kin:K.In base
 glob:base.Ns uV mg
 blt:∃mb,base.Ns Dy mb/\∀x:Str,x≠"__name__"->mb x=Qc x
 nolimit:base.NoLimit
set_option genInjectivity false in
structure Cx where
 prog:pi
 w:uR
 K:pF
 mg:Str->Option pB
 base:Heap
 A:uQ
 N:List Str
 s₀:pC
 H₀:Hp
 env:Env
 outer:List Env
 stack:List Env
 ex:List Addr
 fn:Str->Bool
 calm:Bool
 pn:List (Addr×Obj)
 xe:pB->pC->Prop
noncomputable def frs(l:List Env):List Addr:=l.filterMap (·.frame)
abbrev Cx.fs(X:Cx):List Addr:=frs X.outer
def Vis(sc:Scope)(x:Str):Prop:=sc.names.lookup x=some .local∨sc.names.lookup x=some .cell∨sc.names.lookup x=some .free
def Loc(sc:Scope)(x:Str):Prop:=sc.names.lookup x=some .local∨sc.names.lookup x=some .cell
def Look(env:Env)(h:Heap)(m:Str->Option pB)(x:Str)(u:pB):Prop:=
 (env.kindOf x=some .local/\m x=some u)∨((env.kindOf x=some .cell∨env.kindOf x=some .free)/\∃c,env.cells.lookup x=some c/\h.IsCell c (some u))
structure Cx.Ok(X:Cx):Prop where
 mod:Mod X.K X.mg X.base
 kind:X.env.scope.kind=.function
 glob:X.env.globals=uV
 blt:X.env.builtins=Dy
 above:X.s₀.heap.objs.size<=X.env.locals
 inj:∀x y c,X.env.cells.lookup x=some c->X.env.cells.lookup y=some c->x=y
 has:∀x,(X.env.kindOf x=some .cell∨X.env.kindOf x=some .free)->∃c,X.env.cells.lookup x=some c
 cab:∀x c,X.fn x=true->X.env.cells.lookup x=some c->X.s₀.heap.objs.size<=c
 hd:X.calm=true->X.A.handled=none
 frames:X.A.frames=some X.stack
 stk:X.stack=X.outer∨(X.stack=X.env::X.outer/\X.env.frame=some X.env.locals)
 exf:∀b∈X.ex,b≠X.env.locals/\∀x c,X.env.cells.lookup x=some c->c≠b
 bs:∀b o,X.base.get? b=some o->X.s₀.heap.get? b=some o/\X.H₀ b=none
 bsz:X.base.objs.size<=X.s₀.heap.objs.size
 noex:∀b o,X.base.get? b=some o->b∉X.ex
 exfs:∀b∈X.ex,b∉X.fs
 funs:X.s₀.heap.FunFrames X.base X.outer
 frf:∀b∈X.fs,X.H₀ b=none
structure Inv(X:Cx)(pins:List (Addr×Obj))(σ:List (Option V))(H:Hp)(s:pC):Prop where
 ok:X.Ok
 os:s.os=X.s₀.os
 bare:DR s.gens
 base:Un X.fs X.ex X.H₀ H X.s₀.heap s.heap
 loc:∃m,s.heap.Ns X.env.locals m/\∀(i:Nat)(x:Str)(v:V),X.N[i]?=some x->σ[i]?=some (some v)->Vis X.env.scope x->∃u,zm v u/\Look X.env s.heap m x u
 cell:∀x c,X.env.cells.lookup x=some c->∃v,s.heap.IsCell c v
 free:H X.env.locals=none
 freeC:∀x c,X.env.cells.lookup x=some c->H c=none
 pin:∀p∈X.pn++pins,s.heap.get? p.1=some p.2/\H p.1=none/\p.1≠X.env.locals/\p.1∉X.fs/\∀v,p.2.data≠.cell v
 hok:HOk X.prog X.w H s.heap
 len:σ.length=X.N.length
variable{g':Array GenState}{t':Nat}{ch:List Addr}{M:Model}
section
variable{X:Cx}{pins:List (Addr×Obj)}{σ:List (Option V)}{H H':Hp}{s:pC}{h':Heap}
def Cx.Ok.nofr(ok:X.Ok){b:Addr}{o:Obj}(e:X.base.get? b=some o):b∉X.fs:=λhb=>by
 have:=(ok.funs.mem hb).1;rw[e] at this;cases this
def Inv.bs(I:Inv X pins σ H s):∀b o,X.base.get? b=some o->s.heap.get? b=some o/\H b=none:=λb o e=>
 ⟨I.base.keep b o (I.ok.bs b o e).1 (I.ok.bs b o e).2 (I.ok.nofr e) (I.ok.noex b o e),I.base.free b o (I.ok.bs b o e).1 (I.ok.bs b o e).2 (I.ok.noex b o e)⟩
def Inv.bk(I:Inv X pins σ H s):∀b o,X.base.get? b=some o->s.heap.get? b=some o:=λb o e=>(I.bs b o e).1
def Inv.mod(I:Inv X pins σ H s):Mod X.K X.mg X.base:=I.ok.mod
def Inv.kIn(I:Inv X pins σ H s):X.K.In s.heap:=I.ok.mod.kin.keeps I.bk
def Inv.nolimit(I:Inv X pins σ H s):s.heap.NoLimit:=I.ok.mod.nolimit.keeps I.bk
def Inv.lt(I:Inv X pins σ H s):X.env.locals<s.heap.objs.size:=let⟨_,hn,_⟩:=I.loc;hn.lt
def Inv.sz(I:Inv X pins σ H s):X.s₀.heap.objs.size<=s.heap.objs.size:=uK I.ok.above (uq I.lt)
def Inv.nofs(I:Inv X pins σ H s){a:Addr}(h:s.heap.objs.size<=a):a∉X.fs:=λhb=>by
 obtain⟨_,o,ho,_⟩:=I.ok.funs.mem hb;exact absurd (po (pb ho) (uK I.sz h)) (Ul _)
def Inv.cne(I:Inv X pins σ H s):∀x c,X.env.cells.lookup x=some c->c≠X.env.locals:=λx c e z=>by
 obtain⟨v,o,ho,hd⟩:=I.cell x c e;obtain⟨m,⟨o',es,ep,ho',hd',_⟩,_⟩:=I.loc;rw[z,ho'] at ho;cases ho;rw[hd'] at hd;cases hd
theorem Inv.funs(I:Inv X pins σ H s):s.heap.FunFrames X.base X.outer:=by
 have all:∀(l:List Env),(∀b∈frs l,b∈X.fs)->X.s₀.heap.FunFrames X.base l->s.heap.FunFrames X.base l:=by
  intro l
  induction l with
  |nil=>intro _ _;trivial
  |cons env r ih=>
   intro hs hl;obtain⟨hk,⟨L,o,hf,hn,ho,hd⟩,hr⟩:=hl;have hL:L∈X.fs:=hs L (by unfold frs;rw[Ch,hf];exact pX)
   obtain⟨sl,e⟩:=I.base.slot L o ho (I.ok.frf L hL) hL λz=>I.ok.exfs L z hL;exact⟨hk,⟨L,_,hf,hn,e,hd⟩,ih (λb hb=>hs b (by unfold frs;rw[Ch,hf];exact pY _ hb)) hr⟩
 exact all X.outer (λ_ hb=>hb) I.ok.funs
def Inv.stack(I:Inv X pins σ H s):s.heap.FunFrames X.base X.stack:=by
 rcases I.ok.stk with e|⟨e,hf⟩
 ·rw[e];exact I.funs
 ·rw[e];obtain⟨m,hn,_⟩:=I.loc;refine .cons (by rw[I.ok.kind];decide) hf hn ?_ I.funs
  exact Heap.get?_none_of_le (uK I.ok.bsz I.ok.above)
def Inv.stkSub(I:Inv X pins σ H s):∀b∈frs X.stack,b∈X.env.locals::X.fs:=λb hb=>by
 rcases I.ok.stk with e|⟨e,hf⟩
 ·rw[e] at hb;exact pY _ hb
 ·rw[e] at hb;unfold frs at hb;rw[Ch,hf] at hb;exact hb
def Inv.stkFree(I:Inv X pins σ H s):∀b∈frs X.stack,H b=none:=λb hb=>by
 rcases pR.mp (I.stkSub b hb) with e|hb
 ·rw[e];exact I.free
 ·obtain⟨_,o,ho,_⟩:=I.ok.funs.mem hb;exact I.base.free b o ho (I.ok.frf b hb) λz=>I.ok.exfs b z hb
def Inv.step{d':Drawn}(I:Inv X pins σ H s)
  (hch:∀b∈ch,(b∈X.ex∨X.s₀.heap.objs.size<=b)/\b≠X.env.locals/\(∀x c,X.env.cells.lookup x=some c->c≠b)/\∀p∈X.pn++pins,p.1≠b)
  (keep:∀b o,b≠X.env.locals->b∉X.fs->b∉ch->s.heap.get? b=some o->H b=none->h'.get? b=some o)
  (slot:∀b o,b≠X.env.locals->b∈X.fs->b∉ch->s.heap.get? b=some o->H b=none->∃sl,h'.get? b=some {o with slots:=sl})(free:∀b o,b∉ch->s.heap.get? b=some o->H b=none->H' b=none)
  (there:∀b o,b∉ch->s.heap.get? b=some o->∃o',h'.get? b=some o')
  (tups:∀b xs,H b=some (.tup xs)->H' b=some (.tup xs)) (frzs:∀b o u,H b=some (.frz o u)->H' b=some (.frz o u)) (tbls:∀b ps,H b=some (.tbl ps)->∃more,H' b=some (.tbl (ps++more)))
  (ns:∀m,s.heap.Ns X.env.locals m->h'.Ns X.env.locals m) (hok:HOk X.prog X.w H' h') (hg:DR g'):
  Inv X pins σ H' {s with heap:=h',gens:=g',drawn:=d',toks:=t'}:=by
 have neL:∀b o,X.s₀.heap.get? b=some o->b≠X.env.locals:=λb o e=>uF (po (pb e) I.ok.above);have neC:∀b o,X.s₀.heap.get? b=some o->b∉X.ex->b∉ch:=λb o e hx hb=>by
  rcases(hch b hb).1 with z|z
  ·exact hx z
  ·exact absurd (po (pb e) z) (Ul _)
 have cellK:∀x c,X.env.cells.lookup x=some c->∀v,s.heap.IsCell c v->h'.IsCell c v:=λx c e v⟨o,ho,hd⟩=>by
  have nch:c∉ch:=λz=>(hch c z).2.2.1 x c e rfl
  by_cases hc:c∈X.fs
  ·obtain⟨sl,q⟩:=slot c o (I.cne x c e) hc nch ho (I.freeC x c e);exact⟨_,q,hd⟩
  ·exact⟨o,keep c o (I.cne x c e) hc nch ho (I.freeC x c e),hd⟩
 refine⟨I.ok,I.os,hg,⟨λb o e n hb hx=>?_,λb o e n hb hx=>?_,λb o e n hx=>?_,λb o e hx=>?_,λb xs e=>tups b xs (I.base.tups b xs e),λb o xs e=>frzs b o xs (I.base.frzs b o xs e),λb ps e=>?_⟩,?_,λx c e=>?_,?_,λx c e=>?_,λp hp=>?_,hok,I.len⟩
 ·exact keep b o (neL b o e) hb (neC b o e hx) (I.base.keep b o e n hb hx) (I.base.free b o e n hx)
 ·obtain⟨sl,e1⟩:=I.base.slot b o e n hb hx;obtain⟨sl',e2⟩:=slot b _ (neL b o e) hb (neC b o e hx) e1 (I.base.free b o e n hx);exact⟨sl',e2⟩
 ·obtain⟨o',e1⟩:=I.base.there b o e hx;exact free b o' (neC b o e hx) e1 (I.base.free b o e n hx)
 ·obtain⟨o',e1⟩:=I.base.there b o e hx;exact there b o' (neC b o e hx) e1
 ·obtain⟨m1,e1⟩:=I.base.tbls b ps e;obtain⟨m2,e2⟩:=tbls b _ e1;exact⟨m1++m2,by rw[e2,Array.append_assoc]⟩
 ·obtain⟨m,hn,hl⟩:=I.loc;refine⟨m,ns m hn,λi x v e1 e2 e3=>?_⟩;obtain⟨u,r,l⟩:=hl i x v e1 e2 e3;refine⟨u,r,?_⟩;rcases l with l|⟨k,c,e,z⟩
  ·exact .inl l
  ·exact .inr ⟨k,c,e,cellK x c e _ z⟩
 ·obtain⟨v,z⟩:=I.cell x c e;exact⟨v,cellK x c e v z⟩
 ·obtain⟨m,⟨o,_,_,ho,_⟩,_⟩:=I.loc;exact free _ o (λz=>(hch _ z).2.1 rfl) ho I.free
 ·obtain⟨v,o,ho,hd⟩:=I.cell x c e;exact free c o (λz=>(hch c z).2.2.1 x c e rfl) ho (I.freeC x c e)
 ·obtain⟨e,n,ne,nf,d⟩:=I.pin p hp;have nch:p.1∉ch:=λz=>(hch p.1 z).2.2.2 p hp rfl;exact⟨keep p.1 p.2 ne nf nch e n,free p.1 p.2 nch e n,ne,nf,d⟩
def Inv.un(I:Inv X pins σ H s)(u:Un X.fs [] H H' s.heap h')(hok:HOk X.prog X.w H' h'):Inv X pins σ H' {s with heap:=h',toks:=t'}:=by
 obtain⟨m,⟨o,es,ep,ho,r⟩,_⟩:=id I.loc;obtain⟨sl,hL⟩:=u.any ho I.free (by simp)
 exact I.step (g':=s.gens) (d':=s.drawn) (ch:=[]) (λ_ z=>nomatch z) (λb o _ hb _ e n=>u.keep b o e n hb (by simp)) (λb o _ hb _ e n=>u.slot b o e n hb (by simp)) (λb o _ e n=>u.free b o e n (by simp)) (λb o _ e=>u.there b o e (by simp)) u.tups u.frzs u.tbls (λm' hm=>by
  obtain⟨o',es',ep',ho',r'⟩:=hm;rw[ho] at ho';cases ho';exact⟨_,es',ep',hL,r'⟩) hok I.bare
def Inv.call{d':Drawn}(I:Inv X pins σ H s)(u:Un (frs X.stack) ch H H' s.heap h')(hok:HOk X.prog X.w H' h')(hg:DR g')
  (hch:∀b∈ch,(b∈X.ex∨X.s₀.heap.objs.size<=b)/\b≠X.env.locals/\(∀x c,X.env.cells.lookup x=some c->c≠b)/\∀p∈X.pn++pins,p.1≠b):
  Inv X pins σ H' {s with heap:=h',gens:=g',drawn:=d',toks:=t'}:=by
 obtain⟨m,⟨o,es,ep,ho,r⟩,_⟩:=id I.loc;obtain⟨sl,hL⟩:=u.any ho I.free λz=>(hch _ z).2.1 rfl;exact I.step (ch:=ch) hch (λb o hL hb hc e n=>u.keep b o e n (λz=>(pR.mp (I.stkSub b z)).elim hL hb) hc) (λb o _ _ hc e n=>u.any e n hc) (λb o hc e n=>u.free b o e n hc) (λb o hc e=>u.there b o e hc) u.tups u.frzs u.tbls (λm' hm=>by
  obtain⟨o',es',ep',ho',r'⟩:=hm;rw[ho] at ho';cases ho';exact⟨_,es',ep',hL,r'⟩) hok hg
def Inv.turned{it:Addr}(I:Inv X pins σ H s)(k:∀b o,b≠it->s.heap.get? b=some o->h'.get? b=some o)(hn:H it=none)(hL:it≠X.env.locals)
  (h1:it∈X.ex∨X.s₀.heap.objs.size<=it)(h2:∀x c,X.env.cells.lookup x=some c->c≠it)(h3:∀p∈X.pn++pins,p.1≠it):Inv X pins σ H {s with heap:=h',toks:=t'}:=by
 have nit:∀b u,H b=some u->b≠it:=λb u e z=>by rw[z,hn] at e;cases e
 refine I.step (g':=s.gens) (d':=s.drawn) (ch:=[it]) (λb hb=>?_) (λb o _ _ hc e _=>k b o (λz=>hc (by simp[z])) e) (λb o _ _ hc e _=>⟨o.slots,k b o (λz=>hc (by simp[z])) e⟩) (λ_ _ _ _ n=>n)
  (λb o hc e=>⟨o,k b o (λz=>hc (by simp[z])) e⟩) (λ_ _ e=>e) (λ_ _ _ e=>e) (λb ps e=>⟨#[],by rw[e];simp⟩) (λm hm=>?_) (λb u e=>?_) I.bare
 ·have e:b=it:=by simpa using hb
  subst e;exact⟨h1,hL,h2,h3⟩
 ·obtain⟨o,es,ep,ho,r⟩:=hm;exact⟨o,es,ep,k _ o (gQ hL) ho,r⟩
 ·refine(I.hok b u e).stay (λc v hc q=>k c v ?_ q) (λ_ q=>q) λ_ _ q=>q;rcases hc with z|z
  ·rw[z];exact nit b u e
  ·exact nit c _ z
def Inv.tok(I:Inv X pins σ H s)(t:Nat):Inv X pins σ H {s with toks:=t}:=I.un (h':=s.heap) (t':=t) Un.refl I.hok
def Inv.kept(I:Inv X pins σ H s)(k:∀b u,s.heap.get? b=some u->h'.get? b=some u):Inv X pins σ H {s with heap:=h',toks:=t'}:=I.un (Un.kept k) (I.hok.kept k)
def Inv.laid{a:Addr}{o:HO}(I:Inv X pins σ H s)(k:∀b u,s.heap.get? b=some u->h'.get? b=some u)(hp:s.heap.objs.size<=a)(new:yf X.prog X.w (upd H a o) h' a o):
  Inv X pins σ (upd H a o) {s with heap:=h',toks:=t'}:=I.un (Un.laid k hp (I.hok.fresh hp)) (I.hok.laid k hp new)
def Inv.write{x e:Addr}{o:HO}(I:Inv X pins σ H s)(mu:Mut (H x))(he:e=x∨H e=some (.own x))(k:∀b u,b≠e->s.heap.get? b=some u->h'.get? b=some u)(heo:∃u,h'.get? e=some u)
  (new:yf X.prog X.w (upd H x o) h' x o):Inv X pins σ (upd H x o) {s with heap:=h',toks:=t'}:=I.un (Un.write mu he k heo) (I.hok.write mu he k heo new)
def Inv.pins_of{pins':List (Addr×Obj)}(I:Inv X pins σ H s)(h:∀p∈pins',s.heap.get? p.1=some p.2/\H p.1=none/\p.1≠X.env.locals/\p.1∉X.fs/\∀v,p.2.data≠.cell v):Inv X pins' σ H s:=
 ⟨I.ok,I.os,I.bare,I.base,I.loc,I.cell,I.free,I.freeC,λp hp=>(pP.mp hp).elim (λz=>I.pin p (uD _ z)) (h p),I.hok,I.len⟩
variable{x:Str}{i:Nat}
def VP{N:List Str}(hN:N.Nodup){j:Nat}(a:N[i]?=some x)(b:N[j]?=some x):i=j:=by
 obtain⟨h1,e1⟩:=pD.mp a;obtain⟨h2,e2⟩:=pD.mp b;exact(GA hN).mp (e1.trans e2.symm)
variable{E:pB->pC->Prop}{Q:Unit->pC->Prop}
theorem zaw{A:uQ}{v:V}{u:pB}(I:Inv X pins σ H s)(hN:X.N.Nodup)(hi:X.N[i]?=some x)(hx:Loc X.env.scope x)(r:zm v u)
  (h:∀s',Inv X pins (σ.set i (some v)) H s'->(∃a,Ac a s.heap s'.heap/\(a=X.env.locals∨X.env.cells.lookup x=some a))->Q () s')(hf:X.fn x=true∨X.env.scope.names.lookup x=some .local:=by first|exact .inl rfl|exact .inr rfl|assumption):wpAny M A (storeName X.env x u) Q E s:=by
 obtain⟨m,hn,hl⟩:=id I.loc;have hcls:(X.env.scope.kind==.class||(X.env.scope.kind==.module&&X.env.locals !=X.env.globals))=false:=by rw[I.ok.kind];rfl
 have hiσ:i<σ.length:=by rw[I.len];exact(pD.mp hi).1
 have cne:=I.cne;have tracked:∀{a:Addr}{h':Heap},(∃o,s.heap.get? a=some o/\H a=none)->Ac a s.heap h'->HOk X.prog X.w H h':=λ{a h'} ha hs b ob e=>by
  obtain⟨_,_,hfree⟩:=ha;refine(I.hok b ob e).stay (λc w' hc q=>(hs.2 c ?_).trans q) (λ_ q=>q) λ_ _ q=>q;rintro rfl;rcases hc with rfl|hc
  ·rw[hfree] at e;cases e
  ·rw[hfree] at hc;cases hc
 rcases hx with hk|hk
 ·refine wpAny_storeName_local hk hn (λh' hn' hs=>?_) hcls;obtain⟨oL,_,_,hoL,_⟩:=id hn;refine h _ ⟨I.ok,I.os,I.bare,⟨λb o e n hb hx=>?_,λb o e n hb hx=>?_,I.base.free,λb o e hx=>?_,I.base.tups,I.base.frzs,I.base.tbls⟩,⟨_,hn',λj y v' e1 e2 e3=>?_⟩,λy c e=>?_,I.free,I.freeC,λp hp=>?_,tracked ⟨oL,hoL,I.free⟩ hs,by simpa using I.len⟩ ⟨_,hs,.inl rfl⟩
  ·exact(hs.2 b (uF (po (pb e) I.ok.above))).trans (I.base.keep b o e n hb hx)
  ·obtain⟨sl,e1⟩:=I.base.slot b o e n hb hx;exact⟨sl,(hs.2 b (uF (po (pb e) I.ok.above))).trans e1⟩
  ·obtain⟨o',e1⟩:=I.base.there b o e hx;exact⟨o',(hs.2 b (uF (po (pb e) I.ok.above))).trans e1⟩
  ·by_cases hj:j=i
   ·subst hj;rw[hi] at e1;cases e1;rw[Um hiσ] at e2
    cases e2;exact⟨u,r,.inl ⟨hk,by simp⟩⟩
   ·rw[hU (gQ hj)] at e2;obtain⟨u',r',q⟩:=hl j y v' e1 e2 e3;refine⟨u',r',?_⟩;rcases q with⟨k,e⟩|⟨k,c,e,z⟩
    ·refine .inl ⟨k,?_⟩;have:y≠x:=λe=>hj (VP hN e1 (e▸hi))
     simp[this,e]
    ·exact .inr ⟨k,c,e,z.sameBut hs (cne y c e)⟩
  ·obtain⟨w',z⟩:=I.cell y c e;exact⟨w',z.sameBut hs (cne y c e)⟩
  ·obtain⟨e,n,ne,nf,d⟩:=I.pin p hp;exact⟨(hs.2 p.1 ne).trans e,n,ne,nf,d⟩
 ·have hfn:X.fn x=true:=by
   rcases hf with z|z
   ·exact z
   ·rw[z] at hk;cases hk
  obtain⟨c,hc⟩:=I.ok.has x (.inl hk);obtain⟨w',z⟩:=I.cell x c hc;refine wpAny_storeName_cell I.ok.kind hk hc z (λh' hc' hs=>?_);obtain⟨oc,hoc,hocd⟩:=id z;refine h {s with heap:=h'} ⟨I.ok,I.os,I.bare,⟨λb o e n hb hx=>?_,λb o e n hb hx=>?_,I.base.free,λb o e hx=>?_,I.base.tups,I.base.frzs,I.base.tbls⟩,⟨m,hn.sameBut hs (gQ (cne x c hc)),λj y v' e1 e2 e3=>?_⟩,λy c' e=>?_,I.free,I.freeC,λp hp=>?_,tracked ⟨oc,hoc,I.freeC x c hc⟩ hs,by simpa using I.len⟩ ⟨c,hs,.inr hc⟩
  ·exact(hs.2 b (uF (po (pb e) (I.ok.cab x c hfn hc)))).trans (I.base.keep b o e n hb hx)
  ·obtain⟨sl,e1⟩:=I.base.slot b o e n hb hx;exact⟨sl,(hs.2 b (uF (po (pb e) (I.ok.cab x c hfn hc)))).trans e1⟩
  ·obtain⟨o',e1⟩:=I.base.there b o e hx;exact⟨o',(hs.2 b (uF (po (pb e) (I.ok.cab x c hfn hc)))).trans e1⟩
  ·by_cases hj:j=i
   ·subst hj;rw[hi] at e1;cases e1;rw[Um hiσ] at e2
    cases e2;exact⟨u,r,.inr ⟨.inl hk,c,hc,hc'⟩⟩
   ·rw[hU (gQ hj)] at e2;obtain⟨u',r',q⟩:=hl j y v' e1 e2 e3;refine⟨u',r',?_⟩;rcases q with q|⟨k,c',e,z'⟩
    ·exact .inl q
    ·refine .inr ⟨k,c',e,z'.sameBut hs ?_⟩;rintro rfl;exact hj (VP hN e1 (I.ok.inj _ _ _ e hc▸hi))
  ·by_cases hcc:c'=c
   ·subst hcc;exact⟨_,hc'⟩
   ·obtain⟨w2,z2⟩:=I.cell y c' e;exact⟨w2,z2.sameBut hs hcc⟩
  ·obtain⟨e,n,ne,nf,d⟩:=I.pin p hp;refine⟨(hs.2 p.1 ?_).trans e,n,ne,nf,d⟩;intro q;rw[q,hoc] at e;have q':oc=p.2:=uN e;exact d w' (by rw[←q'];exact hocd)
theorem qe{A:uQ}{v:V}{u:pB}(I:Inv X pins σ H s)(hN:X.N.Nodup)(hi:X.N[i]?=some x)(hx:Loc X.env.scope x)(r:zm v u)
  (h:∀s',Inv X pins (σ.set i (some v)) H s'->Q () s')(hf:X.fn x=true∨X.env.scope.names.lookup x=some .local:=by first|exact .inl rfl|exact .inr rfl|assumption):wpAny M A (storeName X.env x u) Q E s:=
 zaw I hN hi hx r (λs' I' _=>h s' I') hf
def Inv.call'{s':pC}(I:Inv X pins σ H s)(ho:s'.os=s.os)(u:Un (frs X.stack) ch H H' s.heap s'.heap)(hok:HOk X.prog X.w H' s'.heap)(hg:DR s'.gens)
  (hch:∀b∈ch,(b∈X.ex∨X.s₀.heap.objs.size<=b)/\b≠X.env.locals/\(∀x c,X.env.cells.lookup x=some c->c≠b)/\∀p∈X.pn++pins,p.1≠b):Inv X pins σ H' s':=by
 obtain⟨h',g',d',t',o'⟩:=s';have e:o'=s.os:=ho;subst e;exact I.call (g':=g') (t':=t') (d':=d') u hok hg hch
end
abbrev XK:=pB->Option Addr->Hp->Prop
abbrev St:=List (Option V)
abbrev VK:=V->Hp->Prop
abbrev TE:=St->Hp->VK->Prop
abbrev TT:=St->Hp->(Bool->Hp->Prop)->Prop
abbrev TA:=St->Hp->(List V->Hp->Prop)->Prop
structure Ends where
 nx:St->Hp->Prop
 rt:VK
 bk:St->Hp->Prop:=λ_ _=>False
 ct:St->Hp->Prop:=λ_ _=>False
abbrev TS:=Ends->St->Hp->Prop
def EP(X:Cx)(pins:List (Addr×Obj))(σ:St)(Q:VK)(u:pB)(s':pC):Prop:=∃v H',Inv X pins σ H' s'/\zm v u/\Q v H'
def TP(X:Cx)(pins:List (Addr×Obj))(σ:St)(Q:Bool->Hp->Prop)(b:Bool)(s':pC):Prop:=∃H',Inv X pins σ H' s'/\Q b H'
def AP(X:Cx)(pins:List (Addr×Obj))(σ:St)(Q:List V->Hp->Prop)(us:List pB)(s':pC):Prop:=∃vs H',Inv X pins σ H' s'/\zn vs us/\Q vs H'
def SP(X:Cx)(pins:List (Addr×Obj))(D:Ends)(f:Flow)(s':pC):Prop:=
 match f with
 |.next=>∃σ' H',Inv X pins σ' H' s'/\D.nx σ' H'
 |.brk=>∃σ' H',Inv X pins σ' H' s'/\D.bk σ' H'
 |.cont=>∃σ' H',Inv X pins σ' H' s'/\D.ct σ' H'
 |.ret u=>∃v σ' H',Inv X pins σ' H' s'/\zm v u/\D.rt v H'
def PE(X:Cx)(e:Expr)(t:TE):Prop:=
 ∀(pins:List (Addr×Obj))(s:pC)(σ:St)(H:Hp)(Q:VK),Inv X pins σ H s->t σ H Q->wpAny (model X.prog X.w) X.A (eval e X.env) (EP X pins σ Q) X.xe s
def PT(X:Cx)(e:Expr)(t:TT):Prop:=
 ∀(pins:List (Addr×Obj))(s:pC)(σ:St)(H:Hp)(Q:Bool->Hp->Prop),Inv X pins σ H s->t σ H Q->wpAny (model X.prog X.w) X.A (isTrue e X.env (eval e X.env)) (TP X pins σ Q) X.xe s
def PW(X:Cx)(e:Expr)(t:TT):Prop:=
 ∀(whole:Sem pB)(pins:List (Addr×Obj))(s:pC)(σ:St)(H:Hp)(Q:Bool->Hp->Prop),Inv X pins σ H s->t σ H Q->wpAny (model X.prog X.w) X.A (isTrue e X.env whole) (TP X pins σ Q) X.xe s
def PW.pt{X:Cx}{e:Expr}{t:TT}(h:PW X e t):PT X e t:=h _
def PA(X:Cx)(es:List Expr)(t:TA):Prop:=
 ∀(pos:Pos)(pins:List (Addr×Obj))(s:pC)(σ:St)(H:Hp)(Q:List V->Hp->Prop),Inv X pins σ H s->t σ H Q->wpAny (model X.prog X.w) X.A (spliced (Ad pos (ur es X.env))) (AP X pins σ Q) X.xe s
def PS(X:Cx)(st:Stmt)(t:TS):Prop:=
 ∀(pins:List (Addr×Obj))(s:pC)(σ:St)(H:Hp)(D:Ends),Inv X pins σ H s->t D σ H->wpAny (model X.prog X.w) X.A (exec st X.env) (SP X pins D) X.xe s
def PSs(X:Cx)(st:List Stmt)(t:TS):Prop:=
 ∀(pins:List (Addr×Obj))(s:pC)(σ:St)(H:Hp)(D:Ends),Inv X pins σ H s->t D σ H->wpAny (model X.prog X.w) X.A (execs st X.env) (SP X pins D) X.xe s
def thn{α:Type}{t:Sem α}{Q Q':α->pC->Prop}{A:uQ}{E:pB->pC->Prop}{s:pC}(h:wpAny M A t Q E s)(hQ:∀a s,Q a s->Q' a s):wpAny M A t Q' E s:=Qe h hQ λ_ _ x=>x
variable{c:Expr}
section
variable{X:Cx}
def tVar(i:Nat):TE:=λσ H Q=>∃v,σ[i]?=some (some v)/\Q v H
def tC(v:V):TE:=λ_ H Q=>Q v H
def ZC{i:Nat}{x:Str}{pos:Pos}(hN:X.N[i]?=some x)(hv:Vis X.env.scope x)(hd:(x==("__debug__":Str))=false:=by decide)(hcd:(x==("__classdict__":Str))=false:=by decide):PE X (.Name x pos) (tVar i):=by
 intro pins s σ H Q I h;obtain⟨v,e,h⟩:=h;obtain⟨m,hn,hl⟩:=I.loc;obtain⟨u,r,l⟩:=hl i x v hN e hv;have fin:EP X pins σ Q u s:=⟨v,H,I,r,h⟩;rcases l with⟨hk,hm⟩|⟨hk,c,hc,hcell⟩
 ·exact Gm (wpAny_loadName_local I.ok.kind hk hn hm fin) hd
 ·rcases hk with hk|hk
  ·exact Gm (wpAny_loadName_cell I.ok.kind hk hc hcell fin) hd
  ·exact Gm (wpAny_loadName_free I.ok.kind hk hc hcell fin hcd) hd
def za{i j pos}:PE X (.Constant (.int i) j pos) (tC (.int i)):=λ_ _ _ H _ I h=>wpAny_Constant_int ⟨.int i,H,I.tok _,⟨_,rfl⟩,h⟩
def xf{b j pos}:PE X (.Constant (.bool b) j pos) (tC (.bl b)):=λ_ _ _ H _ I h=>Constant_bool ⟨.bl b,H,I,rfl,h⟩
def qg{j pos}:PE X (.Constant .none j pos) (tC .non):=λ_ _ _ H _ I h=>Constant_none ⟨.non,H,I,rfl,h⟩
def jV{x j pos}:PE X (.Constant (.str x) j pos) (tC (.str x)):=λ_ _ _ H _ I h=>Calls.Constant_str ⟨.str x,H,I.tok _,⟨_,rfl⟩,h⟩
def Gl(X:Cx)(x:Str):Prop:=X.env.kindOf x=some .globalImplicit
variable{x:Str}{E Q:pB->pC->Prop}{pins:List (Addr×Obj)}{u:pB}
def ld_glob{s:pC}{σ:St}{H:Hp}{pos:Pos}(I:Inv X pins σ H s)(hg:Gl X x)(hm:X.mg x=some u)(h:Q u s)
  (hd:(x==("__debug__":Str))=false:=by decide):wpAny (model X.prog X.w) X.A (eval (.Name x pos) X.env) Q E s:=
 Cq I.ok.kind hg (Calls.loadGlobal_global (by rw[I.ok.glob];exact I.mod.glob.keeps I.bk) hm h) hd
def xG{s:pC}{σ:St}{H:Hp}{pos:Pos}(I:Inv X pins σ H s)(hg:Gl X x)(hm:X.mg x=none)(hv:Qc x=some u)(h:Q u s)
  (hn:x≠"__name__":=by decide)(hd:(x==("__debug__":Str))=false:=by decide):wpAny (model X.prog X.w) X.A (eval (.Name x pos) X.env) Q E s:=by
 obtain⟨mb,h1,h2⟩:=I.mod.blt;exact Cq I.ok.kind hg (Calls.loadGlobal_builtin (by rw[I.ok.glob];exact I.mod.glob.keeps I.bk) hm (by rw[I.ok.blt];exact h1.keeps I.bk) ((h2 x hn).trans hv) h) hd
def wK{v:V}{pos:Pos}(hg:Gl X x)(hm:X.mg x=none)(hv:Qc x=some u)(r:zm v u)(hn:x≠"__name__":=by decide)(hd:(x==("__debug__":Str))=false:=by decide):PE X (.Name x pos) (tC v):=
 λ_ _ _ H _ I h=>xG I hg hm hv ⟨v,H,I,r,h⟩ hn hd
variable{a b:Expr}{ta tb:TE}{pos:Pos}
def PC(X:Cx)(op:CmpOp)(a b:Expr)(t:TE):Prop:=
 ∀(pins:List (Addr×Obj))(s:pC)(σ:St)(H:Hp)(Q:VK),Inv X pins σ H s->t σ H Q->
  wpAny (model X.prog X.w) X.A (eval a X.env) (λv s₁=>wpAny (model X.prog X.w) X.A (eval b X.env) (λu s₂=>wpAny (model X.prog X.w) X.A (UZ op v u) (EP X pins σ Q) X.xe s₂) X.xe s₁) X.xe s
def tB(t:TE):TT:=λσ H Q=>t σ H λx H1=>∃c,x=.bl c/\Q c H1
variable{t:TE}
def YF{op:CmpOp}(h:PC X op a b t)(h1:CN op b=false:=by first|exact nobehind _ (by decide) (by decide)|rfl):PT X (.Compare a [op] [b] pos) (tB t):=by
 intro pins s σ H Q I hw;refine EV (thn (h pins s σ H _ I hw) λv s1 h1=>thn h1 λu s2 h2=>thn h2 λc s3⟨x,H1,I1,r1,q1⟩=>?_) h1;obtain⟨d,rfl,q⟩:=q1
 cases r1;exact Uo ⟨H1,I1,q⟩
def yE{e:Expr}(h:PE X e t)(he:∀whole,isTrue e X.env whole=(do let v ←whole;standAt e.pos;holding [v] (truthy v)):=by intro _;rfl):PT X e (tB t):=by
 intro pins s σ H Q I hw;refine isTrue_plain (thn (h pins s σ H _ I hw) λv s1⟨x,H1,I1,r1,q1⟩=>?_) (he _);obtain⟨d,rfl,q⟩:=q1
 cases r1;exact Uo ⟨H1,I1,q⟩
variable{tA tB':TT}{rest:List Expr}
def qf(t u:TT):TT:=λσ H Q=>t σ H λc H1=>if c=true then u σ H1 Q else Q false H1
def tOr(t u:TT):TT:=λσ H Q=>t σ H λc H1=>if c=true then Q true H1 else u σ H1 Q
def jg(t:TT):TT:=λσ H Q=>t σ H λc H1=>Q (!c) H1
theorem XI(ha:PT X a tA):PW X (.BoolOp .And [a] pos) tA:=by
 intro wh pins s σ H Q I h;refine isTrue_and (thn (ha pins s σ H Q I h) λc s1 e=>?_)
 cases c with
 |true=>exact isTrue_and_nil e
 |false=>exact e
theorem wx(ha:PT X a tA):PW X (.BoolOp .Or [a] pos) tA:=by
 intro wh pins s σ H Q I h;refine isTrue_or (thn (ha pins s σ H Q I h) λc s1 e=>?_)
 cases c with
 |false=>exact isTrue_or_nil e
 |true=>exact e
theorem WN(ha:PT X a tA)(hb:PW X (.BoolOp .And (b::rest) pos) tB'):PW X (.BoolOp .And (a::b::rest) pos) (qf tA tB'):=by
 intro wh pins s σ H Q I h;refine isTrue_and (thn (ha pins s σ H _ I h) λc s1⟨H1,I1,q1⟩=>?_)
 cases c with
 |true=>exact hb wh pins s1 σ H1 Q I1 q1
 |false=>exact⟨H1,I1,q1⟩
theorem xj(ha:PT X a tA)(hb:PW X (.BoolOp .Or (b::rest) pos) tB'):PW X (.BoolOp .Or (a::b::rest) pos) (tOr tA tB'):=by
 intro wh pins s σ H Q I h;refine isTrue_or (thn (ha pins s σ H _ I h) λc s1⟨H1,I1,q1⟩=>?_)
 cases c with
 |true=>exact⟨H1,I1,q1⟩
 |false=>exact hb wh pins s1 σ H1 Q I1 q1
def xb(ha:PT X a tA):PT X (.UnaryOp .Not a pos) (jg tA):=by
 intro pins s σ H Q I h;exact isTrue_not (ha pins s σ H (λc H1=>Q (!c) H1) I h)
def jR(ta tb:TE):TE:=λσ H Q=>ta σ H λx H1=>∃c,x=.bl c/\if c=true then tb σ H1 Q else Q (.bl false) H1
def tOrV(ta tb:TE):TE:=λσ H Q=>ta σ H λx H1=>∃c,x=.bl c/\if c=true then Q (.bl true) H1 else tb σ H1 Q
def j9(ta:TE):TE:=λσ H Q=>ta σ H λx H1=>∃c,x=.bl c/\Q (.bl (!c)) H1
def qR{op}(h:PE X a t):PE X (.BoolOp op [a] pos) t:=λpins s σ H Q I hw=>BoolOp_one (h pins s σ H Q I hw)
theorem qm(ha:PE X a ta)(hb:PE X (.BoolOp .And (b::rest) pos) tb):PE X (.BoolOp .And (a::b::rest) pos) (jR ta tb):=by
 intro pins s σ H Q I h;refine BoolOp_and (thn (ha pins s σ H _ I h) λv s1⟨x,H1,I1,r1,q1⟩=>?_);obtain⟨c,rfl,q1⟩:=q1
 cases r1;refine Uo ?_
 cases c with
 |true=>exact hb pins s1 σ H1 Q I1 q1
 |false=>exact⟨.bl false,H1,I1,rfl,q1⟩
def Yo(ha:PE X a ta):PE X (.UnaryOp .Not a pos) (j9 ta):=by
 intro pins s σ H Q I h;refine UnaryOp_ (thn (ha pins s σ H _ I h) λv s1⟨x,H1,I1,r1,q1⟩=>?_);obtain⟨c,rfl,q1⟩:=q1
 cases r1;exact not_of (Uo ⟨.bl (!c),H1,I1,rfl,q1⟩)
def tIf(t:TT)(ta tb:TE):TE:=λσ H Q=>t σ H λc H1=>if c=true then ta σ H1 Q else tb σ H1 Q
theorem Vf(hc:PT X c tA)(ha:PE X a ta)(hb:PE X b tb):PE X (.IfExp c a b pos) (tIf tA ta tb):=by
 intro pins s σ H Q I h;refine wpAny_IfExp (thn (hc pins s σ H _ I h) λd s1⟨H1,I1,q1⟩=>?_)
 cases d with
 |true=>exact ha pins s1 σ H1 Q I1 q1
 |false=>exact hb pins s1 σ H1 Q I1 q1
end
def SqL(K:pF)(H:Hp)(a:Addr)(xs:List V):Prop:=
 Rd H a (.lst xs)∨
  ∃(o:Obj)(its:Array pB)(n:Nat),K.lookup a=some o/\o.cls=.type "list"/\o.dict=none/\o.data=.seq its n/\its.size<=sizeLine/\zn xs its.toList
def SqT(K:pF)(H:Hp)(a:Addr)(xs:List V):Prop:=
 Rd H a (.tup xs)∨
  ∃(o:Obj)(its:Array pB)(n:Nat),K.lookup a=some o/\o.cls=.type "tuple"/\o.data=.seq its n/\its.size<=sizeLine/\zn xs its.toList
noncomputable def absV:pB->Option V
 |.none=>some .non
 |.bool b=>some (.bl b)
 |.int i _=>some (.int i)
 |.str x _=>some (.str x)
 |.bytes b _=>some (.byt b)
 |.float b _=>some (.flt b)
 |.ref a=>some (.ref a)
 |.type n=>some (.ty n)
 |_=>none
theorem zm.abs{x:V}{u:pB}(r:zm x u):absV u=some x:=by
 cases x with
 |non=>cases r;rfl
 |bl _=>cases r;rfl
 |int _=>obtain⟨t,rfl⟩:=r;rfl
 |str _=>obtain⟨t,rfl⟩:=r;rfl
 |byt _=>obtain⟨t,rfl⟩:=r;rfl
 |flt _=>obtain⟨t,rfl⟩:=r;rfl
 |ref _=>cases r;rfl
 |ty _=>cases r;rfl
def zm.inj{x y:V}{u:pB}(r:zm x u)(q:zm y u):x=y:=uN (r.abs.symm.trans q.abs)
theorem zn.inj:∀{xs ys:List V}{us:List pB},zn xs us->zn ys us->xs=ys
 |_,_,_,.nil,.nil=>rfl
 |_,_,_,.cons r t,.cons r' t'=>by rw[r.inj r',zn.inj t t']
section
variable{X:Cx}{pins:List (Addr×Obj)}{σ:St}{H:Hp}{s:pC}{a:Addr}{xs ys:List V}
def SqL.of{K:pF}(h:H a=some (.lst xs)):SqL K H a xs:=.inl (.inl h)
def SqT.of{K:pF}(h:H a=some (.tup xs)):SqT K H a xs:=.inl (.inl h)
theorem Inv.list(I:Inv X pins σ H s)(h:SqL X.K H a xs):∃its:List pB,zn xs its/\PlainL s.heap a its.toArray/\xs.length<=sizeLine:=by
 rcases h with h|⟨o,its,n,hk,hc,hd,hs,hz,r⟩
 ·obtain⟨z,its,n,r,e⟩:=h.ok I.hok;exact⟨its,r,⟨_,n,e,rfl,rfl,rfl⟩,z⟩
 ·refine⟨its.toList,r,⟨o,n,I.kIn a o hk,hc,hd,by simpa using hs⟩,?_⟩
  have e:=r.length;simp only[pT] at e;lia
theorem Inv.tuple(I:Inv X pins σ H s)(h:SqT X.K H a xs):∃its:List pB,zn xs its/\IsTup s.heap a its.toArray/\xs.length<=sizeLine:=by
 rcases h with h|⟨o,its,n,hk,hc,hs,hz,r⟩
 ·obtain⟨z,its,r,p⟩:=h.ok I.hok;exact⟨its,r,p,z⟩
 ·refine⟨its.toList,r,⟨o,I.kIn a o hk,hc,n,by simpa using hs⟩,?_⟩
  have e:=r.length;simp only[pT] at e;lia
def Inv.list_inj(I:Inv X pins σ H s)(h:SqL X.K H a xs)(h':SqL X.K H a ys):xs=ys:=by
 obtain⟨its,r,⟨o,n,e,_,_,d⟩,_⟩:=I.list h;obtain⟨its',r',⟨o',n',e',_,_,d'⟩,_⟩:=I.list h';rw[e] at e';cases e';rw[d] at d'
 injection d' with d1 _
 have:its=its':=by simpa using congrArg HZ d1
 subst this;exact r.inj r'
def Inv.tuple_inj(I:Inv X pins σ H s)(h:SqT X.K H a xs)(h':SqT X.K H a ys):xs=ys:=by
 obtain⟨its,r,⟨o,e,_,n,d⟩,_⟩:=I.tuple h;obtain⟨its',r',⟨o',e',_,n',d'⟩,_⟩:=I.tuple h';rw[e] at e';cases e';rw[d] at d'
 injection d' with d1 _
 have:its=its':=by simpa using congrArg HZ d1
 subst this;exact r.inj r'
end
abbrev Cx.wish(X:Cx)(E:pB->pC->Prop):Cx:={X with xe:=E}
abbrev Cx.nox(X:Cx):Cx:=X.wish λ_ _=>False
def Cx.Ok.wish{X:Cx}(ok:X.Ok)(E:pB->pC->Prop):(X.wish E).Ok:=
 ⟨ok.mod,ok.kind,ok.glob,ok.blt,ok.above,ok.inj,ok.has,ok.cab,ok.hd,ok.frames,ok.stk,ok.exf,ok.bs,ok.bsz,ok.noex,ok.exfs,ok.funs,ok.frf⟩
def Cx.Ok.unwish{X:Cx}{E:pB->pC->Prop}(ok:(X.wish E).Ok):X.Ok:=
 ⟨ok.mod,ok.kind,ok.glob,ok.blt,ok.above,ok.inj,ok.has,ok.cab,ok.hd,ok.frames,ok.stk,ok.exf,ok.bs,ok.bsz,ok.noex,ok.exfs,ok.funs,ok.frf⟩
section
variable{X:Cx}{pins:List (Addr×Obj)}{σ:St}{H:Hp}{s:pC}{E:pB->pC->Prop}
def Inv.wish(I:Inv X pins σ H s)(E:pB->pC->Prop):Inv (X.wish E) pins σ H s:=⟨I.ok.wish E,I.os,I.bare,I.base,I.loc,I.cell,I.free,I.freeC,I.pin,I.hok,I.len⟩
def Inv.unwish(I:Inv (X.wish E) pins σ H s):Inv X pins σ H s:=⟨I.ok.unwish,I.os,I.bare,I.base,I.loc,I.cell,I.free,I.freeC,I.pin,I.hok,I.len⟩
theorem SP.unwish{D:Ends}{f:Flow}{s':pC}(h:SP (X.wish E) pins D f s'):SP X pins D f s':=by
 cases f with
 |next=>obtain⟨σ',H',I,q⟩:=h;exact⟨σ',H',I.unwish,q⟩
 |brk=>obtain⟨σ',H',I,q⟩:=h;exact⟨σ',H',I.unwish,q⟩
 |cont=>obtain⟨σ',H',I,q⟩:=h;exact⟨σ',H',I.unwish,q⟩
 |ret u=>obtain⟨v,σ',H',I,r,q⟩:=h;exact⟨v,σ',H',I.unwish,r,q⟩
def PSs.nox{st:List Stmt}{t:TS}(h:PSs X.nox st t):PSs X st t:=λpins s σ H D I hw=>
 Qe (h pins s σ H D (I.wish _) hw) (λ_ _ q=>q.unwish) λ_ _ z=>UH z
end
section
variable{X:Cx}{st:Stmt}{rest:List Stmt}{t u:TS}{e:Expr}{te:TE}{pos:Pos}
def qi:TS:=λD σ H=>D.nx σ H
def zC(t u:TS):TS:=λD σ H=>t {D with nx:=u D} σ H
def zL:PSs X [] qi:=λ_ _ σ H _ I h=>CY ⟨σ,H,I,h⟩
theorem zD(h1:PS X st t)(h2:PSs X rest u):PSs X (st::rest) (zC t u):=by
 intro pins s σ H D I h;refine GB (thn (h1 pins s σ H {D with nx:=u D} I h) λf s1 q=>?_)
 cases f with
 |next=>
  obtain⟨σ',H',I',q⟩:=q;exact h2 pins s1 σ' H' D I' q
 |ret v=>exact q
 |brk=>exact q
 |cont=>exact q
theorem zq(h1:PS X st t):PSs X [st] t:=by
 intro pins s σ H D I h;refine GB (thn (h1 pins s σ H D I h) λf s1 q=>?_)
 cases f with
 |next=>exact CY q
 |ret v=>exact q
 |brk=>exact q
 |cont=>exact q
def Inv.quiet{pins:List (Addr×Obj)}{σ:St}{H:Hp}{s:pC}(I:Inv X pins σ H s):interactive X.env=false:=by simp[interactive,I.ok.kind]
def jN(te:TE):TS:=λD σ H=>te σ H λ_ H1=>D.nx σ H1
def xk(he:PE X e te)(hs:Di e none pos.line X.env=pure false:=by rfl):PS X (.Expr e pos) (jN te):=by
 intro pins s σ H D I h;exact wpAny_Expr_any (thn (he pins s σ H _ I h) λv s1⟨x,H1,I1,r1,q1⟩=>⟨σ,H1,I1,q1⟩) I.quiet hs
def jt(te:TE):TS:=λD σ H=>te σ H D.rt
def zo(he:PE X e te):PS X (.Return (some e) pos) (jt te):=by
 intro pins s σ H D I h;exact wpAny_Return_some (thn (he pins s σ H _ I h) λv s1⟨x,H1,I1,r1,q1⟩=>⟨x,σ,H1,I1,r1,q1⟩)
def Y9:TS:=λD _ H=>D.rt .non H
def qh(c:TT)(t u:TS):TS:=λD σ H=>c σ H λb H1=>if b=true then t D σ H1 else u D σ H1
theorem zK{a b:List Stmt}{tc:TT}(hc:PT X c tc)(ha:PSs X a t)(hb:PSs X b u):PS X (.If c a b pos) (qh tc t u):=by
 intro pins s σ H D I h;refine wpAny_If (thn (hc pins s σ H _ I h) λd s1⟨H1,I1,q1⟩=>?_)
 cases d with
 |true=>exact ha pins s1 σ H1 D I1 q1
 |false=>exact hb pins s1 σ H1 D I1 q1
def tNever:TS:=λ_ _ _=>False
def za0:PS X st tNever:=λ_ _ _ _ _ _ h=>h.elim
end
abbrev TG:=V->St->Hp->(St->Hp->Prop)->Prop
abbrev TGs:=List V->St->Hp->(St->Hp->Prop)->Prop
def PG(X:Cx)(target:Expr)(t:TG):Prop:=
 ∀(pins:List (Addr×Obj))(s:pC)(σ:St)(H:Hp)(v:V)(u:pB)(Q:St->Hp->Prop),Inv X pins σ H s->zm v u->t v σ H Q->
  wpAny (model X.prog X.w) X.A (assign target X.env u) (λ_ s'=>∃σ' H',Inv X pins σ' H' s'/\Q σ' H') X.xe s
def PGs(X:Cx)(ts:List Expr)(t:TGs):Prop:=
 ∀(pins:List (Addr×Obj))(s:pC)(σ:St)(H:Hp)(vs:List V)(us:List pB)(Q:St->Hp->Prop),Inv X pins σ H s->zn vs us->t vs σ H Q->
  wpAny (model X.prog X.w) X.A (FE ((BV ts X.env).map (·.2)) us) (λ_ s'=>∃σ' H',Inv X pins σ' H' s'/\Q σ' H') X.xe s
abbrev TSet:=V->V->V->Hp->(Hp->Prop)->Prop
def PSet(X:Cx)(t:TSet):Prop:=
 ∀(pins:List (Addr×Obj))(s:pC)(σ:St)(H:Hp)(o i v:V)(ov iv u:pB)(Q:Hp->Prop),Inv X pins σ H s->zm o ov->zm i iv->zm v u->t o i v H Q->
  wpAny (model X.prog X.w) X.A (setItem ov iv u) (λ_ s'=>∃H',Inv X pins σ H' s'/\Q H') X.xe s
variable{n:Nat}{g:TG}
section
variable{X:Cx}{pos:Pos}
def gName(i:Nat):TG:=λv σ H Q=>Q (σ.set i (some v)) H
variable{i:Nat}{x:Str}
theorem pg_name(hN:X.N.Nodup)(hi:X.N[i]?=some x)(hx:Loc X.env.scope x)(hf:X.fn x=true∨X.env.scope.names.lookup x=some .local:=by first|exact .inl rfl|exact .inr rfl|assumption):PG X (.Name x pos) (gName i):=by
 intro pins s σ H v u Q I r h;exact FV (qe I hN hi hx r (λs' I'=>⟨_,H,I',h⟩) hf)
def gNil:TGs:=λvs σ H Q=>vs=[]/\Q σ H
def gCons(t:TG)(u:TGs):TGs:=λvs σ H Q=>∃v r,vs=v::r/\t v σ H λσ' H'=>u r σ' H' Q
def vp:PGs X [] gNil:=by
 intro pins s σ H vs us Q I r h;obtain⟨e,h⟩:=h;subst e
 cases r;exact FW ⟨σ,H,I,h⟩
variable{es:List Expr}
theorem y8{e:Expr}{t:TG}{u:TGs}(h1:PG X e t)(h2:PGs X es u)
  (hs:(BV (e::es) X.env).map (·.2)=assign e X.env::(BV es X.env).map (·.2):=by rfl):PGs X (e::es) (gCons t u):=by
 intro pins s σ H vs us Q I r h;obtain⟨v,vr,e1,h⟩:=h;subst e1
 cases r with
 |cons r rr=>
  rw[hs];refine Cr (thn (h1 pins s σ H _ _ _ I r h) λ_ s1⟨σ1,H1,I1,q1⟩=>?_);exact h2 pins s1 σ1 H1 _ _ Q I1 rr q1
def gTup(K:pF)(n:Nat)(t:TGs):TG:=λv σ H Q=>∃a xs,v=.ref a/\SqT K H a xs/\xs.length=n/\t xs σ H Q
def Vy{k:Nat}{t:TGs}(hc:X.calm=true)(h:PGs X es t)
  (hn:(BV es X.env).length=n:=by rfl)(hst:(BV es X.env).findIdx? (·.1)=none:=by rfl):PG X (.Tuple es k pos) (gTup X.K n t):=by
 intro pins s σ H v u Q I r hw;obtain⟨a,xs,e1,hq,hl,hw⟩:=hw;subst e1
 cases r;obtain⟨its,rv,ht,hz⟩:=I.tuple hq;refine assign_Tuple_tuple (I.ok.hd hc) ht (by simp[hn,←hl,rv.length]) hst λh' hx=>?_
 have I1:Inv X pins σ H {s with heap:=h'}:=I.kept (t':=s.toks) λb o e=>hx b o (uF (pb e)) e;exact h pins _ σ H xs _ Q I1 (by simpa using rv) hw
def gSub(to ti:TE)(t:TSet):TG:=λv σ H Q=>to σ H λo H1=>ti σ H1 λi H2=>t o i v H2 λH3=>Q σ H3
def pg_sub{o i:Expr}{to ti:TE}{t:TSet}(ho:PE X o to)(hi:PE X i ti)(hs:PSet X t)
  (ha:∀v,assign (.Subscript o i pos) X.env v=(do
   let ov ←holding [v] (eval o X.env)
   let iv ←holding [v,ov] (eval i X.env)
   standAt pos
   holding [v,ov,iv] (setItem ov iv v)
   release [v,ov,iv] []):=by intro _;rfl):PG X (.Subscript o i pos) (gSub to ti t):=by
 intro pins s σ H v u Q I r h;rw[ha];refine pA (UR (thn (ho pins s σ H _ I h) λov s1⟨x,H1,I1,r1,q1⟩=>?_));refine pA (UR (thn (hi pins s1 σ H1 _ I1 q1) λiv s2⟨y,H2,I2,r2,q2⟩=>?_));refine pA (CO (pA (UR (thn (hs pins s2 σ H2 x y v ov iv u _ I2 r1 r2 r q2) λ_ s3⟨H3,I3,q3⟩=>?_))));exact wpAny_release ⟨σ,H3,I3,q3⟩
def wE(te:TE)(g:TG):TS:=λD σ H=>te σ H λx H1=>g x σ H1 D.nx
def ps_asg{tg e:Expr}{te:TE}(he:PE X e te)(hg:PG X tg g)(hs:swapsWithSole [tg] e pos.line X.env=pure false:=by rfl)(hw:swappedStores [tg] e X.env=pure none:=by rfl)
  (h1:(BV [tg] X.env).map (·.2)=[assign tg X.env]:=by rfl):PS X (.Assign [tg] e pos) (wE te g):=by
 intro pins s σ H D I h;refine wpAny_Assign_stores (thn (he pins s σ H _ I h) λv s1⟨x,H1,I1,r1,q1⟩=>?_) hs hw;rw[h1];exact thn (hg pins s1 σ H1 x v _ I1 r1 q1) λ_ s2 q=>q
theorem JV{e:Expr}{te:TE}{pos':Pos}(hN:X.N.Nodup)(hi:X.N[i]?=some x)(hx:Loc X.env.scope x)(he:PE X e te)(hs:Di e (some (.Name x pos')) pos.line X.env=pure false:=by rfl)(hf:X.fn x=true∨X.env.scope.names.lookup x=some .local:=by first|exact .inl rfl|exact .inr rfl|assumption):
  PS X (.Assign [.Name x pos'] e pos) (wE te (gName i)):=by
 intro pins s σ H D I h;refine wpAny_Assign_Name (thn (he pins s σ H _ I h) λv s1⟨y,H1,I1,r1,q1⟩=>?_) hs;exact qe I1 hN hi hx r1 (λs2 I2=>⟨_,H1,I2,q1⟩) hf
def tPar(i j:Nat)(ta:TA):TS:=λD σ H=>ta σ H λvs H1=>∃v w,vs=[v,w]/\D.nx ((σ.set i (some v)).set j (some w)) H1
theorem ps_par{j:Nat}{y:Str}{a b:Expr}{ta:TA}{px py pt:Pos}{kt k2 pt2}(hc:X.calm=true)(hN:X.N.Nodup)(hi:X.N[i]?=some x)(hj:X.N[j]?=some y)(hij:i≠j)
  (hx:X.env.scope.names.lookup x=some .local)(hy:X.env.scope.names.lookup y=some .local)(ha:PA X [a,b] ta)
  (hw:swappedStores [.Tuple [.Name x px,.Name y py] kt pt] (.Tuple [a,b] k2 pt2) X.env=pure (some [x,y]))
  (hs:swapsWithSole [.Tuple [.Name x px,.Name y py] kt pt] (.Tuple [a,b] k2 pt2) pos.line X.env=pure false:=by rfl):
  PS X (.Assign [.Tuple [.Name x px,.Name y py] kt pt] (.Tuple [a,b] k2 pt2) pos) (tPar i j ta):=by
 intro pins s σ H D I h;rw[exec_Assign_arm];refine pA (CO ?_);rw[hs];refine pA (pK ?_);rw[if_neg (by decide)]
 refine pA (Tuple_ (thn (ha _ pins s σ H _ I h) λus s1⟨vs,H1,I1,r1,q1⟩=>?_));obtain⟨v,w,e1,q1⟩:=q1;subst e1;obtain⟨u1,u2,rfl,rv,rw'⟩:∃u1 u2,us=[u1,u2]/\zm v u1/\zm w u2:=by
  cases r1 with
  |cons p q=>
   cases q with
   |cons p' q'=>
    cases q';exact⟨_,_,rfl,p,p'⟩
 refine gI ?_ (by show 2<=sizeLine;decide)
 have I2:Inv X pins σ H1 {s1 with heap:=s1.heap.push {cls:=.type "tuple",data:=.seq [u1,u2].toArray}}:=I1.kept (t':=s1.toks) λb o e=>pH _ e;rw[hw];refine pA (pK ?_)
 show wpAny (model X.prog X.w) X.A (do rule "assign.swapped-stores";let items ←unpackItems (.ref s1.heap.objs.size) 2 none;FE [λv=>Gn X.env y v,λv=>Gn X.env x v] items.reverse;pure Flow.next) _ _ _
 refine pA (UI (pA (unpackItems_tuple (items:=#[u1,u2]) (I.ok.hd hc) (Hy s1.heap _) λh' hx'=>?_)));have I3:=I2.kept (h':=h') (t':=s1.toks) λb o e=>hx' b o (uF (pb e)) e
 show wpAny _ _ (FE [λv=>Gn X.env y v,λv=>Gn X.env x v] [u2,u1]>>=λ_=>pure Flow.next) _ _ _
 refine pA (Cr (wpAny_bindName (qe I3 hN hj (.inl hy) rw' (λs2 I4=>?_) (.inr hy))));refine Cr (wpAny_bindName (qe I4 hN hi (.inl hx) rv (λs3 I5=>FW (pK ?_)) (.inr hx)));rw[List.set_comm _ _ (gQ hij)] at I5;exact⟨_,H1,I5,q1⟩
end
variable{body:List Stmt}
section
variable{X:Cx}{pos:Pos}
def ZK(c:TT)(tb:TS):TS:=λD σ H=>∃W:Nat->St->Hp->Prop,(∃m,W m σ H)/\∀m σ H,W m σ H->
 c σ H λb H1=>if b=true then ∃N:St->Hp->Prop,(∀σ' H',N σ' H'->∃m',m'<m/\W m' σ' H')/\tb {D with nx:=N,ct:=N,bk:=D.nx} σ H1 else D.nx σ H1
theorem Jv{tc:TT}{tb:TS}(hp:PassesOwn (model X.prog X.w) X.A X.env X.xe)(hc:PT X c tc)(hb:PSs X body tb):PS X (.While c body [] pos) (ZK tc tb):=by
 intro pins s σ H D I h;obtain⟨W,⟨m0,w0⟩,turn⟩:=h;refine wpAny_While (codeAny_whileLoop (λn s'=>∃σ' H',Inv X pins σ' H' s'/\W n σ' H') ?_ m0 ⟨σ,H,I,w0⟩);rintro n s1 ⟨σ1,H1,I1,w1⟩;refine gt hp (thn (hc pins s1 σ1 H1 _ I1 (turn n σ1 H1 w1)) λb s2⟨H2,I2,q2⟩=>?_)
 cases b with
 |true=>
  obtain⟨N,hN,q2⟩:=q2;rw[if_pos rfl];refine gt hp (thn (hb pins s2 σ1 H2 _ I2 q2) λf s3 q3=>?_)
  cases f with
  |next=>
   obtain⟨σ3,H3,I3,n3⟩:=q3;obtain⟨m',hm,w3⟩:=hN σ3 H3 n3;exact⟨m',hm,σ3,H3,I3,w3⟩
  |cont=>
   obtain⟨σ3,H3,I3,n3⟩:=q3;obtain⟨m',hm,w3⟩:=hN σ3 H3 n3;exact⟨m',hm,σ3,H3,I3,w3⟩
  |brk=>exact q3
  |ret v=>exact q3
 |false=>
  rw[if_neg uH];exact CY ⟨σ1,H2,I2,q2⟩
end
structure It where
 go:Nat->Hp->Prop
 yld:Nat->Hp->V->Hp->Prop
 stop:Nat->Hp->Prop
def yY(X:Cx)(pins:List (Addr×Obj))(H:Hp)(b:Addr):Prop:=
 H b=none/\b≠X.env.locals/\b∉X.fs/\(b∈X.ex∨X.s₀.heap.objs.size<=b)/\(∀x c,X.env.cells.lookup x=some c->c≠b)/\∀p∈X.pn++pins,p.1≠b
def Inv.fpOk{X:Cx}{pins:List (Addr×Obj)}{σ:St}{H H':Hp}{s:pC}{b:Addr}(I:Inv X pins σ H s)(hb:s.heap.objs.size<=b)(hn:H' b=none):yY X pins H' b:=by
 refine⟨hn,Bj (po I.lt hb),I.nofs hb,.inr (uK I.sz hb),λx c e z=>?_,λp hp z=>?_⟩
 ·obtain⟨v,q⟩:=I.cell x c e;exact absurd (po q.lt (by rw[z];exact hb)) (Ul _)
 ·exact absurd (po (pb (I.pin p hp).1) (by rw[z];exact hb)) (Ul _)
structure Turn(P:pi)(w:uR)(K:pF)(tg:Expr)(J:It)(fp:List Addr)(it:Addr)(tn:Nat->Heap->Prop):Prop where
 mem:it∈fp
 obj:∀i h,tn i h->∀b∈fp,∃o,h.get? b=some o/\∀v,o.data≠.cell v
 keep:∀i h h',tn i h->(∀b∈fp,∀o,h.get? b=some o->h'.get? b=some o)->tn i h'
 item:∀(X:Cx),X.prog=P->X.w=w->X.K=K->X.calm=true->∀(i:Nat)(pins:List (Addr×Obj))(s:pC)(σ:St)(H:Hp)(E:pB->pC->Prop),Inv X pins σ H s->(∀b∈fp,yY X pins H b)->tn i s.heap->J.go i H->
  wpAny (model P w) X.A (DX (.ref it)) (λr s1=>∃u,r=some u/\
   wpAny (model P w) X.A (CZ tg (.ref it) u) (λ_ s2=>∃x H',Inv X pins σ H' s2/\zm x u/\J.yld i H x H'/\tn (i+1) s2.heap/\∀b∈fp,H' b=none) E s1) E s
 done:∀(X:Cx),X.prog=P->X.w=w->X.K=K->X.calm=true->∀(i:Nat)(pins:List (Addr×Obj))(s:pC)(σ:St)(H:Hp)(E:pB->pC->Prop),Inv X pins σ H s->(∀b∈fp,yY X pins H b)->tn i s.heap->J.stop i H->
  wpAny (model P w) X.A (DX (.ref it)) (λr s1=>r=none/\Inv X pins σ H s1) E s
 self:∀(A:uQ)(i:Nat)(s:pC)(Q:pB->pC->Prop)(E:pB->pC->Prop),tn i s.heap->Q (.ref it) s->wpAny (model P w) A (pyIter (.ref it)) Q E s
abbrev TI:=St->Hp->(It->Hp->Prop)->Prop
def PIE(X:Cx)(pins:List (Addr×Obj))(σ:St)(tg:Expr)(R:It->Hp->Prop)(itv:pB)(s2:pC):Prop:=
 ∃(it:Addr)(fp:List Addr)(tn:Nat->Heap->Prop)(J:It)(H':Hp),itv=.ref it/\Inv X pins σ H' s2/\Turn X.prog X.w X.K tg J fp it tn/\tn 0 s2.heap/\(∀b∈fp,yY X pins H' b)/\R J H'
def PI(X:Cx)(tg iter:Expr)(wi:TI):Prop:=
 ∀(pins:List (Addr×Obj))(s:pC)(σ:St)(H:Hp)(R:It->Hp->Prop),Inv X pins σ H s->wi σ H R->
  wpAny (model X.prog X.w) X.A (eval iter X.env) (λv s1=>wpAny (model X.prog X.w) X.A (pyIter v) (PIE X pins σ tg R) X.xe s1) X.xe s
theorem XV{A:uQ}{E:pB->pC->Prop}{s:pC}{tg:Expr}{it:Addr}{u:pB}{o:Obj}{n:String}{vs:Array pB}{Q:Unit->pC->Prop}(ho:s.heap.get? it=some o)(hc:o.cls=.type n)(hd:o.data=.fields vs)
  (hn:["enumerate","zip","dict_itemiterator","dict_reverseitemiterator","odict_iterator","itertools.zip_longest","itertools.pairwise"].contains n=false)(hQ:Q () s):wpAny M A (CZ tg (.ref it) u) Q E s:=by
 unfold CZ
 cases tg<;>first
  |exact pK hQ
  |(cases u<;>first
    |exact pK hQ
    |(refine pA (wpAny_load ho ?_)
      rw[hc,hd];show wpAny M A (if(["enumerate","zip","dict_itemiterator","dict_reverseitemiterator","odict_iterator","itertools.zip_longest","itertools.pairwise"].contains n&&vs[0]?==some (gN _))=true then _ else _) Q E s;rw[if_neg (by intro h;rw[hn,Go] at h;cases h)]
      exact pK hQ))
noncomputable def Itl(K:pF)(a:Addr):It:=
 ⟨λi H=>∃xs x,SqL K H a xs/\xs[i]?=some x,λi H x H'=>H'=H/\∀xs,SqL K H a xs->xs[i]?=some x,λi H=>∃xs,SqL K H a xs/\xs.length<=i⟩
noncomputable def Itt(K:pF)(a:Addr):It:=
 ⟨λi H=>∃xs x,SqT K H a xs/\xs[i]?=some x,λi H x H'=>H'=H/\∀xs,SqT K H a xs->xs[i]?=some x,λi H=>∃xs,SqT K H a xs/\xs.length<=i⟩
noncomputable def Itr(lo:Int)(n:Nat):It:=⟨λi _=>i<n,λi H x H'=>H'=H/\x=.int (lo+i),λi _=>n<=i⟩
theorem zay{P:pi}{w:uR}{K:pF}{tg:Expr}(a it:Addr):Turn P w K tg (Itl K a) [it] it (λi h=>h.IsListIter it a i) where
 mem:=by simp
 obj:=λi h st b hb=>by
  have e:b=it:=by simpa using hb
  subst e;obtain⟨o,e,c,d⟩:=st;exact⟨o,e,λv z=>by rw[d] at z;cases z⟩
 keep:=λi h h' st k=>st.at λo e=>k it (by simp) o e
 item:=by
  intro X hP hw hK hc i pins s σ H E I hf st hg;subst hP hw hK;obtain⟨xs,x,hq,hx⟩:=hg;obtain⟨its,rv,p,hz⟩:=I.list hq;obtain⟨u,hu,ru⟩:=rv.get hx;obtain⟨f0,f1,f2,f3,f4,f5⟩:=hf it (by simp)
  refine wpAny_pyNext_list_item st p.isList (x:=u) (by simpa using hu) λh' st' sb=>?_
  have I1:Inv X pins σ H {s with heap:=h'}:=I.turned (t':=s.toks) (λb o hb e=>(sb.2 b hb).trans e) f0 f1 f3 f4 f5;obtain⟨o,e,c,d⟩:=id st';exact⟨u,rfl,XV (s:={s with heap:=h'}) e c d (by decide) ⟨x,H,I1,ru,⟨rfl,λys hy=>by rw[I.list_inj hy hq];exact hx⟩,st',λb hb=>(hf b hb).1⟩⟩
 done:=by
  intro X hP hw hK hc i pins s σ H E I hf st hg;subst hP hw hK;obtain⟨xs,hq,hx⟩:=hg;obtain⟨its,rv,p,hz⟩:=I.list hq;obtain⟨f0,f1,f2,f3,f4,f5⟩:=hf it (by simp)
  have hl:=rv.length;exact wpAny_pyNext_list_end (I.ok.hd hc) st p.isList (by simp;lia) λh' eb=>⟨rfl,I.turned (t':=s.toks) (λb o hb e=>eb b o hb e) f0 f1 f3 f4 f5⟩
 self:=λ_ _ _ _ _ st h=>wpAny_pyIter_listiter st h
theorem ze5{P:pi}{w:uR}{K:pF}{tg:Expr}(a it:Addr):Turn P w K tg (Itt K a) [it] it (λi h=>h.IsTupleIter it a i) where
 mem:=by simp
 obj:=λi h st b hb=>by
  have e:b=it:=by simpa using hb
  subst e;obtain⟨o,e,c,d⟩:=st;exact⟨o,e,λv z=>by rw[d] at z;cases z⟩
 keep:=λi h h' st k=>st.at λo e=>k it (by simp) o e
 item:=by
  intro X hP hw hK hc i pins s σ H E I hf st hg;subst hP hw hK;obtain⟨xs,x,hq,hx⟩:=hg;obtain⟨its,rv,p,hz⟩:=I.tuple hq;obtain⟨u,hu,ru⟩:=rv.get hx;obtain⟨f0,f1,f2,f3,f4,f5⟩:=hf it (by simp)
  refine wpAny_pyNext_tuple_item st (show s.heap.IsTuple a its.toArray from p) (x:=u) (by simpa using hu) λh' st' sb=>?_
  have I1:Inv X pins σ H {s with heap:=h'}:=I.turned (t':=s.toks) (λb o hb e=>(sb.2 b hb).trans e) f0 f1 f3 f4 f5;obtain⟨o,e,c,d⟩:=id st';exact⟨u,rfl,XV (s:={s with heap:=h'}) e c d (by decide) ⟨x,H,I1,ru,⟨rfl,λys hy=>by rw[I.tuple_inj hy hq];exact hx⟩,st',λb hb=>(hf b hb).1⟩⟩
 done:=by
  intro X hP hw hK hc i pins s σ H E I hf st hg;subst hP hw hK;obtain⟨xs,hq,hx⟩:=hg;obtain⟨its,rv,p,hz⟩:=I.tuple hq;obtain⟨f0,f1,f2,f3,f4,f5⟩:=hf it (by simp)
  have hl:=rv.length;exact wpAny_pyNext_tuple_end (I.ok.hd hc) st (show s.heap.IsTuple a its.toArray from p) (by simp;lia) λh' eb=>⟨rfl,I.turned (t':=s.toks) (λb o hb e=>eb b o hb e) f0 f1 f3 f4 f5⟩
 self:=λ_ _ _ _ _ st h=>wpAny_pyIter_tupleiter st h
theorem zbz{P:pi}{w:uR}{K:pF}{tg:Expr}(it:Addr)(lo:Int)(n:Nat):Turn P w K tg (Itr lo n) [it] it (λi h=>IsRangeIter h it (lo+(i:Nat)*1) ((n:Int)-(i:Nat)) 1) where
 mem:=by simp
 obj:=λi h st b hb=>by
  have e:b=it:=by simpa using hb
  subst e;exact⟨_,st,λv z=>by
   have z':GQ _=Dj v:=z
   cases z'⟩
 keep:=λi h h' st k=>k it (by simp) _ st
 item:=by
  intro X hP hw hK hc i pins s σ H E I hf st hg;subst hP hw hK;obtain⟨f0,f1,f2,f3,f4,f5⟩:=hf it (by simp)
  have W:=Walks.range (prog:=X.prog) (w:=X.w) (I.ok.hd hc) it lo 1 n;refine W.item i s _ _ hg st λv h' tk hv st' kk=>?_;obtain⟨t,rfl⟩:=hv;have I1:Inv X pins σ H {s with heap:=h',toks:=tk}:=I.turned (λb o hb e=>kk b o (by simpa using hb) e) f0 f1 f3 f4 f5
  refine⟨_,rfl,XV (s:={s with heap:=h',toks:=tk}) (n:="range_iterator") st' rfl rfl (by decide) ⟨.int (lo+i),H,I1,⟨t,?_⟩,⟨rfl,rfl⟩,st',λb hb=>(hf b hb).1⟩⟩
  rw[Int.mul_one]
 done:=by
  intro X hP hw hK hc i pins s σ H E I hf st hg;subst hP hw hK;obtain⟨f0,f1,f2,f3,f4,f5⟩:=hf it (by simp)
  exact wpAny_pyNext_range_end (I.ok.hd hc) st (by have:n<=i:=hg;lia) λh' eb=>⟨rfl,I.turned (t':=s.toks) (λb o hb e=>eb b o hb e) f0 f1 f3 f4 f5⟩
 self:=λ_ _ _ _ _ st h=>wpAny_pyIter_rangeiter st h
variable{fp:List Addr}
section
variable{X:Cx}{tg:Expr}
def yi(K:pF)(tl:TE):TI:=λσ H R=>tl σ H λx H1=>∃a,x=.ref a/\(∃xs,SqL K H1 a xs)/\R (Itl K a) H1
def jk(K:pF)(tl:TE):TI:=λσ H R=>tl σ H λx H1=>∃a,x=.ref a/\(∃xs,SqT K H1 a xs)/\R (Itt K a) H1
def yk{l:Expr}{tl:TE}(hl:PE X l tl):PI X tg l (yi X.K tl):=by
 intro pins s σ H R I h;refine thn (hl pins s σ H _ I h) λv s1⟨x,H1,I1,r1,q1⟩=>?_;obtain⟨a,e,⟨xs,hq⟩,q⟩:=q1;subst e
 cases r1;obtain⟨its,rv,p,hz⟩:=I1.list hq;refine FX p.isList ?_;refine⟨s1.heap.objs.size,[s1.heap.objs.size],_,_,H1,rfl,I1.kept (t':=s1.toks) λb o e=>pH _ e,zay a _,⟨_,pd _ rfl,rfl,rfl⟩,λb hb=>?_,q⟩;have e:b=s1.heap.objs.size:=by simpa using hb
 subst e;exact I1.fpOk (pJ _) (I1.hok.fresh (pJ _))
def YU{l:Expr}{tl:TE}(hl:PE X l tl):PI X tg l (jk X.K tl):=by
 intro pins s σ H R I h;refine thn (hl pins s σ H _ I h) λv s1⟨x,H1,I1,r1,q1⟩=>?_;obtain⟨a,e,⟨xs,hq⟩,q⟩:=q1;subst e
 cases r1;obtain⟨its,rv,p,hz⟩:=I1.tuple hq;refine Ct (show s1.heap.IsTuple a its.toArray from p) ?_;refine⟨s1.heap.objs.size,[s1.heap.objs.size],_,_,H1,rfl,I1.kept (t':=s1.toks) λb o e=>pH _ e,ze5 a _,⟨_,pd _ rfl,rfl,rfl⟩,λb hb=>?_,q⟩;have e:b=s1.heap.objs.size:=by simpa using hb
 subst e;exact I1.fpOk (pJ _) (I1.hok.fresh (pJ _))
variable{pins:List (Addr×Obj)}{σ:St}{H:Hp}
theorem Zd{s:pC}{R:It->Hp->Prop}{E:pB->pC->Prop}{lo hi:Int}{t u v:Tok}{tk:Nat}(I:Inv X pins σ H s)(h1: -(2^62)<=lo)(h2:lo<2^62)(h3: -(2^62)<=hi)(h4:hi<2^62)
  (q:R (Itr lo (hi-lo).toNat) H):wpAny (model X.prog X.w) X.A (pyIter (.ref s.heap.objs.size)) (PIE X pins σ tg R) E {s with heap:=s.heap.push {cls:=.type "range",data:=.fields #[.int lo t,.int hi u,.int 1 v]},toks:=tk}:=by
 refine wpAny_pyIter_range (IsRange.new ..) (small_one h1 h2 h3 h4) ?_;have I1:Inv X pins σ H {s with heap:=s.heap.push {cls:=.type "range",data:=.fields #[.int lo t,.int hi u,.int 1 v]},toks:=tk}:=I.kept λb o e=>pH _ e;refine⟨(s.heap.push {cls:=.type "range",data:=.fields #[.int lo t,.int hi u,.int 1 v]}).objs.size,[(s.heap.push {cls:=.type "range",data:=.fields #[.int lo t,.int hi u,.int 1 v]}).objs.size],_,_,H,rfl,
  I1.kept (t':=tk) λb o e=>pH _ e,zbz _ lo (hi-lo).toNat,?_,λb hb=>?_,q⟩
 ·have e1:lo+((0:Nat):Int)*1=lo:=by simp
  have e2:(((hi-lo).toNat:Nat):Int)-((0:Nat):Int)=Dk lo hi 1:=by rw[rangeSize_one];split<;>lia
  show IsRangeIter _ _ (lo+((0:Nat):Int)*1) ((((hi-lo).toNat:Nat):Int)-((0:Nat):Int)) 1
  rw[e1,e2];exact pd _ rfl
 ·have e:b=(s.heap.push {cls:=.type "range",data:=.fields #[.int lo t,.int hi u,.int 1 v]}).objs.size:=by simpa using hb
  subst e;exact I1.fpOk (pJ _) (I1.hok.fresh (pJ _))
def wu(ta:TA):TI:=λσ H R=>ta σ H λvs H1=>∃j:Int,vs=[.int j]/\ -(2^62)<=j/\j<2^62/\R (Itr 0 j.toNat) H1
def iRng2(ta:TA):TI:=λσ H R=>ta σ H λvs H1=>∃i j:Int,vs=[.int i,.int j]/\(-(2^62)<=i/\i<2^62/\ -(2^62)<=j/\j<2^62)/\R (Itr i (j-i).toNat) H1
variable{pos:Pos}
theorem wW{a:Expr}{ta:TA}{p:Pos}(hg:Gl X "range")(hm:X.mg "range"=none)(ha:PA X [a] ta)(hs:ur [a] X.env=[(false,eval a X.env)]:=by rfl):PI X tg (.Call (.Name "range" p) [a] [] pos) (wu ta):=by
 intro pins s σ H R I h;refine Call_ (xG I hg hm Gp (Ql (thn (ha pos pins s σ H _ I h) λus s1⟨vs,H1,I1,r1,q1⟩=>?_) hs rfl));obtain⟨j,e,q1,q2,q⟩:=q1;subst e
 cases r1 with
 |cons r rr=>
  cases rr;obtain⟨t,rfl⟩:=r;exact call_range_1 (Zd I1 (by lia) (by lia) q1 q2 (by simpa using q))
theorem zb2{a b:Expr}{ta:TA}{p:Pos}(hg:Gl X "range")(hm:X.mg "range"=none)(ha:PA X [a,b] ta)(hs:ur [a,b] X.env=[(false,eval a X.env),(false,eval b X.env)]:=by rfl)(hs2:ur [b] X.env=[(false,eval b X.env)]:=by rfl):
  PI X tg (.Call (.Name "range" p) [a,b] [] pos) (iRng2 ta):=by
 intro pins s σ H R I h;refine Call_ (xG I hg hm Gp (Ql (thn (ha pos pins s σ H _ I h) λus s1⟨vs,H1,I1,r1,q1⟩=>?_) (by rw[hs,hs2]) (by rw[hs2];rfl)))
 obtain⟨i,j,e,⟨q1,q2,q3,q4⟩,q⟩:=q1;subst e
 cases r1 with
 |cons r rr=>
  cases rr with
  |cons r' rr=>
   cases rr;obtain⟨t,rfl⟩:=r;obtain⟨t',rfl⟩:=r';exact call_range_2 (Zd I1 q1 q2 q3 q4 q)
def tFor(wi:TI)(g:TG)(tb:TS):TS:=λD σ H=>wi σ H λJ H1=>∃W:Nat->Nat->St->Hp->Prop,(∃m,W 0 m σ H1)/\∀i m σ H,W i m σ H->
 (J.stop i H/\D.nx σ H)∨(J.go i H/\∃N:St->Hp->Prop,(∀σ' H',N σ' H'->∃m',m'<m/\W (i+1) m' σ' H')/\∀x H',J.yld i H x H'->g x σ H' λσ2 H2=>tb {D with nx:=N,ct:=N,bk:=D.nx} σ2 H2)
noncomputable def qj(fp:List Addr)(h:Heap):List (Addr×Obj):=fp.filterMap λb=>(h.get? b).map λo=>(b,o)
def qA{h:Heap}{b:Addr}{o:Obj}(hb:b∈fp)(e:h.get? b=some o):(b,o)∈qj fp h:=List.mem_filterMap.mpr ⟨b,hb,by rw[e];rfl⟩
theorem ze4{h:Heap}{p:Addr×Obj}(hp:p∈qj fp h):p.1∈fp/\h.get? p.1=some p.2:=by
 obtain⟨b,hb,e⟩:=List.mem_filterMap.mp hp
 cases q:h.get? b with
 |none=>rw[q] at e;cases e
 |some o=>
  rw[q] at e;have e':(b,o)=p:=uN e;subst e';exact⟨hb,q⟩
def Inv.pinned{s:pC}(I:Inv X pins σ H s)(hf:∀b∈fp,yY X pins H b)(ho:∀b∈fp,∃o,s.heap.get? b=some o/\∀v,o.data≠.cell v):Inv X (pins++qj fp s.heap) σ H s:=
 I.pins_of λp hp=>(pP.mp hp).elim (λz=>I.pin p (pI _ z)) λz=>by
  obtain⟨hb,e⟩:=ze4 z;obtain⟨f0,f1,f2,_⟩:=hf p.1 hb;obtain⟨o,e',d⟩:=ho p.1 hb;rw[e] at e';cases e';exact⟨e,f0,f1,f2,d⟩
def Inv.unpinned{pl:List (Addr×Obj)}{s:pC}(I:Inv X (pins++pl) σ H s):Inv X pins σ H s:=I.pins_of λp hp=>I.pin p (pI _ (uD _ hp))
theorem yo{iter:Expr}{wi:TI}{tb:TS}(hp:PassesOwn (model X.prog X.w) X.A X.env X.xe)(hc:X.calm=true)(hi:PI X tg iter wi)(hg:PG X tg g)(hb:PSs X body tb)
  (hs:∀x,AE iter X.env x=pure x:=by intro _;rfl):PS X (.For tg iter body [] pos) (tFor wi g tb):=by
 intro pins s σ H D I h;refine wpAny_For (thn (hi pins s σ H _ I h) λv s1 h1=>thn h1 λitv s2 h2=>?_) hs;obtain⟨it,fp,tn,J,H2,e,I2,T,st2,f2,W,⟨m0,w0⟩,turn⟩:=h2;subst e;have stat:∀{H':Hp},(∀b∈fp,H' b=none)->∀b∈fp,yY X pins H' b:=λhn b hb=>⟨hn b hb,(f2 b hb).2⟩;refine codeAny_forLoop_any (λn s'=>∃i σ' H',Inv X pins σ' H' s'/\tn i s'.heap/\(∀b∈fp,H' b=none)/\W i n σ' H') ?_ m0 ⟨0,σ,H2,I2,st2,λb hb=>(f2 b hb).1,w0⟩;rintro n s3 ⟨i,σ3,H3,I3,st3,fr3,w3⟩;rcases turn i n σ3 H3 w3 with⟨stop,qn⟩|⟨go,N,hN,step⟩
 ·refine gt hp (thn (T.done X rfl rfl rfl hc i pins s3 σ3 H3 X.xe I3 (stat fr3) st3 stop) λr s4⟨hr,I4⟩=>?_);subst hr;exact CY ⟨σ3,H3,I4,qn⟩
 ·refine gt hp (thn (T.item X rfl rfl rfl hc i pins s3 σ3 H3 X.xe I3 (stat fr3) st3 go) λr s4⟨u,hr,h4⟩=>?_);subst hr;refine gt hp (thn h4 λ_ s5⟨x,H5,I5,r5,y5,st5,fr5⟩=>?_);have I5':=I5.pinned (stat fr5) (T.obj _ _ st5);refine gt hp (thn (hg _ s5 σ3 H5 x u _ I5' r5 (step x H5 y5)) λ_ s6⟨σ6,H6,I6,q6⟩=>?_);refine gt hp (thn (hb _ s6 σ6 H6 _ I6 q6) λf s7 q7=>?_);have again:∀{σ7:St}{H7:Hp},Inv X (pins++qj fp s5.heap) σ7 H7 s7->N σ7 H7->∃m,m<n/\∃i σ' H',Inv X pins σ' H' s7/\tn i s7.heap/\(∀b∈fp,H' b=none)/\W i m σ' H':=λ{σ7 H7} I7 n7=>by
   obtain⟨m',hm,w7⟩:=hN σ7 H7 n7;refine⟨m',hm,i+1,σ7,H7,I7.unpinned,T.keep _ _ _ st5 λb hb o e=>(I7.pin (b,o) (pI _ (pI _ (qA hb e)))).1,λb hb=>?_,w7⟩;obtain⟨o,e,d⟩:=T.obj _ _ st5 b hb;exact(I7.pin (b,o) (pI _ (pI _ (qA hb e)))).2.1
  cases f with
  |next=>obtain⟨σ7,H7,I7,n7⟩:=q7;exact again I7 n7
  |cont=>obtain⟨σ7,H7,I7,n7⟩:=q7;exact again I7 n7
  |brk=>obtain⟨σ7,H7,I7,q7⟩:=q7;exact⟨σ7,H7,I7.unpinned,q7⟩
  |ret v=>obtain⟨x7,σ7,H7,I7,r7,q7⟩:=q7;exact⟨x7,σ7,H7,I7.unpinned,r7,q7⟩
end
theorem zd3{K:pF}{a:Addr}{xs:List V}{tb:TS}{D:Ends}{σ:St}{H:Hp}(Pv:Nat->St->Hp->Prop)(h0:Pv 0 σ H)(hl:∀i σ H,i<=xs.length->Pv i σ H->SqL K H a xs)
  (hs:∀i x σ H,xs[i]?=some x->Pv i σ H->g x σ H λσ2 H2=>tb {D with nx:=Pv (i+1),ct:=Pv (i+1),bk:=D.nx} σ2 H2)(hd:∀σ H,Pv xs.length σ H->D.nx σ H):
  ∃W:Nat->Nat->St->Hp->Prop,(∃m,W 0 m σ H)/\∀i m σ H,W i m σ H->
   ((Itl K a).stop i H/\D.nx σ H)∨((Itl K a).go i H/\∃N:St->Hp->Prop,(∀σ' H',N σ' H'->∃m',m'<m/\W (i+1) m' σ' H')/\∀x H',(Itl K a).yld i H x H'->g x σ H' λσ2 H2=>tb {D with nx:=N,ct:=N,bk:=D.nx} σ2 H2):=by
 refine⟨λi m σ H=>m=xs.length-i/\i<=xs.length/\Pv i σ H,⟨xs.length,by simp,uJ _,h0⟩,?_⟩
 rintro i m σ H ⟨rfl,hi,p⟩;have q:=hl i σ H hi p
 by_cases hlt:i<xs.length
 ·refine .inr ⟨⟨xs,xs[i],q,by simp[hlt]⟩,Pv (i+1),λσ' H' p'=>⟨xs.length-(i+1),by lia,rfl,hlt,p'⟩,λx H' y=>?_⟩
  obtain⟨e,y⟩:=y;subst e;exact hs i x σ _ (y xs q) p
 ·have e:i=xs.length:=by lia
  subst e;exact .inl ⟨⟨xs,q,pJ _⟩,hd σ H p⟩
theorem for_tup{K:pF}{a:Addr}{xs:List V}{tb:TS}{D:Ends}{σ:St}{H:Hp}(Pv:Nat->St->Hp->Prop)(h0:Pv 0 σ H)(hl:∀i σ H,i<=xs.length->Pv i σ H->SqT K H a xs)
  (hs:∀i x σ H,xs[i]?=some x->Pv i σ H->g x σ H λσ2 H2=>tb {D with nx:=Pv (i+1),ct:=Pv (i+1),bk:=D.nx} σ2 H2)(hd:∀σ H,Pv xs.length σ H->D.nx σ H):
  ∃W:Nat->Nat->St->Hp->Prop,(∃m,W 0 m σ H)/\∀i m σ H,W i m σ H->
   ((Itt K a).stop i H/\D.nx σ H)∨((Itt K a).go i H/\∃N:St->Hp->Prop,(∀σ' H',N σ' H'->∃m',m'<m/\W (i+1) m' σ' H')/\∀x H',(Itt K a).yld i H x H'->g x σ H' λσ2 H2=>tb {D with nx:=N,ct:=N,bk:=D.nx} σ2 H2):=by
 refine⟨λi m σ H=>m=xs.length-i/\i<=xs.length/\Pv i σ H,⟨xs.length,by simp,uJ _,h0⟩,?_⟩
 rintro i m σ H ⟨rfl,hi,p⟩;have q:=hl i σ H hi p
 by_cases hlt:i<xs.length
 ·refine .inr ⟨⟨xs,xs[i],q,by simp[hlt]⟩,Pv (i+1),λσ' H' p'=>⟨xs.length-(i+1),by lia,rfl,hlt,p'⟩,λx H' y=>?_⟩
  obtain⟨e,y⟩:=y;subst e;exact hs i x σ _ (y xs q) p
 ·have e:i=xs.length:=by lia
  subst e;exact .inl ⟨⟨xs,q,pJ _⟩,hd σ H p⟩
theorem zc4{lo:Int}{tb:TS}{D:Ends}{σ:St}{H:Hp}(Pv:Nat->St->Hp->Prop)(h0:Pv 0 σ H)
  (hs:∀i σ H,i<n->Pv i σ H->g (.int (lo+i)) σ H λσ2 H2=>tb {D with nx:=Pv (i+1),ct:=Pv (i+1),bk:=D.nx} σ2 H2)(hd:∀σ H,Pv n σ H->D.nx σ H):
  ∃W:Nat->Nat->St->Hp->Prop,(∃m,W 0 m σ H)/\∀i m σ H,W i m σ H->
   ((Itr lo n).stop i H/\D.nx σ H)∨((Itr lo n).go i H/\∃N:St->Hp->Prop,(∀σ' H',N σ' H'->∃m',m'<m/\W (i+1) m' σ' H')/\∀x H',(Itr lo n).yld i H x H'->g x σ H' λσ2 H2=>tb {D with nx:=N,ct:=N,bk:=D.nx} σ2 H2):=by
 refine⟨λi m σ H=>m=n-i/\i<=n/\Pv i σ H,⟨n,by simp,uJ _,h0⟩,?_⟩
 rintro i m σ H ⟨rfl,hi,p⟩
 by_cases hlt:i<n
 ·refine .inr ⟨hlt,Pv (i+1),λσ' H' p'=>⟨n-(i+1),by lia,rfl,hlt,p'⟩,λx H' y=>?_⟩
  obtain⟨e,y⟩:=y;subst e y;exact hs i σ _ hlt p
 ·have e:i=n:=by lia
  subst e;exact .inl ⟨pJ _,hd σ H p⟩
theorem VU{c:TT}{tb:TS}{D:Ends}{σ:St}{H:Hp}(Pv:St->Hp->Prop)(μ:St->Hp->Nat)(h0:Pv σ H)
  (hs:∀σ H,Pv σ H->c σ H λb H1=>if b=true then tb {D with nx:=λσ' H'=>Pv σ' H'/\μ σ' H'<μ σ H,ct:=λσ' H'=>Pv σ' H'/\μ σ' H'<μ σ H,bk:=D.nx} σ H1 else D.nx σ H1)
  (mono:∀σ H Q Q',(∀b H1,Q b H1->Q' b H1)->c σ H Q->c σ H Q'):ZK c tb D σ H:=by
 refine⟨λm σ H=>m=μ σ H/\Pv σ H,⟨_,rfl,h0⟩,?_⟩;rintro m σ H ⟨rfl,p⟩;refine mono σ H _ _ (λb H1 q=>?_) (hs σ H p)
 cases b with
 |true=>exact⟨_,λσ' H'⟨p',l⟩=>⟨_,l,rfl,p'⟩,q⟩
 |false=>exact q
abbrev R2:=V->V->Hp->VK->Prop
def OpR(X:Cx)(f:pB->pB->Sem pB)(r:R2):Prop:=
 ∀(pins:List (Addr×Obj))(s:pC)(σ:St)(H:Hp)(x y:V)(v u:pB)(Q:VK),Inv X pins σ H s->zm x v->zm y u->r x y H Q->
  wpAny (model X.prog X.w) X.A (f v u) (EP X pins σ Q) X.xe s
def UnR(X:Cx)(f:pB->Sem pB)(r:V->Hp->VK->Prop):Prop:=
 ∀(pins:List (Addr×Obj))(s:pC)(σ:St)(H:Hp)(x:V)(v:pB)(Q:VK),Inv X pins σ H s->zm x v->r x H Q->
  wpAny (model X.prog X.w) X.A (f v) (EP X pins σ Q) X.xe s
def yC(X:Cx)(f:pB)(r:List V->Hp->VK->Prop):Prop:=
 ∀(pins:List (Addr×Obj))(s:pC)(σ:St)(H:Hp)(xs:List V)(us:List pB)(Q:VK),Inv X pins σ H s->zn xs us->r xs H Q->
  wpAny (model X.prog X.w) X.A (call f us) (EP X pins σ Q) X.xe s
def tOp(r:R2)(ta tb:TE):TE:=λσ H Q=>ta σ H λx H1=>tb σ H1 λy H2=>r x y H2 Q
def tUn(r:V->Hp->VK->Prop)(ta:TE):TE:=λσ H Q=>ta σ H λx H1=>r x H1 Q
def rI(C:Int->Int->Prop)(g:Int->Int->V):R2:=λx y H Q=>∃i j,x=.int i/\y=.int j/\C i j/\Q (g i j) H
def rI0(g:Int->Int->V):R2:=λx y H Q=>∃i j,x=.int i/\y=.int j/\Q (g i j) H
def rU(g:Int->V):V->Hp->VK->Prop:=λx H Q=>∃i,x=.int i/\Q (g i) H
variable{g:Int->Int->Int}
section
variable{X:Cx}{a b c:Expr}{ta tb tc:TE}{pos:Pos}
def binT(ha:PE X a ta)(hb:PE X b tb){pins:List (Addr×Obj)}{s:pC}{σ:St}{H:Hp}{R:V->V->Hp->Prop}(I:Inv X pins σ H s)
  (h:ta σ H λx H1=>tb σ H1 λy H2=>R x y H2){Q:pB->pC->Prop}{f:pB->pB->Sem pB}
  (hf:∀v u s2 x y H2,Inv X pins σ H2 s2->zm x v->zm y u->R x y H2->wpAny (model X.prog X.w) X.A (f v u) Q X.xe s2):
  wpAny (model X.prog X.w) X.A (eval a X.env) (λv s₁=>wpAny (model X.prog X.w) X.A (eval b X.env) (λu s₂=>wpAny (model X.prog X.w) X.A (f v u) Q X.xe s₂) X.xe s₁) X.xe s:=by
 refine thn (ha pins s σ H _ I h) λv s1⟨x,H1,I1,r1,q1⟩=>?_;refine thn (hb pins s1 σ H1 _ I1 q1) λu s2⟨y,H2,I2,r2,q2⟩=>?_;exact hf v u s2 x y H2 I2 r1 r2 q2
def zf{op:Operator}{r:R2}(ho:OpR X (AN op) r)(ha:PE X a ta)(hb:PE X b tb):PE X (.BinOp a op b pos) (tOp r ta tb):=by
 intro pins s σ H Q I h;exact wpAny_BinOp (binT ha hb I h λv u s2 x y H2 I2 rx ry q=>ho pins s2 σ H2 x y v u Q I2 rx ry q)
def jE{op:UnaryOp}{r:V->Hp->VK->Prop}(ho:UnR X (unaryOp op) r)(ha:PE X a ta):PE X (.UnaryOp op a pos) (tUn r ta):=by
 intro pins s σ H Q I h;exact UnaryOp_ (thn (ha pins s σ H _ I h) λv s1⟨x,H1,I1,r1,q1⟩=>ho pins s1 σ H1 x v Q I1 r1 q1)
variable{f:pB->pB->Sem pB}
def opI{C:Int->Int->Prop}
  (rule:∀(i j:Int)(t u:Tok)(s:pC)(Q:pB->pC->Prop)(E:pB->pC->Prop),C i j->Q (.int (g i j) s.toks) {s with toks:=s.toks+1}->wpAny (model X.prog X.w) X.A (f (.int i t) (.int j u)) Q E s):
  OpR X f (rI C λi j=>.int (g i j)):=by
 intro pins s σ H x y v u Q I rx ry h;obtain⟨i,j,rfl,rfl,hc,q⟩:=h;obtain⟨t,rfl⟩:=rx;obtain⟨t',rfl⟩:=ry;exact rule i j t t' s _ _ hc ⟨.int (g i j),H,I.tok _,⟨_,rfl⟩,q⟩
def opI0
  (rule:∀(i j:Int)(t u:Tok)(s:pC)(Q:pB->pC->Prop)(E:pB->pC->Prop),Q (.int (g i j) s.toks) {s with toks:=s.toks+1}->wpAny (model X.prog X.w) X.A (f (.int i t) (.int j u)) Q E s):
  OpR X f (rI0 λi j=>.int (g i j)):=by
 intro pins s σ H x y v u Q I rx ry h;obtain⟨i,j,rfl,rfl,q⟩:=h;obtain⟨t,rfl⟩:=rx;obtain⟨t',rfl⟩:=ry;exact rule i j t t' s _ _ ⟨.int (g i j),H,I.tok _,⟨_,rfl⟩,q⟩
def opB0{g:Int->Int->Bool}
  (rule:∀(i j:Int)(t u:Tok)(s:pC)(Q:pB->pC->Prop)(E:pB->pC->Prop),Q (.bool (g i j)) s->wpAny (model X.prog X.w) X.A (f (.int i t) (.int j u)) Q E s):
  OpR X f (rI0 λi j=>.bl (g i j)):=by
 intro pins s σ H x y v u Q I rx ry h;obtain⟨i,j,rfl,rfl,q⟩:=h;obtain⟨t,rfl⟩:=rx;obtain⟨t',rfl⟩:=ry;exact rule i j t t' s _ _ ⟨.bl (g i j),H,I,rfl,q⟩
def CDiv(i j:Int):Prop:=0<j/\j<1073741824
def CPow(i j:Int):Prop:=0<=j/\j<=1000000/\i.natAbs<2^64
def CMul(i j:Int):Prop:=(-(2^64)<i/\i<2^64)∨(-(2^64)<j/\j<2^64)
def CMul.ok{i j:Int}(h:CMul i j):IntMulOk i j:=by
 rcases h with⟨h1,h2⟩|⟨h1,h2⟩
 ·exact .of_left (intBits_le_64 h1 h2)
 ·exact .of_right (intBits_le_64 h1 h2)
def zO:OpR X (AN .Add) (rI0 λi j=>.int (i+j)):=opI0 λ_ _ _ _ _ _ _ q=>add_int q
def yh:OpR X (AN .Sub) (rI0 λi j=>.int (i-j)):=opI0 λ_ _ _ _ _ _ _ q=>sub_int q
def wc:OpR X (AN .Mult) (rI CMul λi j=>.int (i*j)):=opI λ_ _ _ _ _ _ _ hc q=>mul_int q hc.ok
theorem yw:OpR X (AN .FloorDiv) (rI CDiv λi j=>.int (i/j)):=opI λi j _ _ _ _ _ hc q=>by
 have h1:(0:Int)<j:=hc.1;have h2:j<1073741824:=hc.2;exact floordiv_int (by lia) (by rw[Ar i (by lia)];exact q) (.inl (PyProof.noPylong_small (by lia)))
theorem zW:OpR X (AN .Mod) (rI (λ_ j=>0<j) λi j=>.int (i%j)):=opI λi j _ _ _ _ _ hc q=>by
 have h1:(0:Int)<j:=hc;exact mod_int' (by lia) (by rw[Qa i (by lia)];exact q)
def jL:OpR X (AN .Mod) (rI (λ_ j=>j≠0) λi j=>.int (i.fmod j)):=opI λ_ _ _ _ _ _ _ hc q=>mod_int' hc q
def VE:OpR X (AN .Pow) (rI CPow λi j=>.int (i^j.toNat)):=opI λ_ _ _ _ _ _ _ hc q=>pow_int_small hc.1 hc.2.1 hc.2.2 q
def unI{f:pB->Sem pB}{g:Int->Int}
  (rule:∀(i:Int)(t:Tok)(s:pC)(Q:pB->pC->Prop)(E:pB->pC->Prop),Q (.int (g i) s.toks) {s with toks:=s.toks+1}->wpAny (model X.prog X.w) X.A (f (.int i t)) Q E s):
  UnR X f (rU λi=>.int (g i)):=by
 intro pins s σ H x v Q I rx h;obtain⟨i,rfl,q⟩:=h;obtain⟨t,rfl⟩:=rx;exact rule i t s _ _ ⟨.int (g i),H,I.tok _,⟨_,rfl⟩,q⟩
def jn:UnR X (unaryOp .USub) (rU λi=>.int (-i)):=unI λ_ _ _ _ _ q=>neg_int q
end
noncomputable def scal:V->V->Bool
 |.non,.non=>true|.non,.int _=>true|.int _,.non=>true|.non,.bl _=>true|.bl _,.non=>true|.non,.str _=>true|.str _,.non=>true
 |.int _,.int _=>true|.bl _,.bl _=>true|.str _,.str _=>true|.byt _,.byt _=>true
 |.int _,.str _=>true|.str _,.int _=>true|.bl _,.str _=>true|.str _,.bl _=>true
 |_,_=>false
def rEq:R2:=λx y H Q=>scal x y=true/\Q (.bl (decide (x=y))) H
def rNe:R2:=λx y H Q=>scal x y=true/\Q (.bl (!decide (x=y))) H
def JH{i j:Int}:decide (V.int i=V.int j)=(i==j):=by
 rw[gO]
 simp
def JK{i j:Bool}:decide (V.bl i=V.bl j)=(i==j):=by
 rw[gO]
 simp
def JR{i j:Str}:decide (V.str i=V.str j)=(i==j):=by
 rw[gO]
 simp
def W9{i j:Array UInt8}:decide (V.byt i=V.byt j)=(i.toList==j.toList):=by
 rw[gO]
 cases i
 cases j
 simp
variable{op:CmpOp}
section
variable{X:Cx}{a b c:Expr}{ta tb tc:TE}{pos:Pos}
def zY{pins:List (Addr×Obj)}{σ:St}{H:Hp}{s:pC}{Q:VK}{k k':Bool}(I:Inv X pins σ H s)(q:Q (.bl k) H)(e:k=k'):EP X pins σ Q (.bool k') s:=by
 subst e;exact⟨.bl k,H,I,rfl,q⟩
theorem yQ:OpR X (UZ .Eq) rEq:=by
 intro pins s σ H x y v u Q I rx ry h;obtain⟨hs,q⟩:=h
 cases x with
 |non=>
  cases rx
  cases y with
  |non=>cases ry;exact PySem.EqNone.eq_none_none (zY I q (by simp))
  |bl j=>cases ry;exact PySem.EqNone.eq_none_bool (zY I q (by simp))
  |int j=>obtain⟨t',rfl⟩:=ry;exact PySem.EqNone.eq_none_int (zY I q (by simp))
  |str j=>obtain⟨t',rfl⟩:=ry;exact PySem.EqNone.eq_none_str (zY I q (by simp))
  |_=>exact absurd (show false=true from hs) uH
 |bl i=>
  cases rx
  cases y with
  |non=>cases ry;exact PySem.EqNone.eq_bool_none (zY I q (by simp))
  |bl j=>cases ry;exact eq_bool (zY I q JK)
  |str j=>obtain⟨t',rfl⟩:=ry;exact PySem.EqMixed.eq_bool_str (zY I q (by simp))
  |_=>exact absurd (show false=true from hs) uH
 |int i=>
  obtain⟨t,rfl⟩:=rx
  cases y with
  |non=>cases ry;exact PySem.EqNone.eq_int_none (zY I q (by simp))
  |int j=>obtain⟨t',rfl⟩:=ry;exact eq_int (zY I q JH)
  |str j=>obtain⟨t',rfl⟩:=ry;exact PySem.EqMixed.eq_int_str (zY I q (by simp))
  |_=>exact absurd (show false=true from hs) uH
 |str i=>
  obtain⟨t,rfl⟩:=rx
  cases y with
  |non=>cases ry;exact PySem.EqNone.eq_str_none (zY I q (by simp))
  |bl j=>cases ry;exact PySem.EqMixed.eq_str_bool (zY I q (by simp))
  |int j=>obtain⟨t',rfl⟩:=ry;exact PySem.EqMixed.eq_str_int (zY I q (by simp))
  |str j=>obtain⟨t',rfl⟩:=ry;exact eq_str (zY I q JR)
  |_=>exact absurd (show false=true from hs) uH
 |byt i=>
  obtain⟨t,rfl⟩:=rx
  cases y with
  |byt j=>obtain⟨t',rfl⟩:=ry;exact PySem.W.eq_bytes (zY I q W9)
  |_=>exact absurd (show false=true from hs) uH
 |_=>cases y<;>exact absurd (show false=true from hs) uH
theorem wR:OpR X (UZ .NotEq) rNe:=by
 intro pins s σ H x y v u Q I rx ry h;obtain⟨hs,q⟩:=h
 cases x with
 |non=>
  cases rx
  cases y with
  |non=>cases ry;exact PySem.EqNone.ne_none_none (zY I q (by simp))
  |bl j=>cases ry;exact PySem.EqNone.ne_none_bool (zY I q (by simp))
  |int j=>obtain⟨t',rfl⟩:=ry;exact PySem.EqNone.ne_none_int (zY I q (by simp))
  |str j=>obtain⟨t',rfl⟩:=ry;exact PySem.EqNone.ne_none_str (zY I q (by simp))
  |_=>exact absurd (show false=true from hs) uH
 |bl i=>
  cases rx
  cases y with
  |non=>cases ry;exact PySem.EqNone.ne_bool_none (zY I q (by simp))
  |bl j=>cases ry;exact ne_bool (zY I q (congrArg not JK))
  |str j=>obtain⟨t',rfl⟩:=ry;exact PySem.EqMixed.ne_bool_str (zY I q (by simp))
  |_=>exact absurd (show false=true from hs) uH
 |int i=>
  obtain⟨t,rfl⟩:=rx
  cases y with
  |non=>cases ry;exact PySem.EqNone.ne_int_none (zY I q (by simp))
  |int j=>obtain⟨t',rfl⟩:=ry;exact ne_int (zY I q (congrArg not JH))
  |str j=>obtain⟨t',rfl⟩:=ry;exact PySem.EqMixed.ne_int_str (zY I q (by simp))
  |_=>exact absurd (show false=true from hs) uH
 |str i=>
  obtain⟨t,rfl⟩:=rx
  cases y with
  |non=>cases ry;exact PySem.EqNone.ne_str_none (zY I q (by simp))
  |bl j=>cases ry;exact PySem.EqMixed.ne_str_bool (zY I q (by simp))
  |int j=>obtain⟨t',rfl⟩:=ry;exact PySem.EqMixed.ne_str_int (zY I q (by simp))
  |str j=>obtain⟨t',rfl⟩:=ry;exact ne_str (zY I q (congrArg not JR))
  |_=>exact absurd (show false=true from hs) uH
 |byt i=>
  obtain⟨t,rfl⟩:=rx
  cases y with
  |byt j=>obtain⟨t',rfl⟩:=ry;exact PySem.W.ne_bytes (zY I q (congrArg not W9))
  |_=>exact absurd (show false=true from hs) uH
 |_=>cases y<;>exact absurd (show false=true from hs) uH
def wI:OpR X (UZ .Lt) (rI0 λi j=>.bl (decide (i<j))):=opB0 λ_ _ _ _ _ _ _ q=>lt_int q
def op_le:OpR X (UZ .LtE) (rI0 λi j=>.bl (decide (i<=j))):=opB0 λ_ _ _ _ _ _ _ q=>le_int q
def jm:OpR X (UZ .Gt) (rI0 λi j=>.bl (decide (j<i))):=opB0 λ_ _ _ _ _ _ _ q=>gt_int q
def op_ge:OpR X (UZ .GtE) (rI0 λi j=>.bl (decide (j<=i))):=opB0 λ_ _ _ _ _ _ _ q=>ge_int q
theorem op_isN:OpR X (UZ .Is) (λx y H Q=>y=.non/\Q (.bl (decide (x=.non))) H):=by
 intro pins s σ H x y v u Q I rx ry h;obtain⟨rfl,q⟩:=h
 cases ry;refine is_none_gen (zY I q ?_)
 cases x<;>first
  |(cases rx;rfl)
  |(obtain⟨t,rfl⟩:=rx;rfl)
def nomark(b:Expr)(h:op≠.In:=by decide)(h2:op≠.NotIn:=by decide):CN op b=false:=by
 have e1:(op==CmpOp.In)=false:=by cases op<;>first|rfl|exact absurd rfl h
 have e2:(op==CmpOp.NotIn)=false:=by cases op<;>first|rfl|exact absurd rfl h2
 cases b<;>simp[CN,e1,e2]
def wa{r:R2}(ho:OpR X (UZ op) r)(ha:PE X a ta)(hb:PE X b tb)(hm:CN op b=false):PE X (.Compare a [op] [b] pos) (tOp r ta tb):=by
 intro pins s σ H Q I h;exact wpAny_Compare1 (binT ha hb I h λv u s2 x y H2 I2 rx ry q=>ho pins s2 σ H2 x y v u Q I2 rx ry q) hm
def jW(t:TE):TT:=λσ H Q=>t σ H λx H'=>∃k,x=.bl k/\Q k H'
def zF{r:R2}(ho:OpR X (UZ op) r)(ha:PE X a ta)(hb:PE X b tb)(hm:CN op b=false):PT X (.Compare a [op] [b] pos) (jW (tOp r ta tb)):=by
 intro pins s σ H Q I h;refine EV (thn (ha pins s σ H _ I h) λv s1⟨x,H1,I1,r1,q1⟩=>thn (hb pins s1 σ H1 _ I1 q1) λu s2⟨y,H2,I2,r2,q2⟩=>
  thn (ho pins s2 σ H2 x y v u _ I2 r1 r2 q2) λc s3⟨z,H3,I3,r3,k,e,q3⟩=>?_) hm
 subst e
 cases r3;exact Uo ⟨H3,I3,q3⟩
def line63:(sizeLine:Nat)<2^63:=by rw[DS];decide
variable{us:List pB}
theorem vals1{x:V}(r:zn [x] us):∃u,us=[u]/\zm x u:=by
 cases r with
 |cons r1 r2=>cases r2;exact⟨_,rfl,r1⟩
theorem vals2{x y:V}(r:zn [x,y] us):∃u w',us=[u,w']/\zm x u/\zm y w':=by
 cases r with
 |cons r1 r2=>
  cases r2 with
  |cons r3 r4=>cases r4;exact⟨_,_,rfl,r1,r3⟩
def Wq:yC X (.builtin "abs") (λxs H Q=>∃i,xs=[.int i]/\Q (.int (if i<0 then-i else i)) H):=by
 intro pins s σ H xs us Q I r h;obtain⟨i,rfl,q⟩:=h;obtain⟨u,rfl,t,rfl⟩:=vals1 r;exact call_abs_int λu tk=>⟨.int (if i<0 then-i else i),H,I.tok _,⟨_,rfl⟩,q⟩
def zey(hc:X.calm=true):yC X (.builtin "max") (λxs H Q=>∃i j,xs=[.int i,.int j]/\Q (.int (if j>i then j else i)) H):=by
 intro pins s σ H xs us Q I r h;obtain⟨i,j,rfl,q⟩:=h;obtain⟨u,w',rfl,⟨t,rfl⟩,⟨t',rfl⟩⟩:=vals2 r;refine max_two_ints (I.ok.hd hc) λh' tk k=>⟨_,H,I.kept k,?_,q⟩
 by_cases hj:j>i
 ·rw[if_pos hj,if_pos hj];exact⟨_,rfl⟩
 ·rw[if_neg hj,if_neg hj];exact⟨_,rfl⟩
def VR(hc:X.calm=true):yC X (.builtin "min") (λxs H Q=>∃i j,xs=[.int i,.int j]/\Q (.int (if j<i then j else i)) H):=by
 intro pins s σ H xs us Q I r h;obtain⟨i,j,rfl,q⟩:=h;obtain⟨u,w',rfl,⟨t,rfl⟩,⟨t',rfl⟩⟩:=vals2 r;refine min_two_ints (I.ok.hd hc) λh' tk k=>⟨_,H,I.kept k,?_,q⟩
 by_cases hj:j<i
 ·rw[if_pos hj,if_pos hj];exact⟨_,rfl⟩
 ·rw[if_neg hj,if_neg hj];exact⟨_,rfl⟩
end
theorem xP.some_of{v:V}{o:Option pB}(r:xP (some v) o):∃u,o=some u/\zm v u:=by
 cases o with
 |none=>exact(show False from r).elim
 |some u=>exact⟨u,rfl,r⟩
structure zX(k:Nat)(A:uQ):Prop where
 hd:A.handled=none
 dp:A.depth+3*k+5<recursionLimit
 un:A.units+16*k+200<cLine
theorem zX.mono{j k:Nat}{A:uQ}(r:zX k A)(h:j<=k):zX j A:=⟨r.hd,by have:=r.dp;lia,by have:=r.un;lia⟩
theorem zX.deeper{k:Nat}{A:uQ}(r:zX (k+1) A)(env:Env):zX k (A.deeper env):=
 ⟨r.hd,by have:=r.dp;show A.depth+1+3*k+5<_;lia,by have:=r.un;show A.units+3+16*k+200<_;lia⟩
theorem zX.in1{k:Nat}{A:uQ}(r:zX (k+1) A):zX k A.in1:=
 ⟨r.hd,by have:=r.dp;show A.depth+3*k+5<_;lia,by have:=r.un;show A.units+1+16*k+200<_;lia⟩
theorem zX.depth{k:Nat}{A:uQ}(r:zX k A):A.depth<recursionLimit:=by have:=r.dp;lia
theorem zX.units{k:Nat}{A:uQ}(r:zX k A):A.units+64<cLine:=by have:=r.un;lia
def xx:TA:=λ_ H Q=>Q [] H
def yy(ta:TE)(tr:TA):TA:=λσ H Q=>ta σ H λx H1=>tr σ H1 λxs H2=>Q (x::xs) H2
section
variable{X:Cx}{e:Expr}{es:List Expr}{te:TE}{t:TA}{pos:Pos}
def yV:PA X [] xx:=λ_ _ _ _ H Q I h=>DT ⟨[],H,I,.nil,h⟩
def xg(ha:PE X e te)(hr:PA X es t)(hs:ur (e::es) X.env=(false,eval e X.env)::ur es X.env:=by rfl):PA X (e::es) (yy te t):=by
 intro pos pins s σ H Q I h;rw[hs];show wpAny _ _ (spliced ((false,eval e X.env)::Ad pos (ur es X.env))) _ _ s;refine BW (thn (ha pins s σ H _ I h) λu s1⟨x,H1,I1,r1,q1⟩=>?_);exact thn (hr pos pins s1 σ H1 _ I1 q1) λus s2⟨xs,H2,I2,r2,q2⟩=>⟨x::xs,H2,I2,.cons r1 r2,q2⟩
def qt(t:TA):TE:=λσ H Q=>t σ H λxs H1=>xs.length<=sizeLine/\∀p,H1 p=none->Q (.ref p) (upd H1 p (.tup xs))
def jK(t:TA):TE:=λσ H Q=>t σ H λxs H1=>xs.length<=sizeLine/\∀p,H1 p=none->Q (.ref p) (upd H1 p (.lst xs))
def yc{x1}(h:PA X es t):PE X (.Tuple es x1 pos) (qt t):=by
 intro pins s σ H Q I hq;refine wpAny_Tuple_spliced (thn (h pos pins s σ H _ I hq) λus s1⟨xs,H1,I1,r,z,q⟩=>⟨by rw[←r.length];exact z,?_⟩)
 have hf:H1 s1.heap.objs.size=none:=I1.hok.fresh (pJ _);refine⟨.ref s1.heap.objs.size,upd H1 s1.heap.objs.size (.tup xs),I1.laid (t':=s1.toks) (λb u e=>pH _ e) (pJ _) ?_,rfl,q _ hf⟩;exact⟨z,us,r,⟨_,pd _ rfl,rfl,_,rfl⟩⟩
def xq(h:PA X es t):PE X (.List es pos) (jK t):=by
 intro pins s σ H Q I hq;refine wpAny_List_spliced (thn (h pos pins s σ H _ I hq) λus s1⟨xs,H1,I1,r,z,q⟩=>⟨by rw[←r.length];exact z,?_⟩)
 have hf:H1 s1.heap.objs.size=none:=I1.hok.fresh (pJ _);refine⟨.ref s1.heap.objs.size,upd H1 s1.heap.objs.size (.lst xs),I1.laid (t':=s1.toks) (λb u e=>pH _ e) (pJ _) ?_,rfl,q _ hf⟩;exact⟨z,us,0,r,pd _ rfl⟩
end
abbrev Sp:=List V->Hp->VK->XK->Prop
abbrev CXT:=List Env->Hp->pC->XK->pB->pC->Prop
structure Env0(P:pi)(w:uR)(K:pF)(mg:Str->Option pB)(base:Heap)(A:uQ)(outer:List Env)(s:pC)(H:Hp):Prop where
 frames:A.frames=some outer
 mod:Mod K mg base
 bs:∀b o,base.get? b=some o->s.heap.get? b=some o/\H b=none
 bsz:base.objs.size<=s.heap.objs.size
 funs:s.heap.FunFrames base outer
 frf:∀b∈frs outer,H b=none
 hok:HOk P w H s.heap
 bare:DR s.gens
def CE(outer:List Env)(P:pi)(w:uR)(H:Hp)(s:pC)(Q:VK)(u:pB)(s':pC):Prop:=
 ∃v H',s'.os=s.os/\DR s'.gens/\Un (frs outer) [] H H' s.heap s'.heap/\HOk P w H' s'.heap/\zm v u/\Q v H'
def CR(CX:CXT)(outer:List Env)(P:pi)(w:uR)(H:Hp)(s:pC)(Q:VK)(E:XK)(r:Gq)(s':pC):Prop:=
 match r with
 |.ok (.ret u)=>CE outer P w H s Q u s'
 |.ok _=>False
 |.error e=>CX outer H s E e s'
structure zx(P:pi)(w:uR)(K:pF)(mg:Str->Option pB)(base:Heap)(CX:CXT)(k:Nat)(f:Addr)(fd:UN)(ps:List Str)(sp:Sp):Prop where
 len:∀vs H Q E,sp vs H Q E->vs.length=ps.length
 run:∀(A:uQ)(outer:List Env)(s:pC)(H:Hp)(args:Args)(us:List pB)(vs:List V)(Q:VK)(E:XK),zX k A->Env0 P w K mg base A outer s H->FY s fd args (ps.zip us)->zn vs us->sp vs H Q E->
  BN (model P w) A (.call (.ref f) args) (CR CX outer P w H s Q E) s
variable{w:uR}{K:pF}{mg:Str->Option pB}{base:Heap}{outer:List Env}
def Env0.in1{P:pi}{A:uQ}{s:pC}{H:Hp}(e:Env0 P w K mg base A outer s H):
  Env0 P w K mg base A.in1 outer s H:=⟨e.frames,e.mod,e.bs,e.bsz,e.funs,e.frf,e.hok,e.bare⟩
section
variable{X:Cx}{pins:List (Addr×Obj)}{σ:St}{H:Hp}{s s':pC}
def Inv.env0(I:Inv X pins σ H s):Env0 X.prog X.w X.K X.mg X.base X.A X.stack s H:=
 ⟨I.ok.frames,I.ok.mod,I.bs,uK I.ok.bsz I.sz,I.stack,I.stkFree,I.hok,I.bare⟩
def Inv.after{Q:VK}{u:pB}(I:Inv X pins σ H s)(h:CE X.stack X.prog X.w H s Q u s'):EP X pins σ Q u s':=by
 obtain⟨v,H',os,bare,un,hok,r,q⟩:=h;obtain⟨hh,g,d,t,os'⟩:=s';obtain rfl:os'=s.os:=os;exact⟨v,H',I.call (h':=hh) (g':=g) (d':=d) (t':=t) (ch:=[]) un hok bare (λb z=>absurd z (by simp)),r,q⟩
end
def v5(sp:Sp)(dvs:List V)(E:XK)(t:TA):TE:=λσ H Q=>t σ H λvs H1=>sp (vs++dvs) H1 Q E
def Binds(K:pF)(fd:UN)(ps:List Str)(ds:List pB):Prop:=
 ∀(s:pC)(us:List pB),K.In s.heap->(us++ds).length=ps.length->FY s fd ⟨us,[]⟩ (ps.zip (us++ds))
def Binds.all{fd:UN}{ps:List Str}(h:∀us:List pB,us.length=ps.length->AF fd ⟨us,[]⟩=pure (ps.zip us)):Binds K fd ps []:=λs us _ hl=>by
 rw[UF] at hl⊢;exact .of_eq (h us hl)
def Passes(CX:CXT)(X:Cx)(E:XK):Prop:=∀(pins:List (Addr×Obj))(σ:St)(H:Hp)(s:pC)(e:pB)(s':pC),Inv X pins σ H s->CX X.stack H s E e s'->X.xe e s'
variable{us:List pB}
section
variable{X:Cx}{CX:CXT}{k:Nat}{f C:Addr}{fd:UN}{ps:List Str}{sp:Sp}{dvs:List V}{ds:List pB}{E:XK}{x m:Str}{p pos apos:Pos}{e o:Expr}{es:List Expr}{ta:TE}{t:TA}
theorem run_fn{pins:List (Addr×Obj)}{σ:St}{H:Hp}{s:pC}{Q:VK}{vs:List V}(F:zx X.prog X.w X.K X.mg X.base CX k f fd ps sp)(hr:zX k X.A)(hb:Binds X.K fd ps ds)(hd:zn dvs ds)(hx:Passes CX X E)
  (I:Inv X pins σ H s)(r:zn vs us)(h:sp (vs++dvs) H Q E):wpAny (model X.prog X.w) X.A (call (.ref f) us) (EP X pins σ Q) X.xe s:=by
 have r2:zn (vs++dvs) (us++ds):=r.append hd;have hl:(us++ds).length=ps.length:=by rw[←r2.length];exact F.len _ _ _ _ h
 refine Gr (Bk (F.run X.A X.stack s H ⟨us,[]⟩ (us++ds) (vs++dvs) Q E hr I.env0 (hb s us I.kIn hl) r2 h) λr s' hq=>?_)
 cases r with
 |error e=>exact hx pins σ H s e s' I hq
 |ok fl=>
  cases fl with
  |ret u=>exact I.after hq
  |next=>exact UH hq
  |brk=>exact UH hq
  |cont=>exact UH hq
def j8(F:zx X.prog X.w X.K X.mg X.base CX k f fd ps sp)(hr:zX k X.A)(hg:Gl X x)(hm:X.mg x=some (.ref f))(hk:AO X.K (.ref f)=true)(hb:Binds X.K fd ps ds)(hd:zn dvs ds)(hx:Passes CX X E)
  (ha:PA X (e::es) t)(hdb:(x==("__debug__":Str))=false:=by decide)(he:ur (e::es) X.env=(false,eval e X.env)::ur es X.env:=by rfl)(hpl:(Ad pos (ur es X.env)).any (·.1)=false:=by rfl):
  PE X (.Call (.Name x p) (e::es) [] pos) (v5 sp dvs E t):=by
 intro pins s σ H Q I h;refine gX (ld_glob I hg hm ?_ hdb);refine PySem.W.callWith_K (h₀:=X.base) I.ok.mod.kin hk (thn (ha pos pins s σ H _ I h) λus s1⟨vs,H1,I1,r,q⟩=>⟨I1.kIn,?_⟩) he hpl;exact run_fn F hr hb hd hx I1 r q
end
def PK(X:Cx)(kws:List Ex)(t:TA):Prop:=
 ∀(pos:Pos)(pins:List (Addr×Obj))(s:pC)(σ:St)(H:Hp)(Q:List V->Hp->Prop),Inv X pins σ H s->t σ H Q->wpAny (model X.prog X.w) X.A (evalAll ((Dl pos (Bd kws X.env)).map (·.2))) (AP X pins σ Q) X.xe s
section
variable{X:Cx}{CX:CXT}{k:Nat}{f C:Addr}{fd:UN}{ps ks:List Str}{sp:Sp}{E:XK}{x m:Str}{p pos apos kpos:Pos}{e o:Expr}{es:List Expr}{kws:List Ex}{te ta:TE}{t tk:TA}{nm:Option Str}
def pk_nil:PK X [] xx:=λ_ _ _ _ H Q I h=>wpAny_evalAll_nil ⟨[],H,I,.nil,h⟩
def pk_cons(ha:PE X e te)(hr:PK X kws t):PK X (⟨nm,e,kpos⟩::kws) (yy te t):=by
 intro pos pins s σ H Q I h;show wpAny _ _ (evalAll ((do let v ←eval e X.env;standAt pos;pure v)::(Dl pos (Bd kws X.env)).map (·.2))) _ _ s;refine wpAny_evalAll_cons (pA (thn (ha pins s σ H _ I h) λu s1⟨x,H1,I1,r1,q1⟩=>pA (CO (pK ?_))));exact thn (hr pos pins s1 σ H1 _ I1 q1) λus s2⟨xs,H2,I2,r2,q2⟩=>⟨x::xs,H2,I2,.cons r1 r2,q2⟩
variable{g:List pB->List pB->List pB}{gV:List V->List V->List V}
end
structure zA(N P:List Str)(sc:Scope):Prop where
 kind:sc.kind=.function
 co:sc.isCoroutine=false
 gen:sc.isGenerator=false
 nd:N.Nodup
 pre:N.take P.length=P
 par:∀x∈P,sc.names.lookup x=some .local∨sc.names.lookup x=some .cell
 nofree:∀y∈sc.names,y.2≠.free
theorem V8{kindOf:Str->Option Cu}{x:Str}:∀{binds:List (Str×pB)}{m:Str->Option pB},(∀v,(x,v)∉binds)->bindL kindOf binds m x=m x
 |[],_,_=>rfl
 |(n,v)::r,m,h=>by
  unfold bindL;rw[V8 λw hw=>h w (pY _ hw)]
  split
  ·have:x≠n:=by rintro rfl;exact h v pX
   simp[this]
  ·rfl
theorem Z4{kindOf:Str->Option Cu}{x:Str}:∀{binds:List (Str×pB)}{m:Str->Option pB},(∀v,(x,v)∉binds)->bindC kindOf binds m x=m x
 |[],_,_=>rfl
 |(n,v)::r,m,h=>by
  unfold bindC;rw[Z4 λw hw=>h w (pY _ hw)]
  split
  ·rfl
  ·have:x≠n:=by rintro rfl;exact h v pX
   simp[this]
theorem Zc{kindOf:Str->Option Cu}{x:Str}{v:pB}:∀{P:List Str}{vs:List pB}{i:Nat}{m:Str->Option pB},P.Nodup->P[i]?=some x->vs[i]?=some v->kindOf x=some .local->
  bindL kindOf (P.zip vs) m x=some v
 |[],_,_,_,_,h,_,_=>by simp at h
 |_::_,[],_,_,_,_,h,_=>by simp at h
 |p::P,w::vs,0,m,nd,h1,h2,hk=>by
  simp at h1 h2;subst h1;subst h2
  show bindL kindOf ((p,w)::P.zip vs) m p=_
  unfold bindL;rw[V8 λv hv=>(Ub.mp nd).1 (Ca hv).1,if_pos hk]
  simp
 |p::P,w::vs,i+1,m,nd,h1,h2,hk=>by
  show bindL kindOf ((p,w)::P.zip vs) m x=_
  unfold bindL;exact Zc (i:=i) (Ub.mp nd).2 (by simpa using h1) (by simpa using h2) hk
theorem Vx{kindOf:Str->Option Cu}{x:Str}{v:pB}:∀{P:List Str}{vs:List pB}{i:Nat}{m:Str->Option pB},P.Nodup->P[i]?=some x->vs[i]?=some v->kindOf x≠some .local->
  bindC kindOf (P.zip vs) m x=some v
 |[],_,_,_,_,h,_,_=>by simp at h
 |_::_,[],_,_,_,_,h,_=>by simp at h
 |p::P,w::vs,0,m,nd,h1,h2,hk=>by
  simp at h1 h2;subst h1;subst h2
  show bindC kindOf ((p,w)::P.zip vs) m p=_
  unfold bindC;rw[Z4 λv hv=>(Ub.mp nd).1 (Ca hv).1,if_neg hk]
  simp
 |p::P,w::vs,i+1,m,nd,h1,h2,hk=>by
  show bindC kindOf ((p,w)::P.zip vs) m x=_
  unfold bindC;exact Vx (i:=i) (Ub.mp nd).2 (by simpa using h1) (by simpa using h2) hk
noncomputable def start(N:List Str)(vs:List V):St:=vs.map some++As (N.length-vs.length) none
noncomputable def xM(CX:CXT)(P:pi)(w:uR)(K:pF)(mg:Str->Option pB)(base:Heap)(N:List Str)(qual:Str)(scope:Scope)(f:Addr)(cd:pB)(A:uQ)(outer:List Env)(s:pC)(H:Hp)(E:XK):Cx where
 prog:=P
 w:=w
 K:=K
 mg:=mg
 base:=base
 A:=A.deeper (gu qual scope s.heap.objs.size f cd)
 N:=N
 s₀:=s
 H₀:=H
 env:=gu qual scope s.heap.objs.size f cd
 outer:=outer
 stack:=gu qual scope s.heap.objs.size f cd::outer
 ex:=[]
 calm:=true
 fn:=λ_=>true
 pn:=[]
 xe:=λe s'=>wpAny (model P w) (A.deeper (gu qual scope s.heap.objs.size f cd)) (leaving (gu qual scope s.heap.objs.size f cd) e) (λ_ s''=>CX outer H s E e s'') (λe' s''=>CX outer H s E e' s'') s'
def W6{sc:Scope}{x:Str}(h:sc.names.lookup x=some .cell):∃c,(HW n sc.names []).lookup x=some c:=by
 have q:=Dz sc.names n [] (.inl h);exact BD.mp q
variable{ps:List Str}{qual:Str}{scope:Scope}
theorem zc0{CX:CXT}{P:pi}{N:List Str}{f:Addr}{cd:pB}{A:uQ}{s s1:pC}{H:Hp}{E:XK}{vs:List V}
  (S:zA N ps scope)(hd:A.handled=none)(e0:Env0 P w K mg base A outer s H)(hl:vs.length=ps.length)(r:zn vs us)
  (x:InCallC s s.heap.objs.size (bindL (gu qual scope s.heap.objs.size f cd).kindOf (ps.zip us) λ_=>none) (HW (s.heap.objs.size+1) scope.names []) (bindC (gu qual scope s.heap.objs.size f cd).kindOf (ps.zip us) λ_=>none) s1):
  Inv (xM CX P w K mg base N qual scope f cd A outer s H E) [] (start N vs) H s1:=by
 have hpl:ps.length<=N.length:=by have:=congrArg AZ S.pre;rw[pV] at this;lia
 obtain⟨h1,tk,rfl,hk⟩:=x.done;have noA:∀b:Addr,b∉(xM CX P w K mg base N qual scope f cd A outer s H E).ex:=λb z=>absurd (show b∈([]:List Addr) from z) (by simp)
 refine⟨⟨e0.mod,S.kind,rfl,rfl,pJ _,λy z c h1 h2=>?_,λy hy=>?_,λy c _ h=>?_,λ_=>hd,CP e0.frames,.inr ⟨rfl,rfl⟩,λb z=>absurd z (noA b),e0.bs,e0.bsz,λb _ _=>noA b,λb z=>absurd z (noA b),e0.funs,e0.frf⟩,
  rfl,e0.bare,Un.kept hk,⟨_,x.toInCall.ns,λi y v h1 h2 h3=>?_⟩,λy c h=>⟨_,x.cell y c h⟩,e0.hok.fresh (pJ _),λy c h=>?_,λp hp=>absurd (show p∈([]:List (Addr×Obj)) from hp) (by simp),e0.hok.kept hk,?_⟩
 ·exact name_of_addr x.apart (QK h1) (QK h2)
 ·have hy:scope.names.lookup y=some .cell∨scope.names.lookup y=some .free:=hy;rcases hy with hy|hy
  ·exact W6 hy
  ·exact absurd rfl (S.nofree _ (QK hy))
 ·exact uq (x.above y c (QK h))
 ·have hi:i<vs.length:=by
   unfold start at h2
   by_cases hi:i<vs.length
   ·exact hi
   ·rw[Qb (by simpa using hi)] at h2
    rw[Dm] at h2
    split at h2<;>cases h2
  have ha:vs[i]?=some v:=by
   unfold start at h2;rw[Qf (by simpa using hi),pQ] at h2
   cases e:vs[i]? with
   |none=>rw[e] at h2;cases h2
   |some a=>rw[e] at h2;cases h2;rfl
  obtain⟨u,hu,rv⟩:=r.get ha;have hp:ps[i]?=some y:=by
   rw[←S.pre,BE (by lia)];exact h1
  have ndP:ps.Nodup:=by rw[←S.pre];exact S.nd.sublist (Bl _ _)
  refine⟨u,rv,?_⟩;rcases S.par y (pS hp) with k|k
  ·exact .inl ⟨k,Zc ndP hp hu k⟩
  ·obtain⟨c,e⟩:=W6 (n:=s.heap.objs.size+1) k;refine .inr ⟨.inl k,c,e,?_⟩;have q:=x.cell y c e;rw[Vx ndP hp hu (by show scope.names.lookup y≠_;rw[k];decide)] at q
   exact q
 ·exact e0.hok.fresh (uq (x.above y c (QK h)))
 ·unfold start;show _=N.length;rw[pM,pL,gk];lia
theorem fn_of{CX:CXT}{P:pi}{k:Nat}{f:Addr}{name:Str}{params:Be}{dV kV doc pm cdv ct oc:pB}{an od:Option Addr}
  {osl:Array (Option pB)}{N:List Str}{sp:Sp}(lk:K.lookup f=some ⟨oc,od,.func (UA name qual params body scope dV kV doc pm an cdv ct),osl⟩)(hcd:gY K cdv qual=true)(S:zA N ps scope)
  (len:∀vs H Q E,sp vs H Q E->vs.length=ps.length)
  (hbody:∀(A:uQ)(outer:List Env)(s:pC)(H:Hp)(vs:List V)(Q:VK)(E:XK),zX k (A.deeper (gu qual scope s.heap.objs.size f cdv))->sp vs H Q E->
   ∃t,PSs (xM CX P w K mg base N qual scope f cdv A outer s H E) body t/\t {nx:=λ_ H'=>Q .non H',rt:=Q} (start N vs) H):
  zx P w K mg base CX (k+1) f (UA name qual params body scope dV kV doc pm an cdv ct) ps sp:=by
 refine⟨len,λA outer s H args us vs Q E hr e0 hb r hsp=>?_⟩;have hl:=len _ _ _ _ hsp;have KX:K.In s.heap:=e0.mod.kin.keeps λb o e=>(e0.bs b o e).1;have lim:s.heap.NoLimit:=e0.mod.nolimit.keeps λb o e=>(e0.bs b o e).1;have hkind:∀y∈ps.zip us,scope.names.lookup y.1=some .local∨(scope.names.lookup y.1=some .cell/\((HW (s.heap.objs.size+1) scope.names []).lookup y.1).isSome=true):=λ⟨n,v⟩ hy=>by
  rcases S.par n (Ca hy).1 with q|q
  ·exact .inl q
  ·exact .inr ⟨q,Dz _ _ _ (.inl q)⟩
 refine codeAny_call_function hr.depth (KX _ _ lk) rfl S.co S.gen rfl (PySem.W.codeRec_of KX hcd) (hb _ _ _ _ ?_);refine wpAny_newFunctionEnv_cells S.kind hkind λenv he s1 x=>?_;subst he;refine⟨lim.keeps x.toInCall.keep,codeAny_func ?_⟩;obtain⟨t,ht,hq⟩:=hbody A outer s H vs Q E (hr.deeper _) hsp;have I:Inv (xM CX P w K mg base N qual scope f cdv A outer s H E) [] (start N vs) H s1:=zc0 S hr.hd e0 hl r x;refine Qe (ht [] s1 (start N vs) H _ I hq) (λfl s' hs=>?_) λe s' hs=>hs;have fin:∀{σ':St}{H':Hp}{v:V}{u:pB},Inv (xM CX P w K mg base N qual scope f cdv A outer s H E) [] σ' H' s'->zm v u->Q v H'->CE outer P w H s Q u s':=
  λ{σ' H' v u} J rv q=>⟨v,H',J.os,J.bare,J.base,J.hok,rv,q⟩
 cases fl with
 |ret u=>
  obtain⟨v,σ',H',J,rv,q⟩:=hs;exact fin J rv q
 |next=>
  obtain⟨σ',H',J,q⟩:=hs;exact fin (v:=V.non) (u:=ut) J rfl q
 |brk=>
  obtain⟨_,_,_,q⟩:=hs;exact UH q
 |cont=>
  obtain⟨_,_,_,q⟩:=hs;exact UH q
section
variable{X:Cx}{x:Str}{p pos:Pos}{e:Expr}{es:List Expr}{t:TA}{id T:String}{r:List V->Hp->VK->Prop}
def tCB(r:List V->Hp->VK->Prop)(t:TA):TE:=λσ H Q=>t σ H λvs H1=>r vs H1 Q
def ye(hc:yC X (.builtin id) r)(hg:Gl X x)(hm:X.mg x=none)(hv:Qc x=some (.builtin id))(ha:PA X (e::es) t)(hn:x≠"__name__":=by decide)(hdb:(x==("__debug__":Str))=false:=by decide)
  (he:ur (e::es) X.env=(false,eval e X.env)::ur es X.env:=by rfl) (hpl:(Ad pos (ur es X.env)).any (·.1)=false:=by rfl):PE X (.Call (.Name x p) (e::es) [] pos) (tCB r t):=by
 intro pins s σ H Q I h;refine gX (xG I hg hm hv ?_ hn hdb);exact PyProof.Rows.callWith_builtin1 (thn (ha pos pins s σ H _ I h) λus s1⟨vs,H1,I1,r1,q1⟩=>hc pins s1 σ H1 vs us Q I1 r1 q1) he hpl
def vq(hc:yC X (.type T) r)(hg:Gl X x)(hm:X.mg x=none)(hv:Qc x=some (.type T))(ha:PA X (e::es) t)(hn:x≠"__name__":=by decide)(hdb:(x==("__debug__":Str))=false:=by decide)
  (he:ur (e::es) X.env=(false,eval e X.env)::ur es X.env:=by rfl) (hpl:(Ad pos (ur es X.env)).any (·.1)=false:=by rfl):PE X (.Call (.Name x p) (e::es) [] pos) (tCB r t):=by
 intro pins s σ H Q I h;refine gX (xG I hg hm hv ?_ hn hdb);exact Ql (thn (ha pos pins s σ H _ I h) λus s1⟨vs,H1,I1,r1,q1⟩=>hc pins s1 σ H1 vs us Q I1 r1 q1) he hpl
end
end L2
namespace HT
open PySem PyProof.Rows
noncomputable def lexLt:List Int->List Int->Bool
 |[],[]=>false
 |[],_::_=>true
 |_::_,[]=>false
 |x::xs,y::ys=>if x=y then lexLt xs ys else decide (x<y)
def lexLt_cons(x y:Int)(xs ys:List Int):lexLt (x::xs) (y::ys)=if x=y then lexLt xs ys else decide (x<y):=rfl
def lexLt_nil_nil:lexLt [] []=false:=rfl
def eqAt_int(A:uQ)(s:pC)(a:Int)(t:Tok)(c:Int)(u:Tok):∃e,SeqAt.EqAt A s (.int a t) (.int c u) e/\(e=true↔a=c):=
 ⟨(a==c),SeqAt.EqAt.int_int a t c u,by simp⟩
section
variable{prog:pi}{w:uR}{A:uQ}{E:pB->pC->Prop}{s:pC}
def cat_tup{t b:Addr}{vs ws:List pB}{Q:pB->pC->Prop}(ht:IsTup s.heap t vs.toArray)(hb:IsTup s.heap b ws.toArray)(hv:vs≠[])
  (h1:ws=[]->Q (.ref t) s)(h2:ws≠[]->Q (.ref s.heap.objs.size) {s with heap:=s.heap.push {cls:=.type "tuple",data:=.seq (vs++ws).toArray}})
  (hsz:vs.length+ws.length<=sizeLine):wpAny (model prog w) A (AN .Add (.ref t) (.ref b)) Q E s:=by
 obtain⟨⟨cls,dd,data,sl⟩,ho,hc,n,hd⟩:=id ht;obtain⟨⟨cls2,dd2,data2,sl2⟩,ho2,hc2,n2,hd2⟩:=id hb
 simp only at hc hd hc2 hd2
 subst hc hd hc2 hd2;have e:vs.toArray++ws.toArray=(vs++ws).toArray:=by simp
 by_cases hw:ws=[]
 ·exact concat_meets ⟨_,ho,rfl⟩ ⟨_,ho2,rfl⟩ GC seq_tuple_add EA Dn (DY _ _)
   (tuple_addW1 t b vs.toArray ws.toArray n n2 dd dd2 sl sl2 (by simpa using hv) (by simp[hw])) ⟨ho,ho2,h1 hw⟩
 ·refine concat_meets ⟨_,ho,rfl⟩ ⟨_,ho2,rfl⟩ GC seq_tuple_add EA Dn (DY _ _)
   (tuple_addW2 t b vs.toArray ws.toArray n n2 dd dd2 sl sl2 (by simpa using hv) (by simpa using hw) (by rw[pe,pe];exact hsz)) ⟨ho,ho2,?_⟩
  rw[e];exact h2 hw
noncomputable def sIx(n d:Nat):Option Int->Nat
 |none=>d
 |some v=>if v<0 then(v+(n:Int)).toNat else min v.toNat n
def sIx_none(n d:Nat):sIx n d none=d:=rfl
theorem sIx_nat(n d k:Nat):sIx n d (some (k:Int))=min k n:=by
 show(if(k:Int)<0 then((k:Int)+(n:Int)).toNat else min (k:Int).toNat n)=min k n
 rw[if_neg (by lia),UX]
end
end HT
namespace L2
open PySem PySem.Spec PyProof.Rows
abbrev TO:=St->Hp->(Option Int->Hp->Prop)->Prop
def PO(X:Cx)(e:Option Expr)(t:TO):Prop:=
 ∀(pins:List (Addr×Obj))(s:pC)(σ:St)(H:Hp)(Q:Option Int->Hp->Prop),Inv X pins σ H s->t σ H Q->
  wpAny (model X.prog X.w) X.A (evalPart e X.env) (λu s'=>∃o H',Inv X pins σ H' s'/\IsPart u o/\Q o H') X.xe s
def JC:TO:=λ_ H Q=>Q none H
def tPart(t:TE):TO:=λσ H Q=>t σ H λx H1=>∃i,x=.int i/\Q (some i) H1
theorem qd{ns:List Int}:∀{us:List pB},zn (ns.map V.int) us->gq us ns:=by
 induction ns with
 |nil=>intro us r;rw[Ux] at r;cases r;exact .nil
 |cons n ns ih=>
  intro us r;rw[pj] at r
  cases r with
  |cons r1 r2=>
   obtain⟨t,e⟩:=r1;subst e;exact .cons n t (ih r2)
section
variable{X:Cx}{e:Expr}{te:TE}{lo hi:Option Expr}{tl th:TO}{pos p2:Pos}
def jl:PO X none JC:=by
 intro pins s σ H Q I h;rw[evalPart_none];exact pK ⟨none,H,I,.none,h⟩
def jS(h:PE X e te):PO X (some e) (tPart te):=by
 intro pins s σ H Q I hw;rw[evalPart_some];refine thn (h pins s σ H _ I hw) λu s1⟨x,H1,I1,r1,q1⟩=>?_;obtain⟨i,rfl,q⟩:=q1;obtain⟨t,rfl⟩:=r1;exact⟨some i,H1,I1,.int i t,q⟩
def SlR(X:Cx)(r:V->Option Int->Option Int->Hp->VK->Prop):Prop:=
 ∀(pins:List (Addr×Obj))(s:pC)(σ:St)(H:Hp)(x:V)(v vl vu:pB)(lo hi:Option Int)(sl:Addr)(Q:VK),Inv X pins σ H s->zm x v->s.heap.IsSliceOf sl vl vu .none->IsPart vl lo->IsPart vu hi->r x lo hi H Q->
  ∃T id,typeLookup (.type T) "__getitem__"=pure (some (.builtin id))/\s.TypeIs v T/\wpAny (model X.prog X.w) X.A (FZ v (.ref sl)) (EP X pins σ Q) X.xe s
def tSl(r:V->Option Int->Option Int->Hp->VK->Prop)(te:TE)(tl th:TO):TE:=λσ H Q=>te σ H λx H1=>tl σ H1 λl H2=>th σ H2 λu H3=>r x l u H3 Q
def jf{r:V->Option Int->Option Int->Hp->VK->Prop}(hr:SlR X r)(he:PE X e te)(hl:PO X lo tl)(hu:PO X hi th):PE X (.Subscript e (.Slice lo hi none p2) pos) (tSl r te tl th):=by
 intro pins s σ H Q I h;refine Gs (thn (he pins s σ H _ I h) λv s1⟨x,H1,I1,r1,q1⟩=>?_);refine wpAny_Slice (thn (hl pins s1 σ H1 _ I1 q1) λvl s2⟨l,H2,I2,pl,q2⟩=>thn (hu pins s2 σ H2 _ I2 q2) λvu s3⟨u,H3,I3,pu,q3⟩=>?_);rw[evalPart_none];refine pK ?_;have I4:Inv X pins σ H3 {s3 with heap:=s3.heap.push {cls:=.type "slice",data:=.fields #[vl,vu,.none]}}:=I3.kept (t':=s3.toks) λb ob q=>pH _ q;obtain⟨T,id,hT,ht,hg⟩:=hr pins {s3 with heap:=s3.heap.push {cls:=.type "slice",data:=.fields #[vl,vu,.none]}} σ H3 x v vl vu l u s3.heap.objs.size Q I4 r1 (Heap.IsSliceOf.new ..) pl pu q3;show wpAny (model X.prog X.w) X.A (FF e (.Slice lo hi none p2) v (.ref s3.heap.objs.size)) (EP X pins σ Q) X.xe {s3 with heap:=s3.heap.push {cls:=.type "slice",data:=.fields #[vl,vu,.none]}};exact tail_any (ops:=[.ref s3.heap.objs.size,v]) ht hT hg (by with_unfolding_all rfl)
noncomputable def yr(xs:List V)(lo hi:Option Int):List V:=(xs.drop (HT.sIx xs.length 0 lo)).take (HT.sIx xs.length xs.length hi-HT.sIx xs.length 0 lo)
theorem zcq(xs:List V)(lo hi:Option Int):(yr xs lo hi).length<=xs.length:=by
 unfold yr;rw[pV,pg];lia
def rCatT(K:pF):R2:=λx y H Q=>∃a b xs ys,x=.ref a/\y=.ref b/\SqT K H a xs/\SqT K H b ys/\xs≠[]/\xs.length+ys.length<=sizeLine/\
 (ys=[]->Q (.ref a) H)/\(ys≠[]->∀p,H p=none->Q (.ref p) (upd H p (.tup (xs++ys))))
theorem zn.nil_iff{xs:List V}{us:List pB}(r:zn xs us):us=[]↔xs=[]:=by
 cases r with
 |nil=>simp
 |cons _ _=>simp
def ZY:OpR X (AN .Add) (rCatT X.K):=by
 intro pins s σ H x y v u Q I rx ry h;obtain⟨a,b,xs,ys,rfl,rfl,ha,hb,hx,hz,q1,q2⟩:=h
 cases rx
 cases ry;obtain⟨its,r1,p1,_⟩:=I.tuple ha;obtain⟨its2,r2,p2,_⟩:=I.tuple hb;refine HT.cat_tup p1 p2 (λz=>hx (r1.nil_iff.mp z)) (λz=>⟨.ref a,H,I,rfl,q1 (r2.nil_iff.mp z)⟩) (λz=>?_) (by rw[←r1.length,←r2.length];exact hz)
 refine⟨.ref s.heap.objs.size,_,I.laid (t':=s.toks) (o:=.tup (xs++ys)) (λb ob q=>pH _ q) (pJ _) ?_,rfl,q2 (λw=>z (r2.nil_iff.mpr w)) _ (I.hok.fresh (pJ _))⟩;exact⟨by rw[pM];exact hz,_,r1.append r2,Hy _ _⟩
end
noncomputable def ixN(n:Nat)(i:Int):Option Nat:=if 0<=i then(if i<n then some i.toNat else none) else if-(n:Int)<=i then some (i+n).toNat else none
variable{α:Type}
noncomputable def atI(xs:List α)(i:Int):Option α:=(ixN xs.length i).bind λj=>xs[j]?
theorem Jo{n:Nat}{i:Int}{j:Nat}(h:ixN n i=some j):seqIndex? i n=some j/\j<n/\ -(n:Int)<=i/\i<n:=by
 unfold ixN at h
 by_cases h0:0<=i
 ·rw[if_pos h0] at h
  by_cases h1:i<n
  ·rw[if_pos h1] at h;have e:i.toNat=j:=uN h;exact⟨by rw[GR h0 h1,e],by lia,by lia,h1⟩
  ·rw[if_neg h1] at h;cases h
 ·rw[if_neg h0] at h
  by_cases h1: -(n:Int)<=i
  ·rw[if_pos h1] at h;have e:(i+n).toNat=j:=uN h;exact⟨by rw[Fa (by lia) h1,e],by lia,h1,by lia⟩
  ·rw[if_neg h1] at h;cases h
theorem ZB{xs:List α}{i:Int}{v:α}(h:atI xs i=some v):∃j,seqIndex? i xs.length=some j/\xs[j]?=some v/\j<xs.length/\ -(xs.length:Int)<=i/\i<xs.length:=by
 unfold atI at h
 cases e:ixN xs.length i with
 |none=>rw[e] at h;cases h
 |some j=>
  rw[e] at h;obtain⟨h1,h2,h3,h4⟩:=Jo e;exact⟨j,h1,h,h2,h3,h4⟩
theorem yp{xs:List α}{j:Nat}{v:α}(h:xs[j]?=some v):atI xs (j:Int)=some v:=by
 have hj:j<xs.length:=(pD.mp h).1;have e:ixN xs.length (j:Int)=some j:=by
  unfold ixN;rw[if_pos (by lia),if_pos (by lia)];simp
 unfold atI;rw[e];exact h
def V1(b:Expr):Prop:=∀o i,subscripted b false o i=operate [o,i] (FZ o i)
def IxR(X:Cx)(r:R2):Prop:=
 ∀(value slice:Expr)(pins:List (Addr×Obj))(s:pC)(σ:St)(H:Hp)(x y:V)(v u:pB)(Q:VK),Inv X pins σ H s->zm x v->zm y u->r x y H Q->
  subscripted slice false v u=operate [v,u] (FZ v u)->wpAny (model X.prog X.w) X.A (FF value slice v u) (EP X pins σ Q) X.xe s
def MtR(X:Cx)(id:String)(r:V->List V->Hp->VK->Prop):Prop:=
 ∀(pins:List (Addr×Obj))(s:pC)(σ:St)(H:Hp)(x:V)(xs:List V)(v:pB)(us:List pB)(Q:VK),Inv X pins σ H s->zm x v->zn xs us->r x xs H Q->
  wpAny (model X.prog X.w) X.A (call (.builtin id) (v::us)) (EP X pins σ Q) X.xe s
variable{its its':List pB}{n:Nat}
section
variable{X:Cx}{a b:Expr}{ta tb:TE}{pos:Pos}
def pe_ix{r:R2}(hr:IxR X r)(ha:PE X a ta)(hb:PE X b tb)(hs:V1 b):PE X (.Subscript a b pos) (tOp r ta tb):=by
 intro pins s σ H Q I h;exact Gs (binT ha hb I h λv u s2 x y H2 I2 rx ry q=>hr a b pins s2 σ H2 x y v u Q I2 rx ry q (hs _ _))
def rIxL(K:pF):R2:=λx y H Q=>∃p xs i v,x=.ref p/\y=.int i/\SqL K H p xs/\atI xs i=some v/\Q v H
def rIxT(K:pF):R2:=λx y H Q=>∃p xs i v,x=.ref p/\y=.int i/\SqT K H p xs/\atI xs i=some v/\Q v H
theorem vH:IxR X (rIxL X.K):=by
 intro value slice pins s σ H x y v u Q I rx ry h hs;obtain⟨p,xs,i,z,rfl,rfl,hq,he,q⟩:=h
 cases rx;obtain⟨t,rfl⟩:=ry;obtain⟨its,r,pl,hz⟩:=I.list hq;obtain⟨j,h1,h2,h3,h4,h5⟩:=ZB he;obtain⟨w,ew,rw'⟩:=r.get h2;have hl:=r.length;have hn:=line63;have fin:EP X pins σ Q w s:=⟨z,H,I,rw',q⟩
 by_cases h0:0<=i
 ·have hj:i.toNat=j:=by
   rw[GR h0 h5] at h1;exact uN h1
  exact item_listR pl.isList h0 (by lia) (by rw[hj];simpa using ew) fin hs
 ·have hj:(i+(its.toArray.size:Int)).toNat=j:=by
   rw[Fa (by lia) h4] at h1
   rw[pe,←hl];exact uN h1
  exact EB (x:=w) pl.isList.typeIs Fb.lookup
   (wpAny_getItem_list_neg (Q:=λr s'=>r=w/\EP X pins σ Q r s') pl.isList (by lia) (by rw[pe]<;>lia) (by lia) (by rw[hj];simpa using ew) ⟨rfl,fin⟩) hs
theorem ix_tup:IxR X (rIxT X.K):=by
 intro value slice pins s σ H x y v u Q I rx ry h hs;obtain⟨p,xs,i,z,rfl,rfl,hq,he,q⟩:=h
 cases rx;obtain⟨t,rfl⟩:=ry;obtain⟨its,r,pl,hz⟩:=I.tuple hq;obtain⟨j,h1,h2,h3,h4,h5⟩:=ZB he;obtain⟨w,ew,rw'⟩:=r.get h2;have hl:=r.length;have hn:=line63;have fin:EP X pins σ Q w s:=⟨z,H,I,rw',q⟩;exact EB (x:=w) pl.typeIs slot_tuple_getitem.lookup
  (getItem_tuple (j:=j) (Q:=λr s'=>r=w/\EP X pins σ Q r s') pl (by lia) (by lia) (by rw[pe,←hl];exact h1) (by simpa using ew) ⟨rfl,fin⟩) hs
def zck(its:List pB)(n j:Nat)(u:pB):uB (·.setIfInBounds j u) {cls:=.type "list",data:=.seq its.toArray n}={cls:=.type "list",data:=.seq (its.set j u).toArray n}:=by
 simp[uB]
variable{pins:List (Addr×Obj)}{σ:St}{H:Hp}
def Inv.lst{s:pC}{p:Addr}{xs:List V}(I:Inv X pins σ H s)(h:H p=some (.lst xs)):
  ∃(its:List pB)(n:Nat),zn xs its/\s.heap.get? p=some {cls:=.type "list",data:=.seq its.toArray n}/\xs.length<=sizeLine:=by
 obtain⟨z,its,n,r,e⟩:=I.hok p _ h;exact⟨its,n,r,e,z⟩
def Inv.lstUpd{s:pC}{p:Addr}{xs ys:List V}{n':Nat}{f:Obj->Obj}(I:Inv X pins σ H s)(h:H p=some (.lst xs))
  (ho:s.heap.get? p=some {cls:=.type "list",data:=.seq its.toArray n})(hf:f {cls:=.type "list",data:=.seq its.toArray n}={cls:=.type "list",data:=.seq its'.toArray n'})(r:zn ys its')(hz:ys.length<=sizeLine)(t:Nat):
  Inv X pins σ (upd H p (.lst ys)) {s with heap:=s.heap.update p f,toks:=t}:=by
 have e:(s.heap.update p f).get? p=some {cls:=.type "list",data:=.seq its'.toArray n'}:=by
  rw[Qn f ho (by rw[hf]<;>rfl),hf]
 refine I.write (x:=p) (e:=p) (by rw[h];trivial) (.inl rfl) (λb u hb q=>(QV _ _ (gQ hb)).trans q) ⟨_,e⟩ ?_
 exact⟨hz,its',n',r,e⟩
def rSetL:V->V->V->Hp->(Hp->Prop)->Prop:=λo i v H Q=>∃p xs k j,o=.ref p/\i=.int k/\H p=some (.lst xs)/\ixN xs.length k=some j/\Q (upd H p (.lst (xs.set j v)))
theorem za9:PSet X rSetL:=by
 intro pins s σ H o i v ov iv u Q I ro ri rv h;obtain⟨p,xs,k,j,rfl,rfl,hp,hj,q⟩:=h
 cases ro;obtain⟨t,rfl⟩:=ri;obtain⟨its,n,r,ho,hz⟩:=I.lst hp;obtain⟨h1,h2,h3,h4⟩:=Jo hj;have hl:=r.length;have hn:=line63;have I':Inv X pins σ (upd H p (.lst (xs.set j v))) {s with heap:=s.heap.update p (uB (·.setIfInBounds j u))}:=
  I.lstUpd hp ho (zck its n j u) (r.set rv j) (by rw[gv];exact hz) s.toks
 by_cases h0:0<=k
 ·have hk:k.toNat=j:=by
   rw[GR h0 h4] at h1;exact uN h1
  exact PySem.W.ki_setAt ho h0 (by lia) (by rw[pe,←hl];exact h4) (by rw[hk];exact⟨_,I',q⟩)
 ·have hk:(k+(its.toArray.size:Int)).toNat=j:=by
   rw[Fa (by lia) h3] at h1
   rw[pe,←hl];exact uN h1
  exact PySem.W.ki_setBack ho (by lia) (by rw[pe,←hl];exact h3) (by lia) (by rw[hk];exact⟨_,I',q⟩)
theorem zc8(lo hi:Option Int)(n:Nat):(Bf lo hi none n).1=((HT.sIx n 0 lo:Nat):Int)/\(Bf lo hi none n).2.1=((HT.sIx n n hi:Nat):Int)/\(Bf lo hi none n).2.2=1:=by
 refine⟨?_,?_,rfl⟩
 ·cases lo with
  |none=>simp[Bf,HT.sIx]
  |some i=>
   simp only[Bf,HT.sIx,GD,show(1:Int)>0 by decide,if_true]
   by_cases h:i<0
   ·simp only[h,if_true]<;>lia
   ·simp only[h,if_false]<;>lia
 ·cases hi with
  |none=>simp[Bf,HT.sIx]
  |some i=>
   simp only[Bf,HT.sIx,GD,show(1:Int)>0 by decide,if_true]
   by_cases h:i<0
   ·simp only[h,if_true]<;>lia
   ·simp only[h,if_false]<;>lia
def zeo(its:List pB)(lo hi:Option Int):slicePick its.toArray lo hi none=((its.drop (HT.sIx its.length 0 lo)).take (HT.sIx its.length its.length hi-HT.sIx its.length 0 lo)).toArray:=by
 obtain⟨h1,h2,h3⟩:=zc8 lo hi its.toArray.size;unfold slicePick;rw[h1,h2,h3];simp only[sliceRange_one,pick_run,pe]<;>rfl
def rSlL(K:pF):V->Option Int->Option Int->Hp->VK->Prop:=λx lo hi H Q=>∃a xs,x=.ref a/\SqL K H a xs/\∀p,H p=none->Q (.ref p) (upd H p (.lst (yr xs lo hi)))
theorem sl_list:SlR X (rSlL X.K):=by
 intro pins s σ H x v vl vu lo hi sl Q I rx hs pl pu h;obtain⟨a,xs,rfl,hx,q⟩:=h
 cases rx;obtain⟨its,r,ht,hz⟩:=I.list hx;have hlen:=r.length;refine⟨"list",_,Fb.lookup,ht.isList.typeIs,?_⟩;refine wpAny_getItem_list_slice ht.isList hs pl pu .none (by simp) ?_ (by rw[pe]<;>lia)
 rw[zeo,←hlen];refine⟨.ref s.heap.objs.size,_,I.laid (t':=s.toks) (o:=.lst (yr xs lo hi)) (λb ob q=>pH _ q) (pJ _) ?_,rfl,q _ (I.hok.fresh (pJ _))⟩;exact⟨uK (zcq xs lo hi) hz,_,0,(r.drop (HT.sIx xs.length 0 lo)).take (HT.sIx xs.length xs.length hi-HT.sIx xs.length 0 lo),pd _ rfl⟩
theorem Xc:yC X (.builtin "len") (λxs H Q=>∃p ys,xs=[.ref p]/\(SqL X.K H p ys∨SqT X.K H p ys)/\Q (.int ys.length) H):=by
 intro pins s σ H xs us Q I r h;obtain⟨p,ys,rfl,hq,q⟩:=h;obtain⟨u,rfl,rx⟩:=vals1 r
 cases rx;have hn:=line63;rcases hq with hq|hq
 ·obtain⟨its,r',pl,hz⟩:=I.list hq;have hlen:=r'.length;exact Calls.call_len_list pl.isList (by simp only[pe]<;>lia) ⟨.int ys.length,H,I.tok _,⟨s.toks+1,by rw[pe,hlen]⟩,q⟩
 ·obtain⟨its,r',pl,hz⟩:=I.tuple hq;have hlen:=r'.length;exact len_tuple pl (by simp only[pe]<;>lia) ⟨.int ys.length,H,I.tok _,⟨s.toks+1,by rw[pe,hlen]⟩,q⟩
theorem zeb:yC X (.type "list") (λxs H Q=>∃p ys,xs=[.ref p]/\(SqL X.K H p ys∨SqT X.K H p ys)/\∀l,H l=none->Q (.ref l) (upd H l (.lst ys))):=by
 intro pins s σ H xs us Q I r h;obtain⟨p,ys,rfl,hq,q⟩:=h;obtain⟨u,rfl,rx⟩:=vals1 r
 cases rx;have fin:∀(its:List pB),zn ys its->ys.length<=sizeLine->∀(h':Heap)(c':Nat),(∀b o',s.heap.get? b=some o'->h'.get? b=some o')->
   h'.get? s.heap.objs.size=some {cls:=.type "list",dict:=none,data:=.seq its.toArray c',slots:=#[]}->EP X pins σ Q (.ref s.heap.objs.size) {s with heap:=h'}:=λits r' hz h' c' kp e=>
  ⟨.ref s.heap.objs.size,_,I.laid (t':=s.toks) kp (pJ _) (show yf X.prog X.w _ h' _ (.lst ys) from⟨hz,its,c',r',e⟩),rfl,q _ (I.hok.fresh (pJ _))⟩
 rcases hq with hq|hq
 ·obtain⟨its,r',pl,hz⟩:=I.list hq;have hlen:=r'.length;obtain⟨o,ho,hc,n,hd⟩:=pl.isList;exact call_list_seq p (.inl rfl) ho hc hd (λh' c' kp e=>fin its r' hz h' c' kp e) (by simp only[pe]<;>lia)
 ·obtain⟨its,r',pl,hz⟩:=I.tuple hq;have hlen:=r'.length;obtain⟨o,ho,hc,n,hd⟩:=pl;exact call_list_seq p (.inr rfl) ho hc hd (λh' c' kp e=>fin its r' hz h' c' kp e) (by simp only[pe]<;>lia)
def tyV(K:pF)(T:String)(x:V)(H:Hp):Prop:=match x with
 |.str _=>T="str"
 |.int _=>T="int"
 |.ref p=>(T="list"/\∃xs,SqL K H p xs)∨(T="tuple"/\∃o,K.lookup p=some o/\o.cls=.type "tuple"/\o.dict=none)∨
   (T="dict"/\((∃kvs,H p=some (.dK kvs))∨∃kvs,H p=some (.dT kvs)))∨(T="set"/\∃S n,H p=some (.set S n))
 |_=>False
theorem VI{s:pC}{T:String}{x:V}{v:pB}(I:Inv X pins σ H s)(r:zm x v)(ty:tyV X.K T x H):
  s.TypeIs v T/\∀a,v=.ref a->∃ob,s.heap.get? a=some ob/\ob.dict=none:=by
 cases x with
 |str z=>
  obtain⟨t,rfl⟩:=r
  cases(show T="str" from ty);exact⟨typeIs_str s z t,λ_ e=>nomatch e⟩
 |int i=>
  obtain⟨t,rfl⟩:=r
  cases(show T="int" from ty);exact⟨typeIs_int s i t,λ_ e=>nomatch e⟩
 |ref p=>
  cases r;rcases ty with⟨rfl,xs,hq⟩|⟨rfl,o,hk,hc,hd⟩|⟨rfl,hk⟩|⟨rfl,S,n,hk⟩
  ·obtain⟨its,_,pl,_⟩:=I.list hq;refine⟨pl.isList.typeIs,λa e=>?_⟩
   cases e;obtain⟨o,n,e,c,hd,_⟩:=pl;exact⟨o,e,hd⟩
  ·refine⟨⟨o,I.kIn p o hk,hc⟩,λa e=>?_⟩
   cases e;exact⟨o,I.kIn _ o hk,hd⟩
  ·have z:∃o,s.heap.get? p=some o/\o.ExactDict:=by
    rcases hk with⟨kvs,hk⟩|⟨kvs,hk⟩
    ·obtain⟨_,_,_,_,o,_,_,e,ex,_⟩:=I.hok p _ hk;exact⟨o,e,ex⟩
    ·obtain⟨_,_,_,_,o,_,_,e,ex,_⟩:=I.hok p _ hk;exact⟨o,e,ex⟩
   obtain⟨o,e,ex⟩:=z;refine⟨⟨o,e,ex.1⟩,λa e2=>?_⟩
   cases e2;exact⟨o,e,ex.2.1⟩
  ·obtain⟨o,_,_,_,e,ex,_⟩:=I.hok p _ hk;refine⟨⟨o,e,ex.1⟩,λa e2=>?_⟩
   cases e2;exact⟨o,e,ex.2.1⟩
 |_=>exact UH ty
def tBM0(K:pF)(T:String)(r:V->List V->Hp->VK->Prop)(to:TE):TE:=λσ H Q=>to σ H λx H1=>tyV K T x H1/\r x [] H1 Q
def tBM(K:pF)(T:String)(r:V->List V->Hp->VK->Prop)(to:TE)(t:TA):TE:=λσ H Q=>to σ H λx H1=>tyV K T x H1/\t σ H1 λxs H2=>r x xs H2 Q
variable{o e:Expr}{es:List Expr}{to:TE}{t:TA}{name:Str}{apos cpos:Pos}{T id:String}{r:V->List V->Hp->VK->Prop}
def pe_bm0(pa:PlainAttrs T)(slot:Slot T name id)(hty:Ed (.builtin id)=pure (.type "method_descriptor"))(hm:MtR X id r)(ho:PE X o to)
  (hbase:FG o name X.env (eval o X.env)=eval o X.env:=by rfl)(hline:(apos.endLine==cpos.line)=true:=by rfl):PE X (.Call (.Attribute o name apos) [] [] cpos) (tBM0 X.K T r to):=by
 intro pins s σ H Q I h;refine wpAny_Call_method0_late hbase hline (thn (ho pins s σ H _ I h) λv s1⟨x,H1,I1,r1,ty,q1⟩=>?_);obtain⟨h1,h2⟩:=VI I1 r1 ty;exact⟨T,id,pa,slot,hty,h1,h2,Bm rfl (PySem.evalArgs_none (hm pins s1 σ H1 x [] v [] Q I1 r1 .nil q1))⟩
def xO(pa:PlainAttrs T)(slot:Slot T name id)(hty:Ed (.builtin id)=pure (.type "method_descriptor"))(hm:MtR X id r)(ho:PE X o to)(ha:PA X (e::es) t)
  (hbase:FG o name X.env (eval o X.env)=eval o X.env:=by rfl)
  (hfew:((Ad cpos (ur (e::es) X.env)).all (λx=> !x.1)&&(Dl cpos (Bd [] X.env)).all (λx=>x.1.isSome)
   &&decide ((e::es).length+([]:List Ex).length+(if([]:List Ex).isEmpty then 0 else 1)<30))=true:=by rfl)
  (hline:(apos.endLine==cpos.line)=true:=by rfl) (hs:ur (e::es) X.env=(false,eval e X.env)::ur es X.env:=by rfl) (hplain:(Ad cpos (ur es X.env)).any (·.1)=false:=by rfl):
  PE X (.Call (.Attribute o name apos) (e::es) [] cpos) (tBM X.K T r to t):=by
 intro pins s σ H Q I h;refine wpAny_Call_method_late hbase hfew hline rfl (thn (ho pins s σ H _ I h) λv s1⟨x,H1,I1,r1,ty,q1⟩=>?_);obtain⟨h1,h2⟩:=VI I1 r1 ty;refine⟨T,id,pa,slot,hty,h1,h2,?_⟩;have hA:=ha cpos pins s1 σ H1 _ I1 q1;rw[hs] at hA⊢;refine Bm (by show(false||(Ad cpos (ur es X.env)).any (·.1))=false;rw[hplain]<;>rfl) (Ee ?_)
 exact thn hA λus s2⟨vs,H2,I2,r2,q2⟩=>hm pins s2 σ H2 x vs v us Q I2 r1 r2 q2
end
def MtM(X:Cx)(id:String)(r:V->List V->Hp->VK->Prop):Prop:=
 ∀(pins:List (Addr×Obj))(s:pC)(σ:St)(H:Hp)(x:V)(xs:List V)(v:pB)(us:List pB)(Q:VK),Inv X pins σ H s->zm x v->zn xs us->r x xs H Q->
  wpAny (model X.prog X.w) X.A (call (.builtin id) (v::us)) (EP X pins σ Q) X.xe s
theorem zn.one:∀{x:V}{us:List pB},zn [x] us->∃u,us=[u]/\zm x u
 |_,_,.cons r .nil=>⟨_,rfl,r⟩
theorem zn.zero:∀{us:List pB},zn [] us->us=[]
 |_,.nil=>rfl
section
variable{X:Cx}{pins:List (Addr×Obj)}{σ:St}{H:Hp}{s:pC}{l b:Addr}{xs ys zs:List V}
def Inv.lset{f:Array pB->Array pB}{t':Nat}(I:Inv X pins σ H s)(hH:H l=some (.lst xs))
  (e:s.heap.get? l=some {cls:=.type "list",data:=.seq its.toArray n})(hf:f its.toArray=its'.toArray)(hv:zn ys its')(hz:ys.length<=sizeLine):
  Inv X pins σ (upd H l (.lst ys)) {s with heap:=s.heap.update l (uB f),toks:=t'}:=by
 have q:=PySem.IsL.update e f;rw[hf] at q;refine I.write (x:=l) (e:=l) (by rw[hH];exact trivial) (.inl rfl) (λb' u hb hu=>(QV s.heap (uB f) (gQ hb)).trans hu) ⟨_,q⟩ ?_
 exact⟨hz,its',_,hv,q⟩
def Inv.lnew{t':Nat}(I:Inv X pins σ H s)(hv:zn ys its)(hz:ys.length<=sizeLine):
  Inv X pins σ (upd H s.heap.objs.size (.lst ys)) {s with heap:=s.heap.push {cls:=.type "list",data:=.seq its.toArray},toks:=t'}:=
 I.laid (λ_ _ q=>pH _ q) (pJ _) ⟨hz,its,0,hv,pd _ rfl⟩
def Inv.fresh(I:Inv X pins σ H s):H s.heap.objs.size=none:=I.hok.fresh (pJ _)
def Inv.lstM(I:Inv X pins σ H s)(hH:H l=some (.lst xs)):xs.length<=sizeLine/\∃(its:List pB)(n:Nat),zn xs its/\xs.length=its.length/\s.heap.get? l=some {cls:=.type "list",data:=.seq its.toArray n}:=by
 obtain⟨z,its,n,r,e⟩:=I.hok l _ hH;exact⟨z,its,n,r,r.length,e⟩
theorem J4(h:n<=sizeLine):Uy n=false:=by
 unfold Uy;exact decide_eq_false (by lia)
end
section
variable{X:Cx}
def rAppend:V->List V->Hp->VK->Prop:=λx vs H Q=>∃l xs y,x=.ref l/\vs=[y]/\H l=some (.lst xs)/\xs.length<sizeLine/\Q .non (upd H l (.lst (xs++[y])))
theorem wq:MtM X "list.append" rAppend:=by
 intro pins s σ H x vs v us Q I rx rv h;obtain⟨l,xs,y,rfl,rfl,hH,hz,q⟩:=h
 cases rx;obtain⟨u,rfl,ru⟩:=rv.one;obtain⟨z,its,n,r,hl,e⟩:=I.lstM hH;refine EC F.slot_list_append ⟨_,e,rfl⟩ F.entry_list_append (F.args_list_append_2 _ _) (PySem.list_append l its.toArray n u (by rw[pe];lia)) ⟨e,?_⟩
 refine⟨.non,_,I.lset (its':=its++[u]) hH e (by simp) (r.append (.cons ru .nil)) ?_,rfl,q⟩
 rw[pM,List.length_singleton];lia
def rExtend:V->List V->Hp->VK->Prop:=λx vs H Q=>∃l b xs zs,x=.ref l/\vs=[.ref b]/\H l=some (.lst xs)/\H b=some (.lst zs)/\xs.length+zs.length<=sizeLine/\Q .non (upd H l (.lst (xs++zs)))
theorem zdg:MtM X "list.extend" rExtend:=by
 intro pins s σ H x vs v us Q I rx rv h;obtain⟨l,b,xs,zs,rfl,rfl,hH,hB,hz,q⟩:=h
 cases rx;obtain⟨u,rfl,ru⟩:=rv.one
 cases ru;obtain⟨z,its,n,r,hl,e⟩:=I.lstM hH;obtain⟨z2,its2,n2,r2,hl2,e2⟩:=I.lstM hB;have hsz:its.toArray.size+its2.toArray.size<=sizeLine:=by rw[pe,pe];lia
 have hlong:¬(!its.toArray.isEmpty&&Uy (its.toArray.size+its2.toArray.size))=true:=by
  rw[J4 hsz,Gu];exact uH
 refine EC F.slot_list_extend ⟨_,e,rfl⟩ F.entry_list_extend (F.args_list_extend_2 _ _)
  (AutoSeq1.list_extend_list_list_0 l its.toArray n b its2.toArray n2 hlong (by rw[pe];lia) (by lia)) ⟨e,e2,?_⟩
 refine⟨.non,_,I.lset (its':=its++its2) hH e (by simp) (r.append r2) ?_,rfl,q⟩
 rw[pM];lia
def rClear:V->List V->Hp->VK->Prop:=λx vs H Q=>∃l xs,x=.ref l/\vs=[]/\H l=some (.lst xs)/\Q .non (upd H l (.lst []))
theorem zf9:MtM X "list.clear" rClear:=by
 intro pins s σ H x vs v us Q I rx rv h;obtain⟨l,xs,rfl,rfl,hH,q⟩:=h
 cases rx;have hus:=rv.zero;subst hus;obtain⟨z,its,n,r,hl,e⟩:=I.lstM hH;refine EC F.slot_list_clear ⟨_,e,rfl⟩ F.entry_list_clear (F.args_list_clear_1 _) (AutoSeq1.list_clear_list_0 l its.toArray n (by rw[pe];lia)) ⟨e,?_⟩
 exact⟨.non,_,I.lset (its':=[]) (ys:=[]) hH e rfl .nil (uJ _),rfl,q⟩
def rCat:R2:=λx y H Q=>∃l b xs zs,x=.ref l/\y=.ref b/\H l=some (.lst xs)/\H b=some (.lst zs)/\xs.length+zs.length<=sizeLine/\∀p,H p=none->Q (.ref p) (upd H p (.lst (xs++zs)))
theorem jM:OpR X (AN .Add) rCat:=by
 intro pins s σ H x y v u Q I rx ry h;obtain⟨l,b,xs,zs,rfl,rfl,hH,hB,hz,q⟩:=h
 cases rx
 cases ry;obtain⟨z,its,n,r,hl,e⟩:=I.lstM hH;obtain⟨z2,its2,n2,r2,hl2,e2⟩:=I.lstM hB;refine PySem.P.add_list e e2 ?_ (by rw[pe,pe];lia)
 have ea:its.toArray++its2.toArray=(its++its2).toArray:=by simp
 rw[ea];exact⟨.ref _,_,I.lnew (t':=s.toks) (r.append r2) (by rw[pM];lia),rfl,q _ I.fresh⟩
end
end L2
namespace Att
open PySem PySem.W PySem.Calls PyProof.Rows
theorem zcm{P:Params}{h:Heap}:∀(ns:List Int)(vs:List pB),WellAll P h vs (ns.map WData.int)->gq vs ns:=by
 intro ns
 induction ns with
 |nil=>
  intro vs w;rw[Ux] at w
  cases w;exact .nil
 |cons n ns ih=>
  intro vs w;rw[pj] at w
  cases w with
  |cons a b=>
   cases a;exact .cons _ _ (ih _ b)
theorem zad{l:OpenLaw}{n:Nat}(hn:l.most=some n){P:Params}{h:Heap}{args:List WData}{vals:List pB}
  (hpre:l.row.toRowW.claim.pre args=true)(hwl:WellAll P h vals args):
  ∃a vs ns,vals=[uw a]/\args=[WData.list (ns.map WData.int)]/\h.get? a=some {cls:=.type "list",data:=.seq vs.toArray}/\gq vs ns/\ns.length<=n:=by
 have hsh:WShape.hasAll [] args [.list .int]=true:=(pre_splitW hpre).1;have hc:l.pre.holds [] {args:=args}=true:=(pre_splitW hpre).2;obtain⟨d,r,rfl,h1,h2⟩:=hasAllW_cons hsh;obtain rfl:=hasAllW_nil h2;obtain⟨xs,rfl,h3⟩:=hasW_list h1;obtain⟨ns,rfl⟩:=items_int h3;have hlen:ns.length<=n:=by
  unfold OpenLaw.pre at hc;have h4:(WTm.not (.lt (.lit (.int (n:Int))) (.len (.arg 0)))).holds [] {args:=[.list (ns.map .int)]}=true:=by
   have h4:=(holds_andW hc).1;rw[hn] at h4;exact h4
  have h5:=condW_of h4 (w_not (w_lt w_lit (w_len_list (w_arg rfl))));rw[pL] at h5;refine Nat.le_of_not_lt λq=>?_;have q':(n:Int)<((ns.length:Nat):Int):=by lia
  first
   |(rw[decide_eq_true q'] at h5;exact absurd h5 (by decide))
   |(simp at h5;lia)
 cases hwl with
 |cons w1 w2=>
  cases w2
  cases w1 with
  |list ho hall=>exact⟨_,_,ns,rfl,rfl,ho,zcm ns _ hall,hlen⟩
def zed(l:OpenLaw)(args:List WData):l.row.toRowW.claim.post args (.bool true) args=true:=
 postW_of (r:=l.row.toRowW) (X:=(true==true))
  (show WShape.has [] (.bool true) .bool=true by first|rfl|decide|simp[WShape.has,WShape.arms,WShape.armsAll])
  (show(WTm.eq .res (.lit (.bool true))).value [] {args:=args,res:=some (.bool true),after:=args}=some (.bool (true==true)) from w_eq_bool (w_res rfl) w_lit) rfl
def attach_call{l:OpenLaw}{n:Nat}{q:pi}{loose:List Str}{XP:(Str->Option pB)->Heap->Prop}{YP:uR->Heap->Prop}{d:DefRec}
  (hn:l.most=some n)(hdf:d.params.defaults=[])
  (call:∀(w:uR)(s₀ s₁:pC)(mg mb:Str->Option pB)(fa:Addr)(o:Obj)(pm cd doc:pB)(a:Addr)(vs:List pB)(ns:List Int),
   Ground q loose [] XP w s₀ mg mb s₁.heap->YP w s₁.heap->
   s₁.heap.get? fa=some o->o.data=.func (docDef d.name d.params d.body d.scope pm cd doc)->s₁.heap.CodeRec cd d.name->mg d.name=some (.ref fa)->
   s₁.heap.get? a=some {cls:=.type "list",data:=.seq vs.toArray}->gq vs ns->ns.length<=n->s₁.gens=#[]->
   BN (model l.prog w) Ey (.call (.ref fa) ⟨[.ref a],[]⟩) (λr s'=>r=.ok (.ret (.bool true))/\OldK s₁.heap s'.heap/\s'.os=s₁.os/\DR s'.gens) s₁):
  WalkO q loose XP YP l.row.toRowW d [] (λf vs=>Gv f vs):=by
 intro w s₀ s₁ mg mb G Y fa o pm cd doc dV kV ho hd hcd hD hmg hg args vals as hpre hlay hrd hwl hlo;obtain rfl:dV=.none:=Dflts.none hD hdf;obtain rfl:kV=.none:=Dflts.noKw hD;obtain⟨a,vs,ns,rfl,rfl,hobj,hints,hlen⟩:=zad hn hpre hwl;refine enter_call (Bk (call w s₀ s₁ mg mb fa o pm cd doc a vs ns G Y ho (fd_plain hd) hcd hmg hobj hints hlen hg) λr s' hq=>?_);obtain⟨rfl,h2,h3,h4⟩:=hq;exact⟨.inl ⟨.bool true,.bool true,[],rfl,λ_=>rfl,.bool true,zed l _,λ_=>⟨List.Pairwise.nil,λ_ hm=>(nomatch hm)⟩⟩,h2,h3,h4⟩
end Att
namespace L2
open PySem PySem.Spec PyProof.Rows
theorem XW:∀{vs:List pB}{ns:List Int},gq vs ns->zn (ns.map V.int) vs
 |_,_,.nil=>.nil
 |_,_,.cons n t h=>.cons ⟨t,rfl⟩ (XW h)
noncomputable def xt(s:Stmt):Be:=match s with
 |.FunctionDef _ a _ _ _ _ _ _ _ _=>a
 |_=>{posonlyargs:=[],args:=[],vararg:=none,kwonlyargs:=[],kw_defaults:=[],kwarg:=none,defaults:=[]}
noncomputable def yD(s:Stmt):List Stmt:=match s with
 |.FunctionDef _ _ b _ _ _ _ _ _ _=>b
 |_=>[]
noncomputable def zp(s:Stmt):Scope:=match s with
 |.FunctionDef _ _ _ _ _ _ sc _ _ _=>sc
 |_=>{kind:=.function,names:=[],isGenerator:=false,isCoroutine:=false}
abbrev CX0:CXT:=λ_ _ _ _ _ _=>False
abbrev E0:XK:=λ_ _ _=>False
def pass0{X:Cx}:Passes CX0 X E0:=λ_ _ _ _ _ _ _ h=>h.elim
structure Fun(K:pF)(x qual:Str)(st:Stmt)(f:Addr)(fd:UN):Prop where
 ex:∃(oc:pB)(od:Option Addr)(kV doc pm:pB)(an:Option Addr)(cdv ct:pB)(osl:Array (Option pB)),
  fd=UA x qual (xt st) (yD st) (zp st) .none kV doc pm an cdv ct/\K.lookup f=some ⟨oc,od,.func fd,osl⟩/\gY K cdv qual=true
 kp:AO K (.ref f)=true
variable{ps:List Str}{sp:Sp}
section
variable{P:pi}{w:uR}{K:pF}{mg:Str->Option pB}{base:Heap}
variable{x qual:Str}{st:Stmt}{f:Addr}
def Fun.ok{fd:UN}{N:List Str}{k:Nat}(F:Fun K x qual st f fd)(S:zA N ps (zp st))(len:∀vs H Q E,sp vs H Q E->vs.length=ps.length)
  (hbody:∀(cdv:pB)(A:uQ)(outer:List Env)(s:pC)(H:Hp)(vs:List V)(Q:VK)(E:XK),zX k (A.deeper (gu qual (zp st) s.heap.objs.size f cdv))->sp vs H Q E->
   ∃t,PSs (xM CX0 P w K mg base N qual (zp st) f cdv A outer s H E).nox (yD st) t/\t {nx:=λ_ H'=>Q .non H',rt:=Q} (start N vs) H):zx P w K mg base CX0 (k+1) f fd ps sp:=by
 obtain⟨oc,od,kV,doc,pm,an,cdv,ct,osl,rfl,lk,hcd⟩:=F.ex;refine fn_of lk hcd S len λA outer s H vs Q E hr hsp=>?_;obtain⟨t,h,q⟩:=hbody cdv A outer s H vs Q E hr hsp;exact⟨t,h.nox,q⟩
def Fun.binds{fd:UN}(F:Fun K x qual st f fd)
  (h:∀(kV doc pm:pB)(an:Option Addr)(cdv ct:pB)(us:List pB),us.length=ps.length->AF (UA x qual (xt st) (yD st) (zp st) .none kV doc pm an cdv ct) ⟨us,[]⟩=pure (ps.zip us)):Binds K fd ps []:=by
 obtain⟨oc,od,kV,doc,pm,an,cdv,ct,osl,rfl,lk,hcd⟩:=F.ex;exact .all (h kV doc pm an cdv ct)
def Yg{oc:pB}{od an:Option Addr}{osl:Array (Option pB)}{kV doc pm cdv ct:pB}(l:K.lookup f=some ⟨oc,od,.func (UA x qual (xt st) (yD st) (zp st) .none kV doc pm an cdv ct),osl⟩)
  (c:gY K cdv qual=true)(k:AO K (.ref f)=true):Fun K x qual st f (UA x qual (xt st) (yD st) (zp st) .none kV doc pm an cdv ct):=⟨⟨oc,od,kV,doc,pm,an,cdv,ct,osl,rfl,l,c⟩,k⟩
end
def yS{A:uQ}{k:Nat}(hr:zX k A):A.units+1<cLine:=Ud (Nat.add_le_add_left (by decide:1<=64) _) hr.units
def small1000{n:Nat}(h:n<=1000):n<sizeLine:=Ud h (by decide)
section
variable{X:Cx}
def pv(i:Nat){x:Str}{pos:Pos}(hN:X.N[i]?=some x:=by rfl)(hv:Vis X.env.scope x:=by first|exact Ha rfl|exact FL (Ha rfl)|exact FL (FL rfl))(hd:(x==("__debug__":Str))=false:=by decide)
  (hcd:(x==("__classdict__":Str))=false:=by decide):PE X (.Name x pos) (tVar i):=ZC hN hv hd hcd
end
variable{B:Prop}
def yP{A:Prop}(h:B):if false=true then A else B:=by
 rw[if_neg uH];exact h
def vC{A:Prop}(h:A):if true=true then A else B:=by
 rw[if_pos rfl];exact h
def ite2{c A:Prop}[Decidable c](h1:c->A)(h2:¬c->B):if c then A else B:=by
 by_cases h:c
 ·rw[if_pos h];exact h1 h
 ·rw[if_neg h];exact h2 h
def iteNS{c A:Prop}[Decidable c](hc:c)(h:B):if(!decide c)=true then A else B:=by
 rw[decide_eq_true hc];exact yP h
def zg(H H':Hp):Prop:=∀b o,H b=some o->H' b=some o
def zg.refl(H:Hp):zg H H:=λ_ _ h=>h
def zg.trans{H H1 H2:Hp}(a:zg H H1)(b:zg H1 H2):zg H H2:=λc o h=>b c o (a c o h)
variable{H':Hp}
theorem zg.free{H:Hp}(e:zg H H'){l:Addr}(h:H' l=Hl):H l=Hl:=by
 cases q:H l with
 |none=>rfl
 |some o=>
  rw[e l o q] at h
  cases h
def zg.seq{K:pF}{H:Hp}{a:Addr}{xs:List V}(e:zg H H')(h:SqL K H a xs):SqL K H' a xs:=by
 rcases h with(h|⟨o,h⟩)|h
 ·exact .inl (.inl (e _ _ h))
 ·exact .inl (.inr ⟨o,e _ _ h⟩)
 ·exact .inr h
variable{j:Int}{T:String}{Q:VK}
section
variable{X:Cx}
def CBig(i j:Int):Prop:=i.natAbs<2^1000000/\j.natAbs<2^1000000
def CBig.ok{i:Int}(h:CBig i j):IntMulOk i j:=
 PySem.IntMulOk.of_le (Ef.mpr h.1) (Ef.mpr h.2) (by decide)
def zy:OpR X (AN .Mult) (rI CBig λi j=>.int (i*j)):=opI λ_ _ _ _ _ _ _ hc q=>mul_int q hc.ok
def CDivB(_i j:Int):Prop:=j≠0/\j.natAbs<2^8999
theorem x9:OpR X (AN .FloorDiv) (rI CDivB λi j=>.int (i.fdiv j)):=opI λ_ j _ _ _ _ _ hc q=>by
 refine floordiv_int hc.1 q (.inl (PyProof.noPylong_of_log2 ?_));have h0:j.natAbs≠0:=by have:=hc.1;lia
 have:=(Nat.log2_lt h0).mpr hc.2;lia
def Y5:Qc "abs"=some (.builtin "abs"):=by decide+kernel
def xi:Qc "len"=some (.builtin "len"):=by decide+kernel
def wG:Qc "isinstance"=some (.builtin "isinstance"):=by decide+kernel
def Vq:Qc "int"=some (.type "int"):=by decide+kernel
def JW:Qc "bool"=some (.type "bool"):=by decide+kernel
def WZ:Qc "tuple"=some (.type "tuple"):=by decide+kernel
def wy:Qc "list"=some (.type "list"):=by decide+kernel
noncomputable def dictO(a:Addr):HO:=.ext λh=>∃o,h.get? a=some o/\o.cls=.type "dict"
def tyN(K:pF)(H:Hp)(x:V)(T:String):Prop:=match x with
 |.non=>T="NoneType"
 |.bl _=>T="bool"
 |.int _=>T="int"
 |.str _=>T="str"
 |.ref p=>(T="list"/\∃xs,SqL K H p xs)∨(T="tuple"/\∃xs,SqT K H p xs)∨(T="dict"/\H p=some (dictO p))
 |_=>False
variable{pins:List (Addr×Obj)}{H:Hp}{x:V}
theorem Zl{σ:St}{s:pC}{v:pB}(I:Inv X pins σ H s)(r:zm x v)(ty:tyN X.K H x T):s.TypeIs v T:=by
 cases x with
 |non=>cases r;cases(show T="NoneType" from ty);rfl
 |bl b=>cases r;cases(show T="bool" from ty);rfl
 |int i=>obtain⟨t,rfl⟩:=r;cases(show T="int" from ty);exact typeIs_int s i t
 |str z=>obtain⟨t,rfl⟩:=r;cases(show T="str" from ty);exact typeIs_str s z t
 |ref p=>
  cases r;rcases ty with⟨rfl,xs,hq⟩|⟨rfl,xs,hq⟩|⟨rfl,hq⟩
  ·obtain⟨its,_,pl,_⟩:=I.list hq;exact pl.isList.typeIs
  ·obtain⟨its,_,⟨o,e,c,_⟩,_⟩:=I.tuple hq;exact⟨o,e,c⟩
  ·obtain⟨⟨o,e,c⟩,_⟩:=I.hok p _ hq;exact⟨o,e,c⟩
 |_=>exact UH ty
theorem vF{σ:St}{s:pC}{Tx:String}{b:Bool}{v:pB}(hne:b=false->(AI Tx==AI T)=false)
  (hty:Ed (.type T)=pure (.type "type"))(hsub:CI (.type Tx) (.type T)=pure b)(I:Inv X pins σ H s)(r:zm x v)(ht:tyN X.K H x Tx)(q:Q (.bl b) H):
  wpAny (model X.prog X.w) X.A (call (.builtin "isinstance") [v,.type T]) (EP X pins σ Q) X.xe s:=by
 cases b with
 |true=>exact call_isinstance_yes (Zl I r ht) hty hsub ⟨.bl true,H,I,rfl,q⟩
 |false=>
  have hq:EP X pins σ Q (.bool false) {s with toks:=s.toks+1}:=⟨.bl false,H,I.tok _,rfl,q⟩
  cases x with
  |non=>cases r;cases(show Tx="NoneType" from ht);exact gz (isinstance_false_none (hne rfl) hty hsub) hq
  |bl b=>cases r;cases(show Tx="bool" from ht);exact gz (isinstance_false_bool (hne rfl) hty hsub) hq
  |int i=>obtain⟨t,rfl⟩:=r;cases(show Tx="int" from ht);exact gz (isinstance_false_int (hne rfl) hty hsub) hq
  |str z=>obtain⟨t,rfl⟩:=r;cases(show Tx="str" from ht);exact gz (isinstance_false_str (hne rfl) hty hsub) hq
  |ref p=>
   have ty:=Zl I r ht
   cases r;rcases ht with⟨rfl,xs,hs⟩|⟨rfl,xs,hs⟩|⟨rfl,hs⟩
   ·exact gz (isinstance_false_list (hne rfl) hty hsub) ⟨ty,hq⟩
   ·exact gz (isinstance_false_tuple (hne rfl) hty hsub) ⟨ty,hq⟩
   ·exact gz (isinstance_false_dict (hne rfl) hty hsub) ⟨ty,hq⟩
  |_=>exact UH ht
noncomputable def yu(Tx T:String):Bool:=(Tx==T)||(Tx=="bool"&&T=="int")
def zeu:Ed (.type "int")=pure (.type "type"):=by kernel_rfl
def zaa:Ed (.type "bool")=pure (.type "type"):=by kernel_rfl
def zez:Ed (.type "tuple")=pure (.type "type"):=by kernel_rfl
def zbp:Ed (.type "list")=pure (.type "type"):=by kernel_rfl
theorem tyN_in{K:pF}(h:tyN K H x T):T="NoneType"∨T="bool"∨T="int"∨T="str"∨T="list"∨T="tuple"∨T="dict":=by
 cases x with
 |non=>exact .inl h
 |bl b=>exact .inr (.inl h)
 |int i=>exact .inr (.inr (.inl h))
 |str z=>exact .inr (.inr (.inr (.inl h)))
 |ref p=>
  rcases h with⟨h,_⟩|⟨h,_⟩|⟨h,_⟩
  ·exact .inr (.inr (.inr (.inr (.inl h))))
  ·exact .inr (.inr (.inr (.inr (.inr (.inl h)))))
  ·exact .inr (.inr (.inr (.inr (.inr (.inr h)))))
 |_=>exact UH h
def rIsi(K:pF)(T:String):List V->Hp->VK->Prop:=λxs H Q=>∃x Tx,xs=[x,.ty T]/\tyN K H x Tx/\Q (.bl (yu Tx T)) H
def Yr(hty:Ed (.type T)=pure (.type "type"))(h1:CI (.type "NoneType") (.type T)=pure (yu "NoneType" T))(h2:CI (.type "bool") (.type T)=pure (yu "bool" T))(h3:CI (.type "int") (.type T)=pure (yu "int" T))
  (h4:CI (.type "str") (.type T)=pure (yu "str" T))(h5:CI (.type "list") (.type T)=pure (yu "list" T))(h6:CI (.type "tuple") (.type T)=pure (yu "tuple" T))(h7:CI (.type "dict") (.type T)=pure (yu "dict" T))
  (hn:∀Tx∈["NoneType","bool","int","str","list","tuple","dict"],yu Tx T=false->(AI Tx==AI T)=false):yC X (.builtin "isinstance") (rIsi X.K T):=by
 intro pins s σ H xs us Q I r h;obtain⟨x,Tx,rfl,ht,q⟩:=h;obtain⟨u,w',rfl,ru,rw'⟩:=vals2 r
 cases rw';rcases tyN_in ht with rfl|rfl|rfl|rfl|rfl|rfl|rfl
 ·exact vF (hn _ (by simp)) hty h1 I ru ht q
 ·exact vF (hn _ (by simp)) hty h2 I ru ht q
 ·exact vF (hn _ (by simp)) hty h3 I ru ht q
 ·exact vF (hn _ (by simp)) hty h4 I ru ht q
 ·exact vF (hn _ (by simp)) hty h5 I ru ht q
 ·exact vF (hn _ (by simp)) hty h6 I ru ht q
 ·exact vF (hn _ (by simp)) hty h7 I ru ht q
def Z0:yC X (.builtin "isinstance") (rIsi X.K "int"):=Yr zeu (by rw[uL];kernel_rfl) (by rw[uL];kernel_rfl) (by rw[uL];kernel_rfl) (by rw[uL];kernel_rfl) (by rw[uL];kernel_rfl) (by rw[uL];kernel_rfl) (by rw[uL];kernel_rfl) (by decide+kernel)
def Zg:yC X (.builtin "isinstance") (rIsi X.K "bool"):=Yr zaa (by rw[uL];kernel_rfl) (by rw[uL];kernel_rfl) (by rw[uL];kernel_rfl) (by rw[uL];kernel_rfl) (by rw[uL];kernel_rfl) (by rw[uL];kernel_rfl) (by rw[uL];kernel_rfl) (by decide+kernel)
def YO:yC X (.builtin "isinstance") (rIsi X.K "tuple"):=Yr zez (by rw[uL];kernel_rfl) (by rw[uL];kernel_rfl) (by rw[uL];kernel_rfl) (by rw[uL];kernel_rfl) (by rw[uL];kernel_rfl) (by rw[uL];kernel_rfl) (by rw[uL];kernel_rfl) (by decide+kernel)
def Vb:yC X (.builtin "isinstance") (rIsi X.K "list"):=Yr zbp (by rw[uL];kernel_rfl) (by rw[uL];kernel_rfl) (by rw[uL];kernel_rfl) (by rw[uL];kernel_rfl) (by rw[uL];kernel_rfl) (by rw[uL];kernel_rfl) (by rw[uL];kernel_rfl) (by decide+kernel)
end
variable{outer:List Env}
def cx_K{CX:CXT}{P:pi}{w:uR}{K:pF}{mg:Str->Option pB}{base:Heap}{N:List Str}{qual:Str}{scope:Scope}{f:Addr}{cd:pB}{A:uQ}{s:pC}{H:Hp}{E:XK}:
  (xM CX P w K mg base N qual scope f cd A outer s H E).K=K:=rfl
def tyN_non{K:pF}{H:Hp}:tyN K H .non T=(T="NoneType"):=rfl
def tyN_bl{K:pF}{H:Hp}{b:Bool}:tyN K H (.bl b) T=(T="bool"):=rfl
def tyN_int{K:pF}{H:Hp}{i:Int}:tyN K H (.int i) T=(T="int"):=rfl
def tyN_str{K:pF}{H:Hp}{x:Str}:tyN K H (.str x) T=(T="str"):=rfl
def isi_ii:yu "int" "int"=true:=by decide+kernel
def isi_ib:yu "int" "bool"=false:=by decide+kernel
def XJ:yu "int" "tuple"=false:=by decide+kernel
def Y6:yu "int" "list"=false:=by decide+kernel
def Xu:yu "bool" "int"=true:=by decide+kernel
def WH:yu "bool" "bool"=true:=by decide+kernel
def XH:yu "NoneType" "int"=false:=by decide+kernel
def Wy:yu "str" "int"=false:=by decide+kernel
def WO:yu "tuple" "int"=false:=by decide+kernel
def Xn:yu "list" "int"=false:=by decide+kernel
def X6:yu "dict" "int"=false:=by decide+kernel
def isi_tt:yu "tuple" "tuple"=true:=by decide+kernel
def isi_ll:yu "list" "list"=true:=by decide+kernel
def scal_ii{i:Int}:scal (.int i) (.int j)=true:=rfl
def scal_bb{i j:Bool}:scal (.bl i) (.bl j)=true:=rfl
def ze{H:Hp}{p:Addr}(h:H p=none)(o:HO):zg H (upd H p o):=λb u q=>by rw[zh (zN q h)];exact q
def cbig{i:Int}{m n:Nat}(h1:i.natAbs<2^m)(h2:j.natAbs<2^n)(hm:m<=1000000:=by decide)(hn:n<=1000000:=by decide):CBig i j:=
 ⟨po h1 (AG (by decide) hm),po h2 (AG (by decide) hn)⟩
def cdivb{i:Int}{n:Nat}(h0:j≠0)(h:j.natAbs<2^n)(hn:n<=8999:=by decide):CDivB i j:=⟨h0,po h (AG (by decide) hn)⟩
noncomputable def getI(σ:St)(i:Nat):Int:=match σ[i]? with
 |some (some (.int x))=>x
 |_=>0
def sz0:(0<=sizeLine)=True:=eq_true (by decide)
def sz1:(1<=sizeLine)=True:=eq_true (by decide)
def sz2:(2<=sizeLine)=True:=eq_true (by decide)
def sz3:(3<=sizeLine)=True:=eq_true (by decide)
def sz4:(4<=sizeLine)=True:=eq_true (by decide)
def NS(e:Expr):Prop:=∀es env,ur (e::es) env=(false,eval e env)::ur es env
def zP{a b c}:NS (Expr.Constant a b c):=λ_ _=>rfl
def zd{a b}:NS (Expr.Name a b):=λ_ _=>rfl
def zZ{a b c d}:NS (Expr.Call a b c d):=λ_ _=>rfl
def zv{a b c d}:NS (Expr.BinOp a b c d):=λ_ _=>rfl
def Z3{a b c}:NS (Expr.UnaryOp a b c):=λ_ _=>rfl
def yv{a b c}:NS (Expr.Tuple a b c):=λ_ _=>rfl
def zr{a b c}:NS (Expr.Subscript a b c):=λ_ _=>rfl
def Xt{a b c d}:NS (Expr.ListComp a b c d):=λ_ _=>rfl
variable{t1 t2 t3 t4 t5 t6 t7 t8:TS}{e2 e3 e4 e5 e6 e7 e8:Stmt}
section
variable{X:Cx}
variable{e1:Expr}
def pa1{t1:TE}(h1:PE X e1 t1)(n1:NS e1):PA X [e1] (yy t1 xx):=(xg h1 yV (n1 _ _))
def pa2{e2:Expr}{t1 t2:TE}(h1:PE X e1 t1)(n1:NS e1)(h2:PE X e2 t2)(n2:NS e2):PA X [e1,e2] (yy t1 (yy t2 xx)):=(xg h1 (xg h2 yV (n2 _ _)) (n1 _ _))
def pa3{e2 e3:Expr}{t1 t2 t3:TE}(h1:PE X e1 t1)(n1:NS e1)(h2:PE X e2 t2)(n2:NS e2)(h3:PE X e3 t3)(n3:NS e3):PA X [e1,e2,e3] (yy t1 (yy t2 (yy t3 xx))):=(xg h1 (xg h2 (xg h3 yV (n3 _ _)) (n2 _ _)) (n1 _ _))
def pa4{e2 e3 e4:Expr}{t1 t2 t3 t4:TE}(h1:PE X e1 t1)(n1:NS e1)(h2:PE X e2 t2)(n2:NS e2)(h3:PE X e3 t3)(n3:NS e3)(h4:PE X e4 t4)(n4:NS e4):PA X [e1,e2,e3,e4] (yy t1 (yy t2 (yy t3 (yy t4 xx)))):=(xg h1 (xg h2 (xg h3 (xg h4 yV (n4 _ _)) (n3 _ _)) (n2 _ _)) (n1 _ _))
def pa5{e2 e3 e4 e5:Expr}{t1 t2 t3 t4 t5:TE}(h1:PE X e1 t1)(n1:NS e1)(h2:PE X e2 t2)(n2:NS e2)(h3:PE X e3 t3)(n3:NS e3)(h4:PE X e4 t4)(n4:NS e4)(h5:PE X e5 t5)(n5:NS e5):PA X [e1,e2,e3,e4,e5] (yy t1 (yy t2 (yy t3 (yy t4 (yy t5 xx))))):=(xg h1 (xg h2 (xg h3 (xg h4 (xg h5 yV (n5 _ _)) (n4 _ _)) (n3 _ _)) (n2 _ _)) (n1 _ _))
variable{e1:Stmt}
def pss2(h1:PS X e1 t1)(h2:PS X e2 t2):PSs X [e1,e2] (zC t1 t2):=(zD h1 (zq h2))
def pss3(h1:PS X e1 t1)(h2:PS X e2 t2)(h3:PS X e3 t3):PSs X [e1,e2,e3] (zC t1 (zC t2 t3)):=(zD h1 (zD h2 (zq h3)))
def pss4(h1:PS X e1 t1)(h2:PS X e2 t2)(h3:PS X e3 t3)(h4:PS X e4 t4):PSs X [e1,e2,e3,e4] (zC t1 (zC t2 (zC t3 t4))):=(zD h1 (zD h2 (zD h3 (zq h4))))
def pss5(h1:PS X e1 t1)(h2:PS X e2 t2)(h3:PS X e3 t3)(h4:PS X e4 t4)(h5:PS X e5 t5):PSs X [e1,e2,e3,e4,e5] (zC t1 (zC t2 (zC t3 (zC t4 t5)))):=(zD h1 (zD h2 (zD h3 (zD h4 (zq h5)))))
def pss7(h1:PS X e1 t1)(h2:PS X e2 t2)(h3:PS X e3 t3)(h4:PS X e4 t4)(h5:PS X e5 t5)(h6:PS X e6 t6)(h7:PS X e7 t7):PSs X [e1,e2,e3,e4,e5,e6,e7] (zC t1 (zC t2 (zC t3 (zC t4 (zC t5 (zC t6 t7)))))):=(zD h1 (zD h2 (zD h3 (zD h4 (zD h5 (zD h6 (zq h7)))))))
def pss8(h1:PS X e1 t1)(h2:PS X e2 t2)(h3:PS X e3 t3)(h4:PS X e4 t4)(h5:PS X e5 t5)(h6:PS X e6 t6)(h7:PS X e7 t7)(h8:PS X e8 t8):PSs X [e1,e2,e3,e4,e5,e6,e7,e8] (zC t1 (zC t2 (zC t3 (zC t4 (zC t5 (zC t6 (zC t7 t8))))))):=(zD h1 (zD h2 (zD h3 (zD h4 (zD h5 (zD h6 (zD h7 (zq h8))))))))
def pss9{e9:Stmt}{t9:TS}(h1:PS X e1 t1)(h2:PS X e2 t2)(h3:PS X e3 t3)(h4:PS X e4 t4)(h5:PS X e5 t5)(h6:PS X e6 t6)(h7:PS X e7 t7)(h8:PS X e8 t8)(h9:PS X e9 t9):PSs X [e1,e2,e3,e4,e5,e6,e7,e8,e9] (zC t1 (zC t2 (zC t3 (zC t4 (zC t5 (zC t6 (zC t7 (zC t8 t9)))))))):=(zD h1 (zD h2 (zD h3 (zD h4 (zD h5 (zD h6 (zD h7 (zD h8 (zq h9)))))))))
def pss14{e9 e10 e11 e12 e13 e14:Stmt}{t9 t10 t11 t12 t13 t14:TS}(h1:PS X e1 t1)(h2:PS X e2 t2)(h3:PS X e3 t3)(h4:PS X e4 t4)(h5:PS X e5 t5)(h6:PS X e6 t6)(h7:PS X e7 t7)(h8:PS X e8 t8)(h9:PS X e9 t9)(h10:PS X e10 t10)(h11:PS X e11 t11)(h12:PS X e12 t12)(h13:PS X e13 t13)(h14:PS X e14 t14):PSs X [e1,e2,e3,e4,e5,e6,e7,e8,e9,e10,e11,e12,e13,e14] (zC t1 (zC t2 (zC t3 (zC t4 (zC t5 (zC t6 (zC t7 (zC t8 (zC t9 (zC t10 (zC t11 (zC t12 (zC t13 t14))))))))))))):=(zD h1 (zD h2 (zD h3 (zD h4 (zD h5 (zD h6 (zD h7 (zD h8 (zD h9 (zD h10 (zD h11 (zD h12 (zD h13 (zq h14))))))))))))))
end
variable{t':Nat}{ch:List Addr}
section
variable{X:Cx}{pins:List (Addr×Obj)}{σ:St}{H:Hp}{s:pC}{h':Heap}
def Inv.turnedNew{T:Addr}{xs:List V}(I:Inv X pins σ H s)(hf:∀b∈ch,yY X pins H b)(k:∀b o,b∉ch->s.heap.get? b=some o->h'.get? b=some o)
  (hT:s.heap.objs.size<=T)(new:yf X.prog X.w (upd H T (.tup xs)) h' T (.tup xs)):Inv X pins σ (upd H T (.tup xs)) {s with heap:=h',toks:=t'}:=by
 have hn:H T=none:=I.hok.fresh hT;have nit:∀b u,H b=some u->b∉ch:=λb u e z=>by rw[(hf b z).1] at e;cases e
 refine I.step (g':=s.gens) (d':=s.drawn) (ch:=ch) (λb hb=>?_) (λb o _ _ hc e _=>k b o hc e) (λb o _ _ hc e _=>⟨o.slots,k b o hc e⟩) (λb o _ e n=>?_)
  (λb o hc e=>⟨o,k b o hc e⟩) (λb ys e=>?_) (λb o u e=>?_) (λb ps e=>⟨#[],?_⟩) (λm hm=>?_) (λb u e=>?_) I.bare
 ·obtain⟨_,f1,_,f3,f4,f5⟩:=hf b hb;exact⟨f3,f1,f4,f5⟩
 ·rw[zh (uF (po (pb e) hT))];exact n
 ·rw[zh (zN e hn)];exact e
 ·rw[zh (zN e hn)];exact e
 ·rw[zh (zN e hn),e];simp
 ·obtain⟨o,es,ep,ho,r⟩:=hm;exact⟨o,es,ep,k _ o (λz=>(hf _ z).2.1 rfl) ho,r⟩
 ·by_cases hb:b=T
  ·subst hb;rw[upd_same] at e;cases e;exact new
  ·rw[zh hb] at e;refine(I.hok b u e).stay (λc v hc q=>k c v ?_ q) (λc q=>by rw[zh (zN q hn)];exact q) λc ys q=>by rw[zh (zN q hn)];exact q
   rcases hc with z|z
   ·rw[z];exact nit b u e
   ·exact nit c _ z
def Inv.turnedL(I:Inv X pins σ H s)(hf:∀b∈ch,yY X pins H b)(k:∀b o,b∉ch->s.heap.get? b=some o->h'.get? b=some o):Inv X pins σ H {s with heap:=h',toks:=t'}:=by
 have nit:∀b u,H b=some u->b∉ch:=λb u e z=>by rw[(hf b z).1] at e;cases e
 refine I.step (g':=s.gens) (d':=s.drawn) (ch:=ch) (λb hb=>?_) (λb o _ _ hc e _=>k b o hc e) (λb o _ _ hc e _=>⟨o.slots,k b o hc e⟩) (λ_ _ _ _ n=>n)
  (λb o hc e=>⟨o,k b o hc e⟩) (λ_ _ e=>e) (λ_ _ _ e=>e) (λb ps e=>⟨#[],by rw[e];simp⟩) (λm hm=>?_) (λb u e=>?_) I.bare
 ·obtain⟨_,f1,_,f3,f4,f5⟩:=hf b hb;exact⟨f3,f1,f4,f5⟩
 ·obtain⟨o,es,ep,ho,r⟩:=hm;exact⟨o,es,ep,k _ o (λz=>(hf _ z).2.1 rfl) ho,r⟩
 ·refine(I.hok b u e).stay (λc v hc q=>k c v ?_ q) (λ_ q=>q) λ_ _ q=>q;rcases hc with z|z
  ·rw[z];exact nit b u e
  ·exact nit c _ z
end
noncomputable def Itz(K:pF)(l1 l2:Addr):It:=
 ⟨λi H=>∃xs ys x y,SqL K H l1 xs/\SqL K H l2 ys/\xs[i]?=some x/\ys[i]?=some y,
  λi H v H'=>∃T x y,H T=none/\v=.ref T/\H'=upd H T (.tup [x,y])/\(∀xs,SqL K H l1 xs->xs[i]?=some x)/\(∀ys,SqL K H l2 ys->ys[i]?=some y),
  λi H=>∃xs ys,SqL K H l1 xs/\SqL K H l2 ys/\(xs.length<=i∨ys.length<=i)⟩
def ZipSt(z TI TO i1 i2 l1 l2:Addr)(i:Nat)(h:Heap):Prop:=∃a b,IsZip h z TI TO .none/\Ay h TI (.ref i1) (.ref i2)/\Ay h TO a b/\h.IsListIter i1 l1 i/\h.IsListIter i2 l2 i
variable{elts:List Expr}{x1:Nat}{i1 i2 l1 l2:Addr}
theorem zal{P:pi}{w:uR}{K:pF}{pos:Pos}{z TI TO:Addr}(D:Gw z TI TO i1 i2 l1 l2):
  Turn P w K (.Tuple elts x1 pos) (Itz K l1 l2) [z,TI,TO,i1,i2] z (ZipSt z TI TO i1 i2 l1 l2) where
 mem:=by simp
 obj:=λi h st b hb=>by
  obtain⟨a,b',hz,hTI,hTO,h1,h2⟩:=st;simp only[pR,QJ,or_false] at hb;rcases hb with rfl|rfl|rfl|rfl|rfl
  ·exact⟨_,hz,λv q=>by cases q⟩
  ·exact⟨_,hTI,λv q=>by cases q⟩
  ·exact⟨_,hTO,λv q=>by cases q⟩
  ·obtain⟨o,e,c,d⟩:=h1;exact⟨o,e,λv q=>by rw[d] at q;cases q⟩
  ·obtain⟨o,e,c,d⟩:=h2;exact⟨o,e,λv q=>by rw[d] at q;cases q⟩
 keep:=λi h h' st k=>by
  obtain⟨a,b',hz,hTI,hTO,h1,h2⟩:=st;exact⟨a,b',k z (by simp) _ hz,k TI (by simp) _ hTI,k TO (by simp) _ hTO,h1.at λo e=>k i1 (by simp) o e,h2.at λo e=>k i2 (by simp) o e⟩
 item:=by
  intro X hP hw hK hc i pins s σ H E I hf st hg;subst hP hw hK;obtain⟨xs,ys,x,y,hq1,hq2,hx,hy⟩:=hg;obtain⟨a,b',hz,hTI,hTO,h1,h2⟩:=st;obtain⟨its1,rv1,p1,_⟩:=I.list hq1;obtain⟨its2,rv2,p2,_⟩:=I.list hq2;obtain⟨u1,hu1,ru1⟩:=rv1.get hx;obtain⟨u2,hu2,ru2⟩:=rv2.get hy;refine wpAny_pyNext_zip_item D hz hTI hTO h1 h2 p1.isList p2.isList (x:=u1) (y:=u2) (by simpa using hu1) (by simpa using hu2) λh₁ z1 t1 j1 j2 pr sz kk=>⟨_,rfl,?_⟩
  refine DN z1 λh₂ z2 sb=>?_;have lt:∀b∈[z,TI,TO,i1,i2],b≠s.heap.objs.size:=λb hb e=>by
   have:∃o,s.heap.get? b=some o:=by
    simp only[pR,QJ,or_false] at hb;rcases hb with rfl|rfl|rfl|rfl|rfl
    ·exact⟨_,hz⟩
    ·exact⟨_,hTI⟩
    ·exact⟨_,hTO⟩
    ·obtain⟨o,e,_⟩:=h1;exact⟨o,e⟩
    ·obtain⟨o,e,_⟩:=h2;exact⟨o,e⟩
   obtain⟨o,q⟩:=this;exact absurd (pb q) (by rw[e];exact Ul _)
  have nz:∀{b:Addr},b≠z->∀{o},h₁.get? b=some o->h₂.get? b=some o:=λ{b} hb{o} e=>(sb.2 b hb).trans e;have zT:s.heap.objs.size≠z:=(lt z (by simp)).symm
  have hnT:H s.heap.objs.size=none:=I.hok.fresh (pJ _);have new:yf X.prog X.w (upd H s.heap.objs.size (.tup [x,y])) h₂ s.heap.objs.size (.tup [x,y]):=
   ⟨by show 2<=sizeLine;decide,[u1,u2],.cons ru1 (.cons ru2 .nil),⟨_,nz zT pr,rfl,_,rfl⟩⟩
  have I1:=Inv.turnedNew (h':=h₂) (t':=s.toks) (ch:=[z,TI,TO,i1,i2]) I hf (λb o hb e=>nz (by simp at hb;exact hb.1) (kk b o (by simp at hb;exact hb.1) (by simp at hb;exact hb.2.2.1) (by simp at hb;exact hb.2.2.2.1) (by simp at hb;exact hb.2.2.2.2) e)) (pJ _) new
  refine⟨.ref s.heap.objs.size,_,I1,rfl,⟨_,x,y,hnT,rfl,rfl,λys' hy'=>by rw[I.list_inj hy' hq1];exact hx,λys' hy'=>by rw[I.list_inj hy' hq2];exact hy⟩,⟨u1,u2,z2,?_,?_,?_,?_⟩,λb hb=>by rw[zh (lt b hb)];exact(hf b hb).1⟩
  ·exact nz D.TIz (kk TI _ D.TIz D.TITO D.TIi1 D.TIi2 hTI)
  ·exact nz D.TOz t1
  ·exact j1.at λo e=>nz D.i1z e
  ·exact j2.at λo e=>nz D.i2z e
 done:=by
  intro X hP hw hK hc i pins s σ H E I hf st hg;subst hP hw hK;obtain⟨xs,ys,hq1,hq2,hl⟩:=hg;obtain⟨a,b',hz,hTI,hTO,h1,h2⟩:=st;obtain⟨its1,rv1,p1,_⟩:=I.list hq1;obtain⟨its2,rv2,p2,_⟩:=I.list hq2;have e1:=rv1.length;have e2:=rv2.length;refine wpAny_pyNext_zip_end (I.ok.hd hc) D hz hTI hTO h1 h2 p1.isList p2.isList ?_ λh₁ kk=>⟨rfl,?_⟩
  ·rcases hl with hl|hl
   ·exact .inl (by simp;lia)
   ·exact .inr (by simp;lia)
  ·exact I.turnedL (t':=s.toks) (ch:=[z,TI,TO,i1,i2]) hf (λb o hb e=>kk b o (by simp at hb;exact hb.1) (by simp at hb;exact hb.2.2.1) (by simp at hb;exact hb.2.2.2.1) (by simp at hb;exact hb.2.2.2.2) e)
 self:=λ_ _ _ _ _ st h=>by
  obtain⟨a,b',hz,_⟩:=st;exact CJ hz h
variable{tpos:Pos}
section
variable{X:Cx}
def iZip(K:pF)(ta:TA):TI:=λσ H R=>ta σ H λvs H1=>∃l1 l2 xs ys,vs=[.ref l1,.ref l2]/\SqL K H1 l1 xs/\SqL K H1 l2 ys/\R (Itz K l1 l2) H1
def ZZ:Qc "zip"=some (.type "zip"):=by decide+kernel
def J6{a b:Expr}{ta:TA}{p pos:Pos}(hg:Gl X "zip")(hm:X.mg "zip"=none)(ha:PA X [a,b] ta)(hs:ur [a,b] X.env=[(false,eval a X.env),(false,eval b X.env)]:=by rfl)
  (hs2:ur [b] X.env=[(false,eval b X.env)]:=by rfl):PI X (.Tuple elts x1 tpos) (.Call (.Name "zip" p) [a,b] [] pos) (iZip X.K ta):=by
 intro pins s σ H R I h;refine Call_ (xG I hg hm ZZ (Ql (thn (ha pos pins s σ H _ I h) λus s1⟨vs,H1,I1,r1,q1⟩=>?_) (by rw[hs,hs2]) (by rw[hs2];rfl)))
 obtain⟨l1,l2,xs,ys,e,hq1,hq2,q⟩:=q1;subst e;obtain⟨u,w',rfl,ru,rw'⟩:=vals2 r1
 cases ru
 cases rw';obtain⟨its1,rv1,p1,_⟩:=I1.list hq1;obtain⟨its2,rv2,p2,_⟩:=I1.list hq2;refine call_zip_2 p1.isList p2.isList λh' hz hTI hTO hi1 hi2 sz kk=>?_;refine CJ hz ?_;have D:=zipApart_new (n:=s1.heap.objs.size) p1.lt p2.lt;have I2:Inv X pins σ H1 {s1 with heap:=h'}:=I1.kept (t':=s1.toks) kk;refine⟨_,_,_,_,H1,rfl,I2,zal D,⟨_,_,hz,hTI,hTO,hi1,hi2⟩,λb hb=>?_,q⟩;have hb':s1.heap.objs.size<=b:=by
  simp only[pR,QJ,or_false] at hb;rcases hb with rfl|rfl|rfl|rfl|rfl
  ·exact gU _ _
  ·exact gU _ _
  ·exact gU _ _
  ·exact pJ _
  ·exact gU _ _
 exact I1.fpOk hb' (I1.hok.fresh hb')
end
variable{ys:List V}{tb:TS}
theorem ZA{K:pF}{xs:List V}{g:TG}{D:Ends}{σ:St}{H:Hp}(Pv:Nat->St->Hp->Prop)(h0:Pv 0 σ H)(hl:∀i σ H,Pv i σ H->SqL K H l1 xs/\SqL K H l2 ys)(he:xs.length=ys.length)
  (hs:∀i x y T σ H,xs[i]?=some x->ys[i]?=some y->Pv i σ H->H T=none->g (.ref T) σ (upd H T (.tup [x,y])) λσ2 H2=>tb {D with nx:=Pv (i+1),ct:=Pv (i+1),bk:=D.nx} σ2 H2)(hd:∀σ H,Pv xs.length σ H->D.nx σ H):
  ∃W:Nat->Nat->St->Hp->Prop,(∃m,W 0 m σ H)/\∀i m σ H,W i m σ H->
   ((Itz K l1 l2).stop i H/\D.nx σ H)∨((Itz K l1 l2).go i H/\∃N:St->Hp->Prop,(∀σ' H',N σ' H'->∃m',m'<m/\W (i+1) m' σ' H')/\∀x H',(Itz K l1 l2).yld i H x H'->g x σ H' λσ2 H2=>tb {D with nx:=N,ct:=N,bk:=D.nx} σ2 H2):=by
 refine⟨λi m σ H=>m=xs.length-i/\i<=xs.length/\Pv i σ H,⟨xs.length,by simp,uJ _,h0⟩,?_⟩
 rintro i m σ H ⟨rfl,hi,p⟩;obtain⟨q1,q2⟩:=hl i σ H p
 by_cases hlt:i<xs.length
 ·have hlt2:i<ys.length:=by lia
  refine .inr ⟨⟨xs,ys,xs[i],ys[i],q1,q2,by simp[hlt],by simp[hlt2]⟩,Pv (i+1),λσ' H' p'=>⟨xs.length-(i+1),by lia,rfl,hlt,p'⟩,λv H' y=>?_⟩
  obtain⟨T,x,y,hT,rfl,rfl,y1,y2⟩:=y;exact hs i x y T σ H (y1 xs q1) (y2 ys q2) p hT
 ·have e:i=xs.length:=by lia
  subst e;exact .inl ⟨⟨xs,ys,q1,q2,.inl (pJ _)⟩,hd σ H p⟩
theorem JE{α β:Type}(g:α->β->β){f:α->β->Sem (ForInStep β)}:∀{l:List α}(c:β),(∀x∈l,∀c,f x c=pure (.yield (g x c)))->forIn l c f=pure (l.foldl (λc x=>g x c) c)
 |[],c,_=>rfl
 |x::l,c,h=>by
  have hx:=h x pX c;rw[BO,hx,HX];exact JE g (g x c) λy hy=>h y (pY _ hy)
noncomputable def xV(env:Env)(x:Str×Cu)(c:List (Str×Addr)):List (Str×Addr):=
 if x.2==QX then(match env.cells.lookup x.1 with|some a=>(x.1,a)::c|none=>c) else c
theorem V2{env:Env}:∀(l:List (Str×Cu))(acc:List (Str×Addr)),(∀n c,acc.lookup n=some c->env.cells.lookup n=some c)->
  ∀n c,(l.foldl (λc x=>xV env x c) acc).lookup n=some c->env.cells.lookup n=some c
 |[],acc,h,n,c,e=>h n c e
 |x::l,acc,h,n,c,e=>by
  refine V2 l (xV env x acc) (λn c e=>?_) n c e;unfold xV at e
  split at e
  ·split at e
   ·rename_i a ha
    rw[QL] at e
    split at e
    ·rename_i hb
     have hn:n=x.1:=by simpa using hb
     cases e;rw[hn];exact ha
    ·exact h n c e
   ·exact h n c e
  ·exact h n c e
theorem za2{env:Env}:∀(l:List (Str×Cu))(acc:List (Str×Addr))(n:Str),((∃c,acc.lookup n=some c)∨((n,QX)∈l/\∃c,env.cells.lookup n=some c))->
  ∃c,(l.foldl (λc x=>xV env x c) acc).lookup n=some c
 |[],acc,n,h=>by
  rcases h with h|⟨h,_⟩
  ·exact h
  ·cases h
 |x::l,acc,n,h=>by
  refine za2 l (xV env x acc) n ?_;rcases h with⟨c,h⟩|⟨h,c,hc⟩
  ·left;unfold xV
   split
   ·split
    ·rw[QL]
     split
     ·exact⟨_,rfl⟩
     ·exact⟨c,h⟩
    ·exact⟨c,h⟩
   ·exact⟨c,h⟩
  ·rcases pR.mp h with e|h
   ·left;subst e;unfold xV;have ef:(QX==QX)=true:=rfl;have en:(n==n)=true:=by simp
    simp only[ef,if_true,hc,QL,en];exact⟨c,rfl⟩
   ·exact .inr ⟨h,c,hc⟩
variable{env:Env}
def zer{scope:Scope}(hf:∀n,(n,QX)∈scope.names->∃c,env.cells.lookup n=some c):
  ∃cl,ED scope env=pure cl/\(∀n c,cl.lookup n=some c->env.cells.lookup n=some c)/\∀n,(n,QX)∈scope.names->∃c,cl.lookup n=some c:=by
 refine⟨scope.names.foldl (λc x=>xV env x c) [],?_,V2 _ _ (λn c e=>by simp at e),λn h=>za2 _ _ n (.inr ⟨h,hf n h⟩)⟩
 simp only[ED];rw[JE (xV env) [] (λx hx c=>?_)]
 ·rfl
 ·obtain⟨n,kind⟩:=x
  by_cases hk:kind=.free
  ·subst hk;obtain⟨a,ha⟩:=hf n hx;have ef:(QX==QX)=true:=rfl
   simp[cellOf,ha,xV,ef]
  ·have e:(kind==QX)=false:=by simpa using hk
   simp[e,xV]
theorem Wi(env:Env)(x:Str):∀names:List (Str×Cu),
  (names.map λ(n,k)=>if(k==QX&&env.scope.kind==.function&&env.kindOf n==some .cell) then(n,DZ) else(n,k)).lookup x=
  (names.lookup x).map λk=>if(k==QX&&env.scope.kind==.function&&env.kindOf x==some .cell) then DZ else k
 |[]=>rfl
 |(n,k)::r=>by
  have ih:=Wi env x r;rw[pj]
  by_cases e:x=n
  ·subst e;have ex:(x==x)=true:=by simp
   by_cases c:(k==QX&&env.scope.kind==.function&&env.kindOf x==some .cell)=true
   ·dsimp only;rw[if_pos c,QL,ex,QL,ex];exact congrArg some (if_pos c).symm
   ·dsimp only;rw[if_neg c,QL,ex,QL,ex];exact congrArg some (if_neg c).symm
  ·have e':(x==n)=false:=by simpa using e
   by_cases c:(k==QX&&env.scope.kind==.function&&env.kindOf n==some .cell)=true
   ·dsimp only;rw[if_pos c,QL,e',QL,e'];exact ih
   ·dsimp only;rw[if_neg c,QL,e',QL,e'];exact ih
structure wC(dsc:Scope)(N:List Str)(scope:Scope)(own:List Str)(ix:List Nat):Prop where
 kind:scope.kind=.function
 nocell:∀y∈scope.names,y.2≠DZ
 names:∀y∈scope.names,y.2=NameKind.local->scope.names.lookup y.1=some .local
 free:∀y∈scope.names,y.2=QX->dsc.names.lookup y.1=some .cell∨dsc.names.lookup y.1=some .free
 ix:∀i∈ix,i<N.length/\scope.names.lookup (N.getD i "")=some .free
noncomputable def Cx.comp(X:Cx)(scope:Scope)(own:List Str)(ix:List Nat)(cl:List (Str×Addr))(C:Addr)(fp:List Addr)(s:pC)(H:Hp)(xe:pB->pC->Prop):Cx:=
 {X with N:=own++ix.map (λi=>X.N.getD i ""),s₀:=s,H₀:=H,env:=CQ scope cl C X.env,outer:=X.stack,ex:=fp,fn:=λ_=>false,pn:=[],xe:=xe}
def comp_K{X:Cx}{scope:Scope}{own:List Str}{ix:List Nat}{cl:List (Str×Addr)}{C:Addr}{fp:List Addr}{s:pC}{H:Hp}{xe:pB->pC->Prop}:(X.comp scope own ix cl C fp s H xe).K=X.K:=rfl
noncomputable def selC(k:Nat)(ix:List Nat)(σ:St):St:=As k none++ix.map (λi=>(σ[i]?).join)
variable{σ':St}
section
variable{X:Cx}{pins:List (Addr×Obj)}{σ:St}{H H4:Hp}{s s4:pC}{dsc scope:Scope}{own:List Str}{ix:List Nat}{cl:List (Str×Addr)}{C:Addr}{fp:List Addr}{xe:pB->pC->Prop}
def comp_fp(I:Inv X pins σ H s)(hf:∀b∈fp,yY X pins H b){b:Addr}(hb:b∈fp):b∉frs X.stack:=λhs=>by
 obtain⟨_,f1,f2,_⟩:=hf b hb;rcases pR.mp (I.stkSub b hs) with e|e
 ·exact f1 e
 ·exact f2 e
theorem Inv.comp(I:Inv X pins σ H s)(hd:X.env.scope=dsc)(S:wC dsc X.N scope own ix)(cs:∀n c,cl.lookup n=some c->X.env.cells.lookup n=some c)(ch:∀n,(n,QX)∈scope.names->∃c,cl.lookup n=some c)
  (hf:∀b∈fp,yY X pins H b)(ho:∀b∈fp,∃o,s.heap.get? b=some o)(I4:Inv X pins σ H4 s4)(un:Un (frs X.stack) fp H H4 s.heap s4.heap)(hC:s.heap.objs.size<=C)(hn:∃m,s4.heap.Ns C m)(hC0:H4 C=none):
  Inv (X.comp scope own ix cl C fp s H xe) [] (selC own.length ix σ) H4 s4:=by
 have kfree:∀x,scope.names.lookup x=some .free->(CQ scope cl C X.env).kindOf x=some .cell∨(CQ scope cl C X.env).kindOf x=some .free:=λx h=>by
  have e:(CQ scope cl C X.env).kindOf x=_:=Wi X.env x scope.names;rw[e,h,QQ]
  split
  ·exact .inl rfl
  ·exact .inr rfl
 have kback:∀x,((CQ scope cl C X.env).kindOf x=some .cell∨(CQ scope cl C X.env).kindOf x=some .free)->scope.names.lookup x=some .free:=λx h=>by
  have e:(CQ scope cl C X.env).kindOf x=_:=Wi X.env x scope.names;rw[e] at h
  cases q:scope.names.lookup x with
  |none=>rw[q] at h;rcases h with h|h<;>cases h
  |some k=>
   have nc:=S.nocell _ (QK q);rw[q,QQ] at h
   cases k<;>first|rfl|exact absurd rfl nc|(rcases h with h|h<;>cases h)
 refine⟨⟨I.ok.mod,S.kind,I.ok.glob,I.ok.blt,hC,λx y c h1 h2=>I.ok.inj x y c (cs x c h1) (cs y c h2),λx hx=>ch x (QK (kback x hx)),λx c h=>(nomatch h),I.ok.hd,I.ok.frames,.inl rfl,λb hb=>⟨λz=>?_,λx c e=>(hf b hb).2.2.2.2.1 x c (cs x c e)⟩,
  I.bs,uK I.ok.bsz I.sz,λb o e hb=>?_,λb hb=>comp_fp I hf hb,I.stack,I.stkFree⟩,I4.os.trans I.os.symm,I4.bare,un,?_,λx c e=>I4.cell x c (cs x c e),hC0,λx c e=>I4.freeC x c (cs x c e),λp hp=>(nomatch hp),I4.hok,?_⟩
 ·obtain⟨o,e⟩:=ho b hb;have z':b=C:=z;exact absurd (po (pb e) (by rw[z'];exact hC)) (Ul _)
 ·rcases(hf b hb).2.2.2.1 with z|z
  ·exact I.ok.noex b o e z
  ·exact absurd (po (pb e) (uK I.ok.bsz z)) (Ul _)
 ·obtain⟨m,hm⟩:=hn;refine⟨m,hm,λi x v e1 e2 _=>?_⟩;have e1':(own++ix.map (λi=>X.N.getD i ""))[i]?=some x:=e1;unfold selC at e2
  by_cases hi:i<own.length
  ·rw[Qf (by rw[gk];exact hi),Dm,if_pos hi] at e2
   cases e2
  ·rw[Qb (by rw[gk];lia),gk,pQ] at e2
   rw[Qb (by lia),pQ] at e1'
   cases q:ix[i-own.length]? with
   |none=>rw[q] at e2;cases e2
   |some j=>
    rw[q] at e1' e2;rw[QQ,UL] at e1' e2;obtain⟨hj,hfr⟩:=S.ix j (pS q);rw[e1'] at hfr;have eN:X.N[j]?=some x:=by
     rw[pG hj,←e1',pE,pG hj];rfl
    have es:σ[j]?=some (some v):=by
     cases w:σ[j]? with
     |none=>rw[w] at e2;cases e2
     |some o=>rw[w] at e2;exact congrArg some e2
    have kd:=S.free _ (QK hfr) rfl;rw[←hd] at kd;obtain⟨m4,hm4,hl⟩:=I4.loc;obtain⟨u,r,l⟩:=hl j x v eN es (.inr kd);refine⟨u,r,.inr ⟨kfree x hfr,?_⟩⟩;rcases l with⟨k,_⟩|⟨_,c,ec,cell⟩
    ·have k':X.env.scope.names.lookup x=some .local:=k;rcases kd with z|z<;>(rw[k'] at z;cases z)
    ·obtain⟨c',ec'⟩:=ch x (QK hfr);have z:=cs x c' ec';rw[ec] at z
     cases z;exact⟨c,ec',cell⟩
 ·show(selC own.length ix σ).length=(own++ix.map (λi=>X.N.getD i "")).length
  unfold selC;rw[pM,pM,gk,pL,pL]
def Inv.outOf{pins':List (Addr×Obj)}{s':pC}(I:Inv X pins σ H s)(hf:∀b∈fp,yY X pins H b)(J:Inv (X.comp scope own ix cl C fp s H xe) pins' σ' H' s'):Inv X pins σ H' s':=
 I.call' J.os J.base J.hok J.bare λb hb=>by
  obtain⟨_,f1,_,f3,f4,f5⟩:=hf b hb;exact⟨f3,f1,f4,f5⟩
end
abbrev ZJ(ifs:List Expr)(env:Env):Sem Bool:=forIn ifs true λc r=>if r=true then do let ok ←isTrue c env (eval c env);pure (GY ok) else pure (GY r)
def PIf(X:Cx)(ifs:List Expr)(t:TT):Prop:=
 ∀(pins:List (Addr×Obj))(s:pC)(σ:St)(H:Hp)(Q:Bool->Hp->Prop),Inv X pins σ H s->t σ H Q->wpAny (model X.prog X.w) X.A (ZJ ifs X.env) (TP X pins σ Q) X.xe s
def tYes:TT:=λ_ H Q=>Q true H
def x8{X:Cx}:PIf X [] tYes:=λ_ _ _ H _ I h=>wpAny_tests_nil ⟨H,I,h⟩
def wO{X:Cx}{c:Expr}{t:TT}(h:PT X c t):PIf X [c] t:=λpins s σ H Q I q=>wpAny_tests_one (h pins s σ H Q I q)
section
variable{prog:pi}{w:uR}{A:uQ}{R:Gq->pC->Prop}{s:pC}
abbrev nb(prog:pi)(w:uR)(A:uQ)(env:Env)(R:Gq->pC->Prop):pB->pC->Prop:=notedBy (model prog w) A env λe s'=>R (.error e) s'
theorem zda{elt target iter:Expr}{ifs:List Expr}{scope:Scope}{pos:Pos}{it acc:pB}(I:Nat->pC->Prop)
  (turn:∀n s,I n s->wpAny (model prog w) A (DX it) (λr s₁=>(r=none/\R (.ok .next) s₁)∨∃v,r=some v/\
   wpAny (model prog w) A (CZ target it v) (λ_ s₂=>wpAny (model prog w) A (assign target env v) (λ_ s₃=>wpAny (model prog w) A (ZJ ifs env) (λok s₄=>
    if ok=true then wpAny (model prog w) A (eval elt env) (λx s₅=>wpAny (model prog w) A (call (.builtin "list.append") [acc,x]) (λ_ s₆=>∃m,m<n/\I m s₆) (nb prog w A env R) s₅) (nb prog w A env R) s₄
    else ∃m,m<n/\I m s₄) (nb prog w A env R) s₃) (nb prog w A env R) s₂) (nb prog w A env R) s₁) (nb prog w A env R) s)
  (n:Nat) (h:I n s):BN (model prog w) A (.compLoop (.ListComp elt [⟨target,iter,ifs,0⟩] scope pos) 0 it acc env) R s:=by
 refine codeAny_loop rfl I (λn s hI=>?_) n h;refine wpAny_noted ?_;have e:=compTurn_list elt target iter ifs scope pos it acc env;show wpAny (model prog w) A (compTurn (.ListComp elt [⟨target,iter,ifs,0⟩] scope pos) 0 it acc env) _ _ s;rw[e];refine pA (CO (pA (thn (turn n s hI) λr s₁ h₁=>?_)));rcases h₁ with⟨rfl,h₁⟩|⟨v,rfl,h₁⟩
 ·exact pK h₁
 ·refine pA (thn h₁ λ_ s₂ h₂=>pA (thn h₂ λ_ s₃ h₃=>pA (thn h₃ λok s₄ h₄=>?_)))
  cases ok with
  |false=>exact pK ⟨rfl,h₄⟩
  |true=>
   refine pA (pA (thn h₄ λx s₅ h₅=>pA (thn h₅ λ_ s₆ h₆=>?_)));exact pK (pK ⟨rfl,h₆⟩)
end
def v7(k:Nat)(ix:List Nat)(wi:TI)(g:TG)(ti:TT)(te:TE):TE:=λσ H Q=>wi σ H λJ H1=>∀D,H1 D=none->∃W:Nat->Nat->Hp->Prop,(∃m,W 0 m (upd H1 D (.lst [])))/\∀i m H2,W i m H2->
 (J.stop i H2/\Q (.ref D) H2)∨(J.go i H2/\∀x H3,J.yld i H2 x H3->g x (selC k ix σ) H3 λσ4 H4=>ti σ4 H4 λb H5=>if b=true then te σ4 H5 λy H6=>∃ys,H6 D=some (.lst ys)/\ys.length<sizeLine/\∃m',m'<m/\W (i+1) m' (upd H6 D (.lst (ys++[y])))
  else ∃m',m'<m/\W (i+1) m' H5)
variable{N:List Str}
section
variable{X:Cx}{pins:List (Addr×Obj)}{σ:St}{H:Hp}{s:pC}{dsc scope:Scope}{own:List Str}{ix:List Nat}{elt tg iter:Expr}{ifs:List Expr}{pos:Pos}{wi:TI}{g:TG}{ti:TT}{te:TE}
def CompBody(X:Cx)(scope:Scope)(own:List Str)(ix:List Nat)(tg:Expr)(ifs:List Expr)(elt:Expr)(g:TG)(ti:TT)(te:TE):Prop:=
 ∀cl C fp s H xe,PG (X.comp scope own ix cl C fp s H xe) tg g/\PIf (X.comp scope own ix cl C fp s H xe) ifs ti/\PE (X.comp scope own ix cl C fp s H xe) elt te
theorem Zh{use:Option (pB->Sem Unit)}{RQ:pB->pC->Prop}{p0:Pos}(hc:X.calm=true)(hd:X.env.scope=dsc)(S:wC dsc X.N scope own ix)(hi:PI X tg iter wi)(hb:CompBody X scope own ix tg ifs elt g ti te)
  (hs:∀x,AE iter X.env x=pure x)(I:Inv X pins σ H s)(h:v7 own.length ix wi g ti te σ H Q)
  (fin:∀D C H' s',Inv X pins σ H' s'->yY X pins H' C->(∃m,s'.heap.Ns C m)->Q (.ref D) H'->compPost (model X.prog X.w) X.A X.xe use RQ (.ref D) C (.ok .next) s'):
  wpAny (model X.prog X.w) X.A (comprehension (.ListComp elt [⟨tg,iter,ifs,0⟩] scope pos) scope X.env p0 (newList []) false (eval iter X.env) use) RQ X.xe s:=by
 obtain⟨cl,hcl,cs,ch⟩:=zer (scope:=scope) (env:=X.env) λn hn=>I.ok.has n (by
  have z:=S.free _ hn rfl;rw[←hd] at z;exact z)
 refine wpAny_comprehension_free rfl hs hcl S.kind S.names (thn (hi pins s σ H _ I h) λv s1 h1=>thn h1 λitv s2 h2=>?_);obtain⟨it,fp,tn,J,H2,e,I2,T,st2,f2,W⟩:=h2;subst e;have hD0:H2 s2.heap.objs.size=none:=I2.fresh;obtain⟨W,⟨m0,w0⟩,turn⟩:=W _ hD0;have I3:=I2.lnew (ys:=[]) (its:=[]) (t':=s2.toks) .nil (uJ _);refine gI (CS S.nocell (by intro y hy;cases hy) (λh₁ hns₁ hsb₁=>?_) S.kind)
 dsimp only at hns₁ hsb₁⊢;generalize hH3:s2.heap.push {cls:=.type "list",dict:=none,data:=.seq ([]:List pB).toArray}=g3 at hns₁ hsb₁⊢;have hC:g3.objs.size=s2.heap.objs.size+1:=by rw[←hH3,AQ]
 have old3:∀b o,g3.get? b=some o->h₁.get? b=some o:=λb o e=>hsb₁.extBut b o (uF (pb e)) (pH _ e);have old:∀b o,s2.heap.get? b=some o->h₁.get? b=some o:=λb o e=>old3 b o (by rw[←hH3];exact pH _ e)
 have I4:Inv X pins σ (upd H2 s2.heap.objs.size (.lst [])) {s2 with heap:=h₁,toks:=s2.toks+0}:=I3.kept (t':=s2.toks+0) λb o e=>old3 b o (by rw[←hH3];exact e)
 have fpo:∀b∈fp,∃o,s2.heap.get? b=some o:=λb hb=>let⟨o,e,_⟩:=T.obj _ _ st2 b hb;⟨o,e⟩;have hC0:upd H2 s2.heap.objs.size (.lst []) g3.objs.size=none:=by
  rw[zh (by rw[hC];exact Nat.succ_ne_self _)]
  exact I2.hok.fresh (by rw[hC];exact gS _)
 have hCs:s2.heap.objs.size<=g3.objs.size:=by rw[hC];exact gS _
 have into:∀{H':Hp}{s':pC}{xe:pB->pC->Prop},Inv X pins σ H' s'->Un (frs X.stack) fp H2 H' s2.heap s'.heap->(∃m,s'.heap.Ns g3.objs.size m)->H' g3.objs.size=none->Inv (X.comp scope own ix cl g3.objs.size fp s2 H2 xe) [] (selC own.length ix σ) H' s':=
  λI' un hn h0=>I2.comp hd S cs ch f2 fpo I' un hCs hn h0
 have stat:∀{H':Hp}{xe:pB->pC->Prop}{σ':St}{s':pC},Inv (X.comp scope own ix cl g3.objs.size fp s2 H2 xe) [] σ' H' s'->(∀b∈fp,H' b=none)->∀b∈fp,yY (X.comp scope own ix cl g3.objs.size fp s2 H2 xe) [] H' b:=λ{H' xe σ' s'} K hn b hb=>
  ⟨hn b hb,(K.ok.exf b hb).1,K.ok.exfs b hb,.inl hb,(K.ok.exf b hb).2,λp hp=>nomatch hp⟩
 have loop:∀s₃:pC,s₃={s2 with heap:=h₁,toks:=s2.toks+0}->
   BN (model X.prog X.w) X.A (.compLoop (.ListComp elt [⟨tg,iter,ifs,0⟩] scope pos) 0 (.ref it) (.ref s2.heap.objs.size) (CQ scope cl g3.objs.size X.env)) (compPost (model X.prog X.w) X.A X.xe use RQ (.ref s2.heap.objs.size) g3.objs.size) s₃:=by
  rintro s₃ rfl;generalize hxe:nb X.prog X.w X.A (CQ scope cl g3.objs.size X.env) (compPost (model X.prog X.w) X.A X.xe use RQ (.ref s2.heap.objs.size) g3.objs.size)=xe;obtain⟨hg,hif,hel⟩:=hb cl g3.objs.size fp s2 H2 xe;refine zda (λn s'=>∃i H',Inv (X.comp scope own ix cl g3.objs.size fp s2 H2 xe) [] (selC own.length ix σ) H' s'/\tn i s'.heap/\(∀b∈fp,H' b=none)/\W i n H') ?_ m0
   ⟨0,_,into I4 (Un.laid old (pJ _) hD0) ⟨_,hns₁⟩ hC0,T.keep _ _ _ st2 λb hb o e=>old b o e,λb hb=>?_,w0⟩
  ·rintro n s3 ⟨i,H3,K3,st3,fr3,w3⟩;rw[hxe];rcases turn i n H3 w3 with⟨stop,qn⟩|⟨go,step⟩
   ·refine thn (T.done (X.comp scope own ix cl g3.objs.size fp s2 H2 xe) rfl rfl rfl hc i [] s3 _ H3 xe K3 (stat K3 fr3) st3 stop) λr s4⟨hr,K4⟩=>.inl ⟨hr,?_⟩;obtain⟨m,hm,_⟩:=K4.loc;exact fin _ _ H3 s4 (I2.outOf f2 K4) (I2.fpOk hCs K4.free) ⟨m,hm⟩ qn
   ·refine thn (T.item (X.comp scope own ix cl g3.objs.size fp s2 H2 xe) rfl rfl rfl hc i [] s3 _ H3 xe K3 (stat K3 fr3) st3 go) λr s4⟨u,hr,h4⟩=>.inr ⟨u,hr,?_⟩;refine thn h4 λ_ s5⟨x,H5,K5,r5,y5,st5,fr5⟩=>?_;have K5':=K5.pinned (stat K5 fr5) (T.obj _ _ st5);refine thn (hg _ s5 _ H5 x u _ K5' r5 (step x H5 y5)) λ_ s6⟨σ6,H6,K6,q6⟩=>?_;refine thn (hif _ s6 σ6 H6 _ K6 q6) λb s7⟨H7,K7,q7⟩=>?_;have again:∀{σ8:St}{H8:Hp}{s8:pC},Inv (X.comp scope own ix cl g3.objs.size fp s2 H2 xe) ([]++qj fp s5.heap) σ8 H8 s8->(∃m',m'<n/\W (i+1) m' H8)->∃m,m<n/\∃i H',Inv (X.comp scope own ix cl g3.objs.size fp s2 H2 xe) [] (selC own.length ix σ) H' s8/\tn i s8.heap/\(∀b∈fp,H' b=none)/\W i m H':=λ{σ8 H8 s8} K8⟨m',hm,w8⟩=>by
     obtain⟨m,hm8,_⟩:=K8.loc;refine⟨m',hm,i+1,H8,into (I2.outOf f2 K8) K8.base ⟨m,hm8⟩ K8.free,T.keep _ _ _ st5 λb hb o e=>(K8.pin (b,o) (pI _ (pI _ (qA hb e)))).1,λb hb=>?_,w8⟩;obtain⟨o,e,d⟩:=T.obj _ _ st5 b hb;exact(K8.pin (b,o) (pI _ (pI _ (qA hb e)))).2.1
    cases b with
    |false=>exact again K7 q7
    |true=>
     refine thn (hel _ s7 σ6 H7 _ K7 q7) λv s8⟨y,H8,K8,r8,ys,e8,z8,q8⟩=>?_;refine thn (wq (X:=X.comp scope own ix cl g3.objs.size fp s2 H2 xe) _ s8 σ6 H8 (.ref s2.heap.objs.size) [y] (.ref s2.heap.objs.size) [v] (λ_ H'=>∃m',m'<n/\W (i+1) m' H') K8 rfl (.cons r8 .nil) ⟨_,ys,y,rfl,rfl,e8,z8,q8⟩) ?_;rintro u9 s9 ⟨v9,H9,K9,r9,q9⟩;exact again K9 q9
  ·have z:=(f2 b hb).1;obtain⟨o,e⟩:=fpo b hb;rw[zh (uF (pb e))];exact z
 exact codeAny_compStart_list (loop _ rfl) (T.self _ 0 _ _ _ (T.keep _ _ _ st2 λb hb o e=>old b o e) (loop _ rfl))
def ZI(hc:X.calm=true)(hd:X.env.scope=dsc)(hN:X.N=N)(S':wC dsc N scope own ix)(hi:PI X tg iter wi)(hb:CompBody X scope own ix tg ifs elt g ti te)
  (hs:∀x,AE iter X.env x=pure x:=by intro _;rfl):PE X (.ListComp elt [⟨tg,iter,ifs,0⟩] scope pos) (v7 own.length ix wi g ti te):=by
 have S:wC dsc X.N scope own ix:=by rw[hN];exact S'
 intro pins s σ H Q I h;rw[eval_ListComp];refine Zh (use:=none) hc hd S hi hb hs I h λD C H' s' I' f' hn q=>?_;obtain⟨m,hm⟩:=hn;obtain⟨f0,f1,f2,f3,f4,f5⟩:=f';exact⟨m,hm,λh' sb=>⟨.ref D,H',I'.turned (t':=s'.toks) (λb o hb e=>(sb.2 b hb).trans e) f0 f1 f3 f4 f5,rfl,q⟩⟩
theorem ps_setC{i:Nat}{x:Str}{pos' pos1:Pos}(hN:X.N.Nodup)(hx0:X.N[i]?=some x)(hx:Loc X.env.scope x)(hc:X.calm=true)(hd:X.env.scope=dsc)(hN':X.N=N)(S':wC dsc N scope own ix)(hi:PI X tg iter wi)(hb:CompBody X scope own ix tg ifs elt g ti te)
  (hsw:Di (.ListComp elt [⟨tg,iter,ifs,0⟩] scope pos) (some (.Name x pos')) pos1.line X.env=pure true:=by rfl)(hf:X.fn x=true∨X.env.scope.names.lookup x=some .local:=by first|exact .inl rfl|exact .inr rfl|assumption)
  (hs:∀x,AE iter X.env x=pure x:=by intro _;rfl):PS X (.Assign [.Name x pos'] (.ListComp elt [⟨tg,iter,ifs,0⟩] scope pos) pos1) (wE (v7 own.length ix wi g ti te) (gName i)):=by
 have S:wC dsc X.N scope own ix:=by rw[hN'];exact S'
 intro pins s σ H D I h;rw[exec_Assign_Name_used _ _ _ _ hsw]
 have main:=Zh (p0:=iter.pos) (pos:=pos) (use:=some (assign (.Name x pos') X.env)) (RQ:=λ_ s'=>SP X pins D .next s') hc hd S hi hb hs I h λl C H' s' I' f' hn q=>by
  obtain⟨m,o,es,ep,ho,hdt,hr⟩:=hn;obtain⟨f0,f1,f2,f3,f4,f5⟩:=f';have Ip:Inv X (pins++[(C,o)]) σ H' s':=I'.pins_of λp hp=>(pP.mp hp).elim (λz=>I'.pin p (pI _ z)) λz=>by
   have e:p=(C,o):=by simpa using z
   subst e;exact⟨ho,f0,f1,f2,λv z=>by rw[hdt] at z;cases z⟩
  refine FV (qe (v:=.ref l) Ip hN hx0 hx rfl (λs2 I2=>?_) hf);have pc:=I2.pin (C,o) (pI _ (pI _ (by simp)))
  refine⟨m,⟨o,es,ep,pc.1,hdt,hr⟩,λh' sb=>⟨_,H',I2.unpinned.turned (t':=s2.toks) (λb o hb e=>(sb.2 b hb).trans e) pc.2.1 f1 f3 f4 f5,q⟩⟩
 refine pA (CO (pA ?_));exact pA (thn main λ_ s' hq=>pK (pK hq))
end
def CW(n:Nat)(Pv:Nat->List V->Hp->Prop):Nat->Nat->Hp->Prop:=λi m H=>m=n-i/\i<=n/\∃ys,Pv i ys H
abbrev vg(n:Nat)(Pv:Nat->List V->Hp->Prop)(D:Addr)(i:Nat)(y:V)(H:Hp):Prop:=∃ys,H D=some (.lst ys)/\ys.length<sizeLine/\∃m',m'<n-i/\CW n Pv (i+1) m' (upd H D (.lst (ys++[y])))
abbrev vw(n:Nat)(Pv:Nat->List V->Hp->Prop)(i:Nat)(H:Hp):Prop:=∃m',m'<n-i/\CW n Pv (i+1) m' H
variable{Pv:Nat->List V->Hp->Prop}{D:Addr}
theorem cw_put{n i:Nat}{y:V}{H:Hp}(hi:i<n)(hD:H D=some (.lst ys))(hz:ys.length<sizeLine)(p:Pv (i+1) (ys++[y]) (upd H D (.lst (ys++[y])))):vg n Pv D i y H:=
 ⟨ys,hD,hz,n-(i+1),by lia,rfl,hi,_,p⟩
theorem cw_skip{n i:Nat}{H:Hp}(hi:i<n)(p:Pv (i+1) ys H):vw n Pv i H:=⟨n-(i+1),by lia,rfl,hi,_,p⟩
def jY(J:It)(D:Addr)(g:TG)(ti:TT)(te:TE)(σ':St)(H:Hp)(Q:VK):Prop:=
 ∃W:Nat->Nat->Hp->Prop,(∃m,W 0 m (upd H D (.lst [])))/\∀i m H2,W i m H2->
  (J.stop i H2/\Q (.ref D) H2)∨(J.go i H2/\∀x H3,J.yld i H2 x H3->g x σ' H3 λσ4 H4=>ti σ4 H4 λb H5=>if b=true then te σ4 H5 λy H6=>∃ys,H6 D=some (.lst ys)/\ys.length<sizeLine/\∃m',m'<m/\W (i+1) m' (upd H6 D (.lst (ys++[y])))
   else ∃m',m'<m/\W (i+1) m' H5)
variable{ti:TT}{te:TE}
def yT{k:Nat}{ix:List Nat}{wi:TI}{g:TG}{σ:St}{H:Hp}(h:wi σ H λJ H1=>∀D,H1 D=none->jY J D g ti te (selC k ix σ) H1 Q):v7 k ix wi g ti te σ H Q:=h
theorem XN{J:It}{g:TG}{H:Hp}(n:Nat)(Pv:Nat->List V->Hp->Prop)(h0:Pv 0 [] (upd H D (.lst [])))(hgo:∀i ys H,i<n->Pv i ys H->J.go i H)(hst:∀ys H,Pv n ys H->J.stop n H)
  (hs:∀i ys H x H3,i<n->Pv i ys H->J.yld i H x H3->g x σ' H3 λσ4 H4=>ti σ4 H4 λb H5=>if b=true then te σ4 H5 λy H6=>vg n Pv D i y H6 else vw n Pv i H5)
  (hd:∀ys H,Pv n ys H->Q (.ref D) H):jY J D g ti te σ' H Q:=by
 refine⟨CW n Pv,⟨n,rfl,uJ _,[],h0⟩,?_⟩;rintro i m H2 ⟨rfl,hi,ys,p⟩
 by_cases hlt:i<n
 ·exact .inr ⟨hgo i ys H2 hlt p,λx H3 y=>hs i ys H2 x H3 hlt p y⟩
 ·have e:i=n:=by lia
  subst e;exact .inl ⟨hst ys H2 p,hd ys H2 p⟩
def xp{K:pF}{a:Addr}{xs:List V}{g:TG}{H:Hp}(Pv:Nat->List V->Hp->Prop)(h0:Pv 0 [] (upd H D (.lst [])))(hl:∀i ys H,Pv i ys H->SqL K H a xs)
  (hs:∀i ys H x,i<xs.length->xs[i]?=some x->Pv i ys H->g x σ' H λσ4 H4=>ti σ4 H4 λb H5=>if b=true then te σ4 H5 λy H6=>vg xs.length Pv D i y H6 else vw xs.length Pv i H5)
  (hd:∀ys H,Pv xs.length ys H->Q (.ref D) H):jY (Itl K a) D g ti te σ' H Q:=by
 refine XN xs.length Pv h0 (λi ys H hi p=>⟨xs,xs[i],hl i ys H p,by simp[hi]⟩) (λys H p=>⟨xs,hl _ ys H p,pJ _⟩) (λi ys H x H3 hi p y=>?_) hd
 obtain⟨e,y⟩:=y;subst e;exact hs i ys _ x hi (y xs (hl i ys _ p)) p
def zbw{K:pF}{a:Addr}{xs:List V}{g:TG}{H:Hp}(Pv:Nat->List V->Hp->Prop)(h0:Pv 0 [] (upd H D (.lst [])))(hl:∀i ys H,Pv i ys H->SqT K H a xs)
  (hs:∀i ys H x,i<xs.length->xs[i]?=some x->Pv i ys H->g x σ' H λσ4 H4=>ti σ4 H4 λb H5=>if b=true then te σ4 H5 λy H6=>vg xs.length Pv D i y H6 else vw xs.length Pv i H5)
  (hd:∀ys H,Pv xs.length ys H->Q (.ref D) H):jY (Itt K a) D g ti te σ' H Q:=by
 refine XN xs.length Pv h0 (λi ys H hi p=>⟨xs,xs[i],hl i ys H p,by simp[hi]⟩) (λys H p=>⟨xs,hl _ ys H p,pJ _⟩) (λi ys H x H3 hi p y=>?_) hd
 obtain⟨e,y⟩:=y;subst e;exact hs i ys _ x hi (y xs (hl i ys _ p)) p
def XE{lo:Int}{n:Nat}{g:TG}{H:Hp}(Pv:Nat->List V->Hp->Prop)(h0:Pv 0 [] (upd H D (.lst [])))
  (hs:∀i ys H,i<n->Pv i ys H->g (.int (lo+i)) σ' H λσ4 H4=>ti σ4 H4 λb H5=>if b=true then te σ4 H5 λy H6=>vg n Pv D i y H6 else vw n Pv i H5)
  (hd:∀ys H,Pv n ys H->Q (.ref D) H):jY (Itr lo n) D g ti te σ' H Q:=by
 refine XN n Pv h0 (λi ys H hi p=>hi) (λys H p=>pJ _) (λi ys H x H3 hi p y=>?_) hd;obtain⟨e,y⟩:=y;subst e y;exact hs i ys _ hi p
mutual
def RdD(K:pF)(H:Hp):Da->V->Prop
 |.none,v=>v=.non
 |.bool b,v=>v=.bl b
 |.int i,v=>v=.int i
 |.str x,v=>v=.str x
 |.list ds,v=>∃p xs,v=.ref p/\SqL K H p xs/\ya K H ds xs
 |.tuple ds,v=>∃p xs,v=.ref p/\SqT K H p xs/\ya K H ds xs
 |.dict _,_=>False
def ya(K:pF)(H:Hp):List Da->List V->Prop
 |[],xs=>xs=[]
 |d::ds,xs=>∃x r,xs=x::r/\RdD K H d x/\ya K H ds r
end
section
variable{X:Cx}{pins:List (Addr×Obj)}{σ:St}{H:Hp}{s:pC}
mutual
theorem wB(I:Inv X pins σ H s):∀(d:Da)(v:V)(u:pB),RdD X.K H d v->zm v u->∃as,Reads s.heap u d as
 |.none,v,u,h,r=>by
  rw[RdD] at h;subst h;cases r;exact⟨_,.none⟩
 |.bool b,v,u,h,r=>by
  rw[RdD] at h;subst h;cases r;exact⟨_,.bool b⟩
 |.int i,v,u,h,r=>by
  rw[RdD] at h;subst h;obtain⟨t,rfl⟩:=r;exact⟨_,.int i t⟩
 |.str x,v,u,h,r=>by
  rw[RdD] at h;subst h;obtain⟨t,rfl⟩:=r;exact⟨_,.str x t⟩
 |.list ds,v,u,h,r=>by
  rw[RdD] at h;obtain⟨p,xs,rfl,hq,hs⟩:=h
  cases r;obtain⟨its,rv,pl,hz⟩:=I.list hq;obtain⟨o,ho,hc,n,hd⟩:=pl.isList;obtain⟨as,ra⟩:=XY I ds xs its hs rv;exact⟨_,reads_list_at ho hc hd (by simpa using ra)⟩
 |.tuple ds,v,u,h,r=>by
  rw[RdD] at h;obtain⟨p,xs,rfl,hq,hs⟩:=h
  cases r;obtain⟨its,rv,pl,hz⟩:=I.tuple hq;obtain⟨o,ho,hc,n,hd⟩:=pl;obtain⟨as,ra⟩:=XY I ds xs its hs rv;exact⟨_,reads_tuple_at ho hc hd (by simpa using ra)⟩
 |.dict kvs,v,u,h,r=>by
  rw[RdD] at h;exact h.elim
theorem XY(I:Inv X pins σ H s):∀(ds:List Da)(xs:List V)(us:List pB),ya X.K H ds xs->zn xs us->∃as,ReadsAll s.heap us ds as
 |[],xs,us,h,r=>by
  rw[ya] at h;subst h;cases r;exact⟨_,.nil⟩
 |d::ds,xs,us,h,r=>by
  rw[ya] at h;obtain⟨x,xr,rfl,hx,hr⟩:=h
  cases r with
  |cons r1 r2=>
   obtain⟨as,ra⟩:=wB I d _ _ hx r1;obtain⟨bs,rb⟩:=XY I ds _ _ hr r2;exact⟨_,.cons ra rb⟩
end
end
def rEqD(K:pF):R2:=λx y H Q=>∃d e,RdD K H d x/\RdD K H e y/\UB d=true/\UB e=true/\Q (.bl (uj d e)) H
def rNeD(K:pF):R2:=λx y H Q=>∃d e,RdD K H d x/\RdD K H e y/\UB d=true/\UB e=true/\Q (.bl (!PyData.eqv d e)) H
theorem hu64{A:uQ}{k:Nat}(hr:zX k A):A.units+64<cLine:=by have:=hr.un;lia
section
variable{X:Cx}
def wY(hu:X.A.units+64<cLine):OpR X (UZ .Eq) (rEqD X.K):=by
 intro pins s σ H x y v u Q I rx ry h;obtain⟨d,e,hd,he,sd,se,q⟩:=h;obtain⟨as,ra⟩:=wB I d x v hd rx;obtain⟨bs,rb⟩:=wB I e y u he ry;exact eq_dataH ra rb sd se hu ⟨.bl (uj d e),H,I,rfl,q⟩
def jA(hu:X.A.units+64<cLine):OpR X (UZ .NotEq) (rNeD X.K):=by
 intro pins s σ H x y v u Q I rx ry h;obtain⟨d,e,hd,he,sd,se,q⟩:=h;obtain⟨as,ra⟩:=wB I d x v hd rx;obtain⟨bs,rb⟩:=wB I e y u he ry;exact ne_dataH ra rb sd se hu ⟨.bl (!PyData.eqv d e),H,I,rfl,q⟩
def zbc:OpR X (AN .Sub) (λx y H Q=>∃i k,x=.bl i/\y=.bl k/\Q (.int (b2i i-b2i k)) H):=by
 intro pins s σ H x y v u Q I rx ry h;obtain⟨i,k,rfl,rfl,q⟩:=h
 cases rx
 cases ry;exact sub_bool ⟨.int (b2i i-b2i k),H,I.tok _,⟨_,rfl⟩,q⟩
end
noncomputable def dPt(x y w:Int):Da:=.tuple [.int x,.int y,.int w]
def xU{K:pF}{H:Hp}{p:Addr}{x y w:Int}(h:SqT K H p [.int x,.int y,.int w]):RdD K H (dPt x y w) (.ref p):=by
 unfold dPt;rw[RdD];exact⟨p,_,rfl,h,by simp[ya,RdD]⟩
def wN(x y w:Int):UB (dPt x y w)=true:=by
 simp[dPt,UB,Qs,uX,Qp,uz]
def qw(x y w x' y' w':Int):uj (dPt x y w) (dPt x' y' w')=decide (x=x'/\y=y'/\w=w'):=by
 simp only[dPt,uj,uk,FH]
 by_cases h1:x=x'<;>by_cases h2:y=y'<;>by_cases h3:w=w'<;>simp[h1,h2,h3]
section
variable{X:Cx}
def IxR.imp{r r':R2}(h:IxR X r)(i:∀x y H Q,r' x y H Q->r x y H Q):IxR X r':=λvalue slice pins s σ H x y v u Q I rx ry q hs=>h value slice pins s σ H x y v u Q I rx ry (i x y H Q q) hs
def yC.imp{f:pB}{r r':List V->Hp->VK->Prop}(h:yC X f r)(i:∀xs H Q,r' xs H Q->r xs H Q):yC X f r':=λpins s σ H xs us Q I rv q=>h pins s σ H xs us Q I rv (i xs H Q q)
def rIxTH:R2:=λx y H Q=>∃p xs i v,x=.ref p/\y=.int i/\H p=some (.tup xs)/\atI xs i=some v/\Q v H
def rIxLH:R2:=λx y H Q=>∃p xs i v,x=.ref p/\y=.int i/\H p=some (.lst xs)/\atI xs i=some v/\Q v H
def zc:IxR X rIxTH:=ix_tup.imp λx y H Q⟨p,xs,i,v,e1,e2,h,e3,q⟩=>⟨p,xs,i,v,e1,e2,.of h,e3,q⟩
def zR:IxR X rIxLH:=vH.imp λx y H Q⟨p,xs,i,v,e1,e2,h,e3,q⟩=>⟨p,xs,i,v,e1,e2,.of h,e3,q⟩
def rLenH:List V->Hp->VK->Prop:=λxs H Q=>∃p ys,xs=[.ref p]/\(H p=some (.lst ys)∨H p=some (.tup ys))/\Q (.int ys.length) H
def xy:yC X (.builtin "len") rLenH:=Xc.imp λxs H Q⟨p,ys,e,h,q⟩=>⟨p,ys,e,h.imp .of .of,q⟩
noncomputable def tyF(H:Hp)(x:V):Option String:=match x with
 |.non=>some "NoneType"
 |.bl _=>some "bool"
 |.int _=>some "int"
 |.str _=>some "str"
 |.ref p=>match H p with
  |some (.lst _)=>some "list"
  |some (.tup _)=>some "tuple"
  |_=>none
 |_=>none
theorem tyF_tyN{K:pF}{H:Hp}{x:V}(h:tyF H x=some T):tyN K H x T:=by
 cases x with
 |non=>exact(uN h).symm
 |bl b=>exact(uN h).symm
 |int i=>exact(uN h).symm
 |str z=>exact(uN h).symm
 |ref p=>
  unfold tyF at h;dsimp only at h
  cases q:H p with
  |none=>rw[q] at h;cases h
  |some o=>
   rw[q] at h
   cases o with
   |lst xs=>exact .inl ⟨(uN h).symm,xs,.of q⟩
   |tup xs=>exact .inr (.inl ⟨(uN h).symm,xs,.of q⟩)
   |_=>cases h
 |_=>cases h
def rIsiF(T:String):List V->Hp->VK->Prop:=λxs H Q=>∃x Tx,xs=[x,.ty T]/\tyF H x=some Tx/\Q (.bl (yu Tx T)) H
def wv(h:yC X (.builtin "isinstance") (rIsi X.K T)):yC X (.builtin "isinstance") (rIsiF T):=h.imp λxs H Q⟨x,Tx,e,t,q⟩=>⟨x,Tx,e,tyF_tyN t,q⟩
end
def Zy{H:Hp}{p:Addr}{xs:List V}(h:H p=some (.lst xs)):tyF H (.ref p)=some "list":=by unfold tyF;dsimp only;rw[h]
def X7{H:Hp}{p:Addr}{xs:List V}(h:H p=some (.tup xs)):tyF H (.ref p)=some "tuple":=by unfold tyF;dsimp only;rw[h]
def tyF_non{H:Hp}:tyF H .non=some "NoneType":=rfl
def tyF_bl{H:Hp}{b:Bool}:tyF H (.bl b)=some "bool":=rfl
def tyF_int{H:Hp}{i:Int}:tyF H (.int i)=some "int":=rfl
def tyF_str{H:Hp}{z:Str}:tyF H (.str z)=some "str":=rfl
def at0{α:Type}{x:α}{r:List α}:atI (x::r) 0=some x:=yp (j:=0) rfl
def at1{α:Type}{x y:α}{r:List α}:atI (x::y::r) 1=some y:=yp (j:=1) rfl
def at2{α:Type}{x y z:α}{r:List α}:atI (x::y::z::r) 2=some z:=yp (j:=2) rfl
def at3{α:Type}{x y z t:α}{r:List α}:atI (x::y::z::t::r) 3=some t:=yp (j:=3) rfl
def at4{α:Type}{x y z t u:α}{r:List α}:atI (x::y::z::t::u::r) 4=some u:=yp (j:=4) rfl
def yt{H:Hp}{o:HO}(g:zg H H')(h:H D=none):zg H (upd H' D o):=λb u q=>by
 rw[zh (zN q h)];exact g b u q
section
variable{X:Cx}
def SlR.imp{r r':V->Option Int->Option Int->Hp->VK->Prop}(h:SlR X r)(i:∀x lo hi H Q,r' x lo hi H Q->r x lo hi H Q):SlR X r':=λpins s σ H x v vl vu lo hi sl Q I rx hs pl pu q=>h pins s σ H x v vl vu lo hi sl Q I rx hs pl pu (i x lo hi H Q q)
def rSlH:V->Option Int->Option Int->Hp->VK->Prop:=λx lo hi H Q=>∃a xs,x=.ref a/\H a=some (.lst xs)/\∀p,H p=none->Q (.ref p) (upd H p (.lst (yr xs lo hi)))
def vV:SlR X rSlH:=sl_list.imp λx lo hi H Q⟨a,xs,e,h,q⟩=>⟨a,xs,e,.of h,q⟩
def rListH:List V->Hp->VK->Prop:=λxs H Q=>∃p ys,xs=[.ref p]/\(H p=some (.lst ys)∨H p=some (.tup ys))/\∀l,H l=none->Q (.ref l) (upd H l (.lst ys))
def Xw:yC X (.type "list") rListH:=zeb.imp λxs H Q⟨p,ys,e,h,q⟩=>⟨p,ys,e,h.imp .of .of,q⟩
def xa{K:pF}{H:Hp}{p:Addr}{xs:List V}(h:H p=some (.lst xs)):tyV K "list" (.ref p) H:=.inl ⟨rfl,xs,.of h⟩
def V3:Qc "min"=some (.builtin "min"):=by decide+kernel
def ZW:Qc "max"=some (.builtin "max"):=by decide+kernel
end
def vU(J:It)(g:TG)(tb:TS)(D:Ends)(σ:St)(H:Hp):Prop:=∃W:Nat->Nat->St->Hp->Prop,(∃m,W 0 m σ H)/\∀i m σ H,W i m σ H->
 (J.stop i H/\D.nx σ H)∨(J.go i H/\∃N:St->Hp->Prop,(∀σ' H',N σ' H'->∃m',m'<m/\W (i+1) m' σ' H')/\∀x H',J.yld i H x H'->g x σ H' λσ2 H2=>tb {D with nx:=N,ct:=N,bk:=D.nx} σ2 H2)
def yq{wi:TI}{g:TG}{D:Ends}{σ:St}{H:Hp}(h:wi σ H λJ H1=>vU J g tb D σ H1):tFor wi g tb D σ H:=h
section
variable{X:Cx}{pos:Pos}
def gTupH(n:Nat)(t:TGs):TG:=λv σ H Q=>∃a xs,v=.ref a/\H a=some (.tup xs)/\xs.length=n/\t xs σ H Q
def jd{es:List Expr}{k:Nat}{t:TGs}{n:Nat}(hc:X.calm=true)(h:PGs X es t)(hn:(BV es X.env).length=n:=by rfl)(hst:(BV es X.env).findIdx? (·.1)=none:=by rfl):PG X (.Tuple es k pos) (gTupH n t):=
 λpins s σ H v u Q I r hw=>Vy hc h hn hst pins s σ H v u Q I r (by
  obtain⟨a,xs,e,q,l,z⟩:=hw;exact⟨a,xs,e,.of q,l,z⟩)
end
variable{its:Array pB}{q:Addr}
section
variable{prog:pi}{w:uR}{A:uQ}{E:pB->pC->Prop}{s:pC}
variable{R:pB->pC->Prop}
def ZR{c t:Addr}{i:Nat}{v:pB}(hi:s.heap.IsTupleIter c t i)(ht:s.heap.IsTuple t its)(hv:its[i]?=some v)
  (hR:∀g,g.IsTupleIter c t (i+1)->Ac c s.heap g->R v {s with heap:=g}):wpAny (model prog w) A (Qw (.ref c)) R E s:=by
 obtain⟨o,ho,hc,hd⟩:=id hi;obtain⟨o2,ho2,_,n2,hd2⟩:=ht;unfold Qw;refine pA (Ug (name:=uT "__next__") hi.typeIs gZ (Uh gZ hi.typeIs Cm ?_ (Cb _)));show wpAny _ _ (field (.ref c) 0>>=_) _ _ s;refine pA (hV ho hd (x:=.ref t) rfl ?_);show wpAny _ _ (if(uw t==ut)=true then _ else _) _ _ s;rw[if_neg (show ¬((uw t==ut)=true) from uH)];show wpAny _ _ (field (.ref c) 1>>=_) _ _ s;refine pA (hV ho hd (x:=.int i 0) rfl ?_);show wpAny _ _ (Do (.ref t)>>=_) _ _ s;refine pA (Qt ho2 hd2 ?_);simp only[UX,hv];refine pA (Cv ho hd (by simp) (pK ⟨v,rfl,pK (hR _ ⟨_,Qn _ ho (EW (BX hd _)),(Fc ..).trans hc,?_⟩ (Ur ..))⟩));rw[BX hd];simp[gN]
def zdx{c t:Addr}{i:Nat}(hh:A.handled=none)(hi:s.heap.IsTupleIter c t i)(ht:s.heap.IsTuple t its)(hv:its[i]?=none)
  (hE:∀g e,Hm c s.heap g->(∃o,g.get? e=some o/\o.cls=.type "StopIteration")->E (.ref e) {s with heap:=g}):wpAny (model prog w) A (Qw (.ref c)) R E s:=by
 obtain⟨o,ho,hc,hd⟩:=id hi;obtain⟨o2,ho2,_,n2,hd2⟩:=ht;unfold Qw;refine pA (Ug (name:=uT "__next__") hi.typeIs gZ (Uh gZ hi.typeIs Cm ?_ (Cb _)));show wpAny _ _ (field (.ref c) 0>>=_) _ _ s;refine pA (hV ho hd (x:=.ref t) rfl ?_);show wpAny _ _ (if(uw t==ut)=true then _ else _) _ _ s;rw[if_neg (show ¬((uw t==ut)=true) from uH)];show wpAny _ _ (field (.ref c) 1>>=_) _ _ s;refine pA (hV ho hd (x:=.int i 0) rfl ?_);show wpAny _ _ (Do (.ref t)>>=_) _ _ s;refine pA (Qt ho2 hd2 ?_);simp only[UX,hv];refine pA (UI (pA (Cv ho hd (by simp) ?_)));show wpAny _ _ (newExc (.type "StopIteration") []>>=_) _ _ _
 refine pA ?_;simp only[newExc,newTuple];refine pA (gI ?_ (by size_fits))
 refine pA (m:=Cw _ _) (GS (a:=ut) (by first|rfl|(simp only[Cw];rfl)) ?_);refine gI ?_ (by size_fits)
 simp only[raiseNew];refine pA (wpAny_handled ?_);first|rw[show A.in1.handled=none from hh]|rw[hh]
 refine pA (pK (wpAny_throw ?_));exact hE _ _ (((Ur ..).extBut.push _).push _) ⟨_,pd _ rfl,rfl⟩
variable{R:Option pB->pC->Prop}{xs:Array pB}
def zby{z p:Addr}{k1 k2:Nat}{ys:Array pB}{x y a b:pB}(D:Gw z p q i1 i2 l1 l2)(hz:IsZip s.heap z p q .none)(hp:Ay s.heap p (.ref i1) (.ref i2))(hq:Ay s.heap q a b)
  (h1:s.heap.IsTupleIter i1 l1 k1)(h2:s.heap.IsTupleIter i2 l2 k2)(t1:s.heap.IsTuple l1 xs)(t2:s.heap.IsTuple l2 ys)(hx:xs[k1]?=some x)(hy:ys[k2]?=some y)
  (hR:∀g,IsZip g z p q (gN s.heap.objs.size)->Ay g q x y->g.IsTupleIter i1 l1 (k1+1)->g.IsTupleIter i2 l2 (k2+1)->Ay g s.heap.objs.size x y->g.objs.size=s.heap.objs.size+1->
   (∀c o,c≠z->c≠q->c≠i1->c≠i2->s.heap.get? c=some o->g.get? c=some o)->R (some (.ref s.heap.objs.size)) {s with heap:=g}):wpAny (model prog w) A (DX (.ref z)) R E s:=by
 have hT:s.TypeIs (.ref z) "zip":=⟨_,hz,rfl⟩;unfold DX;refine pA (Am (Ug (name:=uT "__next__") hT Cc (Uh Cc hT GE ?_ (Fe _))));show wpAny _ _ (field (.ref z) 2>>=_) _ _ s;refine pA (hV hz rfl (x:=.bool false) rfl ?_);show wpAny _ _ (field (.ref z) 3>>=_) _ _ s;refine pA (hV hz rfl (x:=.ref p) rfl (pA (Qt hp rfl ?_)));show wpAny _ _ (Ua (.ref z)>>=_) _ _ s;refine pA ?_;unfold Ua;refine pA (hV hz rfl (x:=.none) rfl (pK ?_));simp only[if_true];refine pA (UI (pA (hV hz rfl (x:=.ref q) rfl (pA (Ae hz (by simp) λg1 z1 b1=>?_)))))
 replace z1:IsZip g1 z p q .ellipsis:=z1
 refine pA ?_;simp only[Dq,GZ,BO,Cy];refine pA (pA (FI ?_));show wpAny _ _ (Qw (.ref i1)>>=_) _ _ _;refine pA (ZR (h1.extBut b1.extBut D.i1z) (t1.extBut b1.extBut D.l1z) hx λg2 j1 b2=>pK ?_);have q2:Ay g2 q a b:=b2.extBut _ _ D.TOi1 (b1.extBut _ _ D.TOz hq);refine pA (Qt q2 rfl (pA (Eg q2 λg3 q3 b3=>?_)));replace q3:Ay g3 q x b:=q3;refine pA (Aa (pK (pA (pA (FI ?_)))));show wpAny _ _ (Qw (.ref i2)>>=_) _ _ _;refine pA (ZR (((h2.extBut b1.extBut D.i2z).extBut b2.extBut D.i12.symm).extBut b3.extBut D.TOi2.symm) (((t2.extBut b1.extBut D.l2z).extBut b2.extBut D.l2i1).extBut b3.extBut D.l2TO) hy λg4 j2 b4=>pK ?_);have q4:Ay g4 q x b:=b4.extBut _ _ D.TOi2 q3;refine pA (Qt q4 rfl (pA (Eg q4 λg5 q5 b5=>?_)));replace q5:Ay g5 q x y:=q5;refine pA (Aa (pK (pK (pA (Qt q5 rfl (pA (Eh ?_)))))));have sz:g5.objs.size=s.heap.objs.size:=by rw[b5.1,b4.1,b3.1,b2.1,b1.1]
 have z5:IsZip g5 z p q .ellipsis:=b5.extBut _ _ D.TOz.symm (b4.extBut _ _ D.i2z.symm (b3.extBut _ _ D.TOz.symm (b2.extBut _ _ D.i1z.symm z1)));have k5:∀c o,c≠z->c≠q->c≠i1->c≠i2->s.heap.get? c=some o->g5.get? c=some o:=λc o c1 c2 c3 c4 e=>b5.extBut _ _ c2 (b4.extBut _ _ c4 (b3.extBut _ _ c2 (b2.extBut _ _ c3 (b1.extBut _ _ c1 e))));have u1:g5.IsTupleIter i1 l1 (k1+1):=((j1.extBut b3.extBut D.TOi1.symm).extBut b4.extBut D.i12).extBut b5.extBut D.TOi1.symm;have u2:g5.IsTupleIter i2 l2 (k2+1):=j2.extBut b5.extBut D.TOi2.symm;have zl:z<g5.objs.size:=pb z5;show wpAny _ _ (Az (.ref z) (.ref g5.objs.size)>>=_) _ _ _;refine pA ?_;unfold Az;have z6:IsZip (g5.push {cls:=.type "tuple",data:=.seq #[x,y]}) z p q .ellipsis:=pH _ z5;refine pA (Ae z6 (by simp) λg7 z7 b7=>?_);replace z7:IsZip g7 z p q (gN g5.objs.size):=z7
 refine Ae z7 (by simp) λg8 z8 b8=>?_;replace z8:IsZip g8 z p q (gN g5.objs.size):=z8
 have up:∀c o,c≠z->g5.get? c=some o->g8.get? c=some o:=λc o c1 e=>b8.extBut _ _ c1 (b7.extBut _ _ c1 (pH _ e));have w8:Ay g8 g5.objs.size x y:=b8.extBut _ _ (Bj zl) (b7.extBut _ _ (Bj zl) (pd _ rfl));have s8:g8.objs.size=g5.objs.size+1:=by rw[b8.1,b7.1,AQ]
 rw[sz] at z8 w8 s8;refine pK ⟨_,rfl,pK ?_⟩;show R (some (.ref g5.objs.size)) _;rw[sz];exact hR g8 z8 (up _ _ D.TOz q5) (u1.at λo e=>up _ o D.i1z e) (u2.at λo e=>up _ o D.i2z e) w8 s8 λc o c1 c2 c3 c4 e=>up c o c1 (k5 c o c1 c2 c3 c4 e)
def zc2{z p:Addr}{k1:Nat}{a b:pB}(hh:A.handled=none)(D:Gw z p q i1 i2 l1 l2)(hz:IsZip s.heap z p q .none)(hp:Ay s.heap p (.ref i1) (.ref i2))(hq:Ay s.heap q a b)
  (h1:s.heap.IsTupleIter i1 l1 k1)(t1:s.heap.IsTuple l1 xs)(hx:xs[k1]?=none)
  (hR:∀g,(∀c o,c≠z->c≠q->c≠i1->c≠i2->s.heap.get? c=some o->g.get? c=some o)->R none {s with heap:=g}):wpAny (model prog w) A (DX (.ref z)) R E s:=by
 have hT:s.TypeIs (.ref z) "zip":=⟨_,hz,rfl⟩;unfold DX;refine pA (Am (Ug (name:=uT "__next__") hT Cc (Uh Cc hT GE ?_ (Fe _))));show wpAny _ _ (field (.ref z) 2>>=_) _ _ s;refine pA (hV hz rfl (x:=.bool false) rfl ?_);show wpAny _ _ (field (.ref z) 3>>=_) _ _ s;refine pA (hV hz rfl (x:=.ref p) rfl (pA (Qt hp rfl ?_)));show wpAny _ _ (Ua (.ref z)>>=_) _ _ s;refine pA ?_;unfold Ua;refine pA (hV hz rfl (x:=.none) rfl (pK ?_));simp only[if_true];refine pA (UI (pA (hV hz rfl (x:=.ref q) rfl (pA (Ae hz (by simp) λg1 z1 b1=>?_)))))
 replace z1:IsZip g1 z p q .ellipsis:=z1
 refine pA ?_;simp only[Dq,GZ,BO,Cy];refine pA (pA (FI ?_));show wpAny _ _ (Qw (.ref i1)>>=_) _ _ _
 refine pA (zdx (by first|exact hh|(show A.in1.handled=none;exact hh)) (h1.extBut b1.extBut D.i1z) (t1.extBut b1.extBut D.l1z) hx λg2 e b2 he=>?_)
 obtain⟨oe,hoe,ce⟩:=he;have z2:IsZip g2 z p q .ellipsis:=b2 _ _ D.i1z.symm z1;have ez:e≠z:=λy=>by subst y;rw[z2] at hoe;cases hoe;simp at ce
 refine Ae z2 (by simp) λg3 _ b3=>pA (gW (T:="StopIteration") (b:=true) ⟨oe,b3.extBut _ _ ez hoe,ce⟩ isSubtype_stop (pK (hR g3 λc o c1 _ c3 _ y=>b3.extBut _ _ c1 (b2 _ _ c3 (b1.extBut _ _ c1 y)))))
end
noncomputable def zh1(h:Heap)(l:Addr):Heap:=h.push {cls:=.type "tuple_iterator",data:=.fields #[.ref l,.int 0 0]}
noncomputable def zh2(h:Heap)(l m:Addr):Heap:=(zh1 h l).push {cls:=.type "tuple_iterator",data:=.fields #[.ref m,.int 0 0]}
noncomputable def zh3(h:Heap)(l m:Addr):Heap:=(zh2 h l m).push {cls:=.type "tuple",data:=.seq #[.ref h.objs.size,.ref (zh1 h l).objs.size]}
noncomputable def zh4(h:Heap)(l m:Addr):Heap:=(zh3 h l m).push {cls:=.type "tuple",data:=.seq #[.none,.none]}
noncomputable def zh5(h:Heap)(l m:Addr):Heap:=(zh4 h l m).push {cls:=.type "zip",data:=.fields #[.none,.bool false,.bool false,.ref (zh2 h l m).objs.size,.ref (zh3 h l m).objs.size]}
def zbv(l m:Addr)(xs ys:Array pB):Meets (Av.«zip.__new__» ⟨[.type "zip",.ref l,.ref m],[]⟩) (λ_ R s=>s.heap.IsTuple l xs/\s.heap.IsTuple m ys/\R (.ok (.ret (.ref (zh4 s.heap l m).objs.size))) {s with heap:=zh5 s.heap l m}):=
 .of_wp λprog w A R s h=>by
  obtain⟨hp,g,d,tk,os⟩:=s;obtain⟨hl1,hl2,h⟩:=h;have hsub:=sub_zip;have L1:Hb (Hn ⟨hp,g,d,tk,os⟩) l xs:=hl1;have L2:Hb (Hn ⟨hp.push {cls:=.type "tuple_iterator",data:=.fields #[.ref l,.int 0 0]},g,d,tk,os⟩) m ys:=Heap.IsTuple.push hl2 _
  wp_walk using Ct L1,Ct L2
  exact⟨_,rfl,h⟩
section
variable{prog:pi}{w:uR}{A:uQ}{E:pB->pC->Prop}{s:pC}
def ze6{l m:Addr}{xs ys:Array pB}{R:pB->pC->Prop}(t1:s.heap.IsTuple l xs)(t2:s.heap.IsTuple m ys)
  (h:∀g,IsZip g (s.heap.objs.size+4) (s.heap.objs.size+2) (s.heap.objs.size+3) .none->Ay g (s.heap.objs.size+2) (.ref s.heap.objs.size) (.ref (s.heap.objs.size+1))->Ay g (s.heap.objs.size+3) .none .none->
   g.IsTupleIter s.heap.objs.size l 0->g.IsTupleIter (s.heap.objs.size+1) m 0->(∀c o,s.heap.get? c=some o->g.get? c=some o)->R (.ref (s.heap.objs.size+4)) {s with heap:=g}):wpAny (model prog w) A (call (.type "zip") [.ref l,.ref m]) R E s:=by
 refine callType_new F.called_zip (by decide) (F.typeCall_zip_2 _ _) (F.newCall_zip_2 _ _) (λobj=>F.args_object_init_3 obj _ _) F.entry_zip_new (zbv l m xs ys) ⟨t1,t2,?_⟩
 have s1:(zh1 s.heap l).objs.size=s.heap.objs.size+1:=AQ ..;have s2:(zh2 s.heap l m).objs.size=s.heap.objs.size+2:=by unfold zh2;rw[AQ,s1]
 have s3:(zh3 s.heap l m).objs.size=s.heap.objs.size+3:=by unfold zh3;rw[AQ,s2]
 have s4:(zh4 s.heap l m).objs.size=s.heap.objs.size+4:=by unfold zh4;rw[AQ,s3]
 have up:∀{c o},(zh4 s.heap l m).get? c=some o->(zh5 s.heap l m).get? c=some o:=λe=>pH _ e;have up3:∀{c o},(zh3 s.heap l m).get? c=some o->(zh5 s.heap l m).get? c=some o:=λe=>up (pH _ e);have up2:∀{c o},(zh2 s.heap l m).get? c=some o->(zh5 s.heap l m).get? c=some o:=λe=>up3 (pH _ e);have up1:∀{c o},(zh1 s.heap l).get? c=some o->(zh5 s.heap l m).get? c=some o:=λe=>up2 (pH _ e);have e5:(zh5 s.heap l m).get? (zh4 s.heap l m).objs.size=some {cls:=.type "zip",data:=.fields #[.none,.bool false,.bool false,.ref (zh2 s.heap l m).objs.size,.ref (zh3 s.heap l m).objs.size]}:=pd _ rfl;have e4:(zh5 s.heap l m).get? (zh3 s.heap l m).objs.size=some {cls:=.type "tuple",data:=.seq #[.none,.none]}:=up (pd _ rfl);have e3:(zh5 s.heap l m).get? (zh2 s.heap l m).objs.size=some {cls:=.type "tuple",data:=.seq #[.ref s.heap.objs.size,.ref (zh1 s.heap l).objs.size]}:=up3 (pd _ rfl);have e2:(zh5 s.heap l m).get? (zh1 s.heap l).objs.size=some {cls:=.type "tuple_iterator",data:=.fields #[.ref m,.int 0 0]}:=up2 (pd _ rfl);have e1:(zh5 s.heap l m).get? s.heap.objs.size=some {cls:=.type "tuple_iterator",data:=.fields #[.ref l,.int 0 0]}:=up1 (pd _ rfl);show _/\_;rw[s2,s3,s4] at e5;rw[s1,s2] at e3;rw[s3] at e4;rw[s1] at e2;rw[s4];exact⟨⟨_,e5,rfl⟩,h _ e5 e3 e4 ⟨_,e1,rfl,rfl⟩ ⟨_,e2,rfl,rfl⟩ λc o x=>up1 (pH _ x)⟩
end
noncomputable def Ity(K:pF)(l1 l2:Addr):It:=
 ⟨λi H=>∃xs ys x y,SqT K H l1 xs/\SqT K H l2 ys/\xs[i]?=some x/\ys[i]?=some y,
  λi H v H'=>∃T x y,H T=none/\v=.ref T/\H'=upd H T (.tup [x,y])/\(∀xs,SqT K H l1 xs->xs[i]?=some x)/\(∀ys,SqT K H l2 ys->ys[i]?=some y),
  λi H=>∃xs,SqT K H l1 xs/\xs.length<=i⟩
def ZipTt(z p q i1 i2 l1 l2:Addr)(i:Nat)(h:Heap):Prop:=∃a b,IsZip h z p q .none/\Ay h p (.ref i1) (.ref i2)/\Ay h q a b/\h.IsTupleIter i1 l1 i/\h.IsTupleIter i2 l2 i
def Inv.tup_inj{X:Cx}{pins:List (Addr×Obj)}{σ:St}{H:Hp}{s:pC}{a:Addr}{xs:List V}(I:Inv X pins σ H s)(h1:SqT X.K H a xs)(h2:SqT X.K H a ys):xs=ys:=I.tuple_inj h1 h2
theorem zec{P:pi}{w:uR}{K:pF}{pos:Pos}{z p:Addr}(D:Gw z p q i1 i2 l1 l2):
  Turn P w K (.Tuple elts x1 pos) (Ity K l1 l2) [z,p,q,i1,i2] z (ZipTt z p q i1 i2 l1 l2) where
 mem:=by simp
 obj:=λi h st b hb=>by
  obtain⟨a,b',hz,hp,hq,h1,h2⟩:=st;simp only[pR,QJ,or_false] at hb;rcases hb with rfl|rfl|rfl|rfl|rfl
  ·exact⟨_,hz,λv r=>by cases r⟩
  ·exact⟨_,hp,λv r=>by cases r⟩
  ·exact⟨_,hq,λv r=>by cases r⟩
  ·obtain⟨o,e,c,d⟩:=h1;exact⟨o,e,λv r=>by rw[d] at r;cases r⟩
  ·obtain⟨o,e,c,d⟩:=h2;exact⟨o,e,λv r=>by rw[d] at r;cases r⟩
 keep:=λi h h' st k=>by
  obtain⟨a,b',hz,hp,hq,h1,h2⟩:=st;exact⟨a,b',k z (by simp) _ hz,k p (by simp) _ hp,k q (by simp) _ hq,h1.at λo e=>k i1 (by simp) o e,h2.at λo e=>k i2 (by simp) o e⟩
 item:=by
  intro X hP hw hK hc i pins s σ H E I hf st hg;subst hP hw hK;obtain⟨xs,ys,x,y,hq1,hq2,hx,hy⟩:=hg;obtain⟨a,b',hz,hp,hq,h1,h2⟩:=st;obtain⟨its1,rv1,p1,_⟩:=I.tuple hq1;obtain⟨its2,rv2,p2,_⟩:=I.tuple hq2;obtain⟨u1,hu1,ru1⟩:=rv1.get hx;obtain⟨u2,hu2,ru2⟩:=rv2.get hy;refine zby D hz hp hq h1 h2 p1 p2 (x:=u1) (y:=u2) (by simpa using hu1) (by simpa using hu2) λg1 z1 t1 j1 j2 pr sz kk=>⟨_,rfl,?_⟩
  refine DN z1 λg2 z2 sb=>?_;have lt:∀b∈[z,p,q,i1,i2],b≠s.heap.objs.size:=λb hb e=>by
   have:∃o,s.heap.get? b=some o:=by
    simp only[pR,QJ,or_false] at hb;rcases hb with rfl|rfl|rfl|rfl|rfl
    ·exact⟨_,hz⟩
    ·exact⟨_,hp⟩
    ·exact⟨_,hq⟩
    ·obtain⟨o,e,_⟩:=h1;exact⟨o,e⟩
    ·obtain⟨o,e,_⟩:=h2;exact⟨o,e⟩
   obtain⟨o,r⟩:=this;exact absurd (pb r) (by rw[e];exact Ul _)
  have nz:∀{b:Addr},b≠z->∀{o},g1.get? b=some o->g2.get? b=some o:=λ{b} hb{o} e=>(sb.2 b hb).trans e;have zT:s.heap.objs.size≠z:=(lt z (by simp)).symm
  have hnT:H s.heap.objs.size=none:=I.hok.fresh (pJ _);have new:yf X.prog X.w (upd H s.heap.objs.size (.tup [x,y])) g2 s.heap.objs.size (.tup [x,y]):=⟨by show 2<=sizeLine;decide,[u1,u2],.cons ru1 (.cons ru2 .nil),⟨_,nz zT pr,rfl,_,rfl⟩⟩
  have I1:=Inv.turnedNew (h':=g2) (t':=s.toks) (ch:=[z,p,q,i1,i2]) I hf (λb o hb e=>nz (by simp at hb;exact hb.1) (kk b o (by simp at hb;exact hb.1) (by simp at hb;exact hb.2.2.1) (by simp at hb;exact hb.2.2.2.1) (by simp at hb;exact hb.2.2.2.2) e)) (pJ _) new
  refine⟨.ref s.heap.objs.size,_,I1,rfl,⟨_,x,y,hnT,rfl,rfl,λzs hy'=>by rw[I.tup_inj hy' hq1];exact hx,λzs hy'=>by rw[I.tup_inj hy' hq2];exact hy⟩,⟨u1,u2,z2,?_,?_,?_,?_⟩,λb hb=>by rw[zh (lt b hb)];exact(hf b hb).1⟩
  ·exact nz D.TIz (kk p _ D.TIz D.TITO D.TIi1 D.TIi2 hp)
  ·exact nz D.TOz t1
  ·exact j1.at λo e=>nz D.i1z e
  ·exact j2.at λo e=>nz D.i2z e
 done:=by
  intro X hP hw hK hc i pins s σ H E I hf st hg;subst hP hw hK;obtain⟨xs,hq1,hl⟩:=hg;obtain⟨a,b',hz,hp,hq,h1,h2⟩:=st;obtain⟨its1,rv1,p1,_⟩:=I.tuple hq1;have e1:=rv1.length;refine zc2 (I.ok.hd hc) D hz hp hq h1 p1 (by simp;lia) λg1 kk=>⟨rfl,?_⟩
  exact I.turnedL (t':=s.toks) (ch:=[z,p,q,i1,i2]) hf (λb o hb e=>kk b o (by simp at hb;exact hb.1) (by simp at hb;exact hb.2.2.1) (by simp at hb;exact hb.2.2.2.1) (by simp at hb;exact hb.2.2.2.2) e)
 self:=λ_ _ _ _ _ st h=>by
  obtain⟨a,b',hz,_⟩:=st;exact CJ hz h
section
variable{X:Cx}
def iZipU(K:pF)(ta:TA):TI:=λσ H R=>ta σ H λvs H1=>∃l1 l2 xs ys,vs=[.ref l1,.ref l2]/\H1 l1=some (.tup xs)/\H1 l2=some (.tup ys)/\R (Ity K l1 l2) H1
theorem pi_zipT{a b:Expr}{ta:TA}{p pos:Pos}(hg:Gl X "zip")(hm:X.mg "zip"=none)(ha:PA X [a,b] ta)(hs:ur [a,b] X.env=[(false,eval a X.env),(false,eval b X.env)]:=by rfl)
  (hs2:ur [b] X.env=[(false,eval b X.env)]:=by rfl):PI X (.Tuple elts x1 tpos) (.Call (.Name "zip" p) [a,b] [] pos) (iZipU X.K ta):=by
 intro pins s σ H R I h;refine Call_ (xG I hg hm ZZ (Ql (thn (ha pos pins s σ H _ I h) λus s1⟨vs,H1,I1,r1,q1⟩=>?_) (by rw[hs,hs2]) (by rw[hs2];rfl)))
 obtain⟨l1,l2,xs,ys,e,e1,e2,r⟩:=q1;subst e;obtain⟨u,w',rfl,ru,rw'⟩:=vals2 r1
 cases ru
 cases rw';obtain⟨its1,rv1,p1,_⟩:=I1.tuple (.of e1);obtain⟨its2,rv2,p2,_⟩:=I1.tuple (.of e2);have lt:∀{t:Addr}{its:Array pB},s1.heap.IsTuple t its->t<s1.heap.objs.size:=λh=>by obtain⟨o,ho,_⟩:=h;exact pb ho
 refine ze6 p1 p2 λg hz hp hq hi1 hi2 kk=>CJ hz ?_;have I2:Inv X pins σ H1 {s1 with heap:=g}:=I1.kept (t':=s1.toks) kk;refine⟨_,_,_,_,H1,rfl,I2,zec (zipApart_new (n:=s1.heap.objs.size) (lt p1) (lt p2)),⟨_,_,hz,hp,hq,hi1,hi2⟩,λb hb=>?_,r⟩;have hb':s1.heap.objs.size<=b:=by
  simp only[pR,QJ,or_false] at hb;rcases hb with rfl|rfl|rfl|rfl|rfl<;>lia
 exact I1.fpOk hb' (I1.hok.fresh hb')
end
theorem zf4{K:pF}{xs:List V}{g:TG}{D:Ends}{σ:St}{H:Hp}(Pv:Nat->St->Hp->Prop)(h0:Pv 0 σ H)(hl:∀i σ H,Pv i σ H->H l1=some (.tup xs)/\H l2=some (.tup ys))(he:xs.length=ys.length)
  (hs:∀i x y T σ H,xs[i]?=some x->ys[i]?=some y->Pv i σ H->H T=none->g (.ref T) σ (upd H T (.tup [x,y])) λσ2 H2=>tb {D with nx:=Pv (i+1),ct:=Pv (i+1),bk:=D.nx} σ2 H2)(hd:∀σ H,Pv xs.length σ H->D.nx σ H):
  ∃W:Nat->Nat->St->Hp->Prop,(∃m,W 0 m σ H)/\∀i m σ H,W i m σ H->
   ((Ity K l1 l2).stop i H/\D.nx σ H)∨((Ity K l1 l2).go i H/\∃N:St->Hp->Prop,(∀σ' H',N σ' H'->∃m',m'<m/\W (i+1) m' σ' H')/\∀x H',(Ity K l1 l2).yld i H x H'->g x σ H' λσ2 H2=>tb {D with nx:=N,ct:=N,bk:=D.nx} σ2 H2):=by
 refine⟨λi m σ H=>m=xs.length-i/\i<=xs.length/\Pv i σ H,⟨xs.length,by simp,uJ _,h0⟩,?_⟩
 rintro i m σ H ⟨rfl,hi,p⟩;obtain⟨q1,q2⟩:=hl i σ H p
 by_cases hlt:i<xs.length
 ·refine .inr ⟨⟨xs,ys,xs[i],ys[i],.of q1,.of q2,by simp[hlt],by simp[he▸hlt]⟩,Pv (i+1),λσ' H' p'=>⟨xs.length-(i+1),by lia,rfl,hlt,p'⟩,λv H' y=>?_⟩
  obtain⟨T,x,y,hT,rfl,rfl,y1,y2⟩:=y;exact hs i x y T σ H (y1 xs (.of q1)) (y2 ys (.of q2)) p hT
 ·have e:i=xs.length:=by lia
  subst e;exact .inl ⟨⟨xs,.of q1,pJ _⟩,hd σ H p⟩
open PySem.Builtin PySem.Builtin.Str
open PySem.W (KasT kas_asc kas_desc kas_rev kas_tail3 kas_descPart kas_count kas_place kas_bin kas_sort kas_ask kas_item)
noncomputable def ansT{α:Type}(ans:Nat->Nat->Bool):KasT α->α
 |.ret a=>a
 |.ask i j k=>ansT ans (k (ans i j))
def yg{α:Type}(n:Nat)(R:α->Prop):KasT α->Prop
 |.ret a=>R a
 |.ask i j k=>i<n/\j<n/\∀b,yg n R (k b)
theorem yg.bind{α β:Type}{n:Nat}{R:α->Prop}{S:β->Prop}{f:α->KasT β}:∀{t:KasT α},yg n R t->(∀a,R a->yg n S (f a))->yg n S (t.bind f)
 |.ret a,h,k=>k a h
 |.ask i j g,h,k=>⟨h.1,h.2.1,λb=>yg.bind (h.2.2 b) k⟩
theorem yg.ends{α:Type}{n:Nat}{R:α->Prop}{ans:Nat->Nat->Bool}:∀{t:KasT α},yg n R t->R (ansT ans t)
 |.ret _,h=>h
 |.ask i j g,h=>yg.ends (n:=n) (t:=g (ans i j)) (h.2.2 (ans i j))
theorem yg.wp{α:Type}{n:Nat}{R:α->Prop}{ans:Nat->Nat->Bool}{cmp:Nat->Nat->(Bool->pC->Prop)->pC->Prop}{s:pC}{Q:α->pC->Prop}(hc:∀i j C,i<n->j<n->C (ans i j) s->cmp i j C s):
  ∀{t:KasT α},yg n R t->Q (ansT ans t) s->t.kasWp cmp Q s
 |.ret _,_,q=>q
 |.ask i j g,h,q=>hc i j _ h.1 h.2.1 (yg.wp (n:=n) (t:=g (ans i j)) hc (h.2.2 (ans i j)) q)
def Ord(n:Nat)(p:Array Nat):Prop:=p.toList.Perm (Qd n)
def Ord.get{n:Nat}{p:Array Nat}(h:Ord n p)(hn:0<n)(i:Nat):p.getD i 0<n:=by
 by_cases hi:i<p.size
 ·have e:p.getD i 0=p[i]:=by simp[Af,hi]
  rw[e];exact Qr.mp (h.mem_iff.mp (by simp))
 ·have e:p.getD i 0=0:=by simp[Af,hi]
  rw[e];exact hn
def Ord.of{n:Nat}{p q:Array Nat}(h:Ord n p)(e:q.Perm p):Ord n q:=(Cz.mp e).trans h
def Ord.rev{n:Nat}{p:Array Nat}(h:Ord n p)(i j:Nat):Ord n (kas_rev p i j):=h.of (AH _ _ _ _)
theorem WD{n:Nat}{p:Array Nat}(h:Ord n p)(hn:0<n):∀(f m:Nat),yg n (λ_=>True) (kas_asc p f m)
 |0,_=>trivial
 |f+1,m=>⟨h.get hn _,h.get hn _,λb=>by
  cases b with
  |true=>dsimp only;rw[if_pos rfl];trivial
  |false=>dsimp only;rw[if_neg (by decide)];exact WD h hn f (m+1)⟩
theorem qJ{n:Nat}(hn:0<n):∀(f:Nat){p:Array Nat}(m q:Nat),Ord n p->yg n (λr=>Ord n r.1) (kas_desc f p m q)
 |0,_,_,_,h=>h
 |f+1,p,m,q,h=>⟨h.get hn _,h.get hn _,λb=>by
  cases b with
  |true=>
   dsimp only;rw[if_pos rfl]
   by_cases z:q>0
   ·rw[if_pos z];exact qJ hn f _ _ (h.rev _ _)
   ·rw[if_neg z];exact qJ hn f _ _ h
  |false=>
   dsimp only;rw[if_neg (by decide)]
   refine⟨h.get hn _,h.get hn _,λd=>?_⟩
   cases d with
   |true=>dsimp only;rw[if_pos rfl];exact h
   |false=>dsimp only;rw[if_neg (by decide)];exact qJ hn f _ _ h⟩
def J5{n a b:Nat}{p:Array Nat}(hn:0<n)(h:Ord n p):yg n (λr=>Ord n r.2) (kas_tail3 a b p):=
 yg.bind (WD (h.rev _ _) hn _ _) λ_ _=>h.rev _ _
def J3{n a b:Nat}{p:Array Nat}(hn:0<n)(h:Ord n p):yg n (λr=>Ord n r.2) (kas_descPart a b p):=
 yg.bind (qJ hn _ _ _ h) λr hr=>by
  by_cases z:r.2.2>0
  ·rw[if_pos z];exact J5 hn (hr.rev _ _)
  ·rw[if_neg z];exact J5 hn hr
theorem ZE{n b:Nat}{p:Array Nat}(hn:0<n)(h:Ord n p):yg n (λr=>Ord n r.2) (kas_count b p):=
 yg.bind (WD h hn _ _) λm _=>by
  by_cases z:(m==b)=true
  ·rw[if_pos z];exact h
  ·rw[if_neg z]
   by_cases y:m>1
   ·rw[if_pos y];refine⟨h.get hn _,h.get hn _,λc=>?_⟩
    cases c with
    |true=>dsimp only;rw[if_pos rfl];exact h
    |false=>dsimp only;rw[if_neg (by decide)];exact J3 hn (h.rev _ _)
   ·rw[if_neg y];exact J3 hn h
theorem WR{n:Nat}{p:Array Nat}(hn:0<n)(h:Ord n p)(k:Nat):∀(f l r:Nat),yg n (λ_=>True) (kas_place p k f l r)
 |0,_,_=>trivial
 |f+1,l,r=>by
  unfold kas_place
  by_cases z:l≥r
  ·rw[if_pos z];trivial
  ·rw[if_neg z];refine⟨h.get hn _,h.get hn _,λc=>?_⟩
   cases c with
   |true=>dsimp only;rw[if_pos rfl];exact WR hn h k f _ _
   |false=>dsimp only;rw[if_neg (by decide)];exact WR hn h k f _ _
theorem ZM{n:Nat}(hn:0<n):∀(f:Nat){p:Array Nat}(k:Nat),Ord n p->yg n (Ord n) (kas_bin f p k)
 |0,_,_,h=>h
 |f+1,p,k,h=>yg.bind (WR hn h k _ _ _) λl _=>ZM hn f (k+1) (h.of (GT _ _ _))
def za1{n:Nat}(hn:0<n):yg n (Ord n) (kas_sort n):=
 yg.bind (ZE hn (by unfold Ord;simp)) λr hr=>by
  by_cases z:r.1<n
  ·rw[if_pos z];exact ZM hn _ _ hr
  ·rw[if_neg z];exact hr
def yN(g h:Heap):Prop:=∀b o,g.get? b=some o->h.get? b=some o
def yN.push{g h:Heap}(k:yN g h)(o:Obj):yN g (h.push o):=λb x e=>pH _ (k b x e)
def yN.upd{g h:Heap}{a:Addr}{f:Obj->Obj}(k:yN g h)(ha:g.objs.size<=a):yN g (h.update a f):=λb x e=>by
 rw[uv _ _ _ _ (uF (po (pb e) ha))];exact k b x e
def zao(vs:List pB):((Qd vs.length).map λi=>vs.getD i ut)=vs:=by
 refine GF (by simp) λi h1 h2=>?_
 have hi:i<vs.length:=h2
 simp[hi]
open PySem.W (KasT kas_sort kas_ask)
section
open PySem.SeqAt
open PySem.AutoSeq1 (wpAny_loadPart')
open PySem.MeetsSeq PySem.MeetsSeq2 PySem.MeetsSeq3
def ltRc{A:uQ}{s:pC}{a c:Int}{t u:Tok}(prog:pi)(w:uR)(E:pB->pC->Prop)(Q:pB->pC->Prop)(h:Q (.bool (decide (a<c))) s):wpAny (model prog w) A (Ei .Lt (.int a t) (.int c u)) Q E s:=
 (FA h:wpAny (model prog w) A (UZ .Lt (.int a t) (.int c u)) Q E s)
theorem tupleLt(l b:Addr)(items items2:Array pB)(n n2:Nat)(dd dd2:Option Addr)(sl sl2:Array (Option pB))(ns ms:List Int)(hlen:ns.length=ms.length)(hi:gq items.toList ns)(hj:gq items2.toList ms):
  Meets (Av.«tuple.__lt__» ⟨[.ref l,.ref b],[]⟩)
   (λ_ R s=>s.heap.get? l=some {cls:=.type "tuple",dict:=dd,data:=.seq items n,slots:=sl}/\s.heap.get? b=some {cls:=.type "tuple",dict:=dd2,data:=.seq items2 n2,slots:=sl2}/\R (.ok (.ret (.bool (HT.lexLt ns ms)))) s):=
 .of_wp λprog w A R s h=>by
  obtain⟨hp,g,d,tk,os⟩:=s;obtain⟨hl,hb,h⟩:=h;have f2:=Db;have z1:items.size=ns.length:=by rw[←hi.length];simp
  have z2:items2.size=ms.length:=by rw[←hj.length];simp
  wp_walk using Us hl,Us hb,AR _ (λrest b s'=>b.1=none/\s'=⟨hp,g,d,tk,os⟩/\∃(vs ws:List pB)(ns' ms':List Int),rest=vs.zip ws/\gq vs ns'/\gq ws ms'/\ns'.length=ms'.length/\R (.ok (.ret (.bool (HT.lexLt ns' ms')))) ⟨hp,g,d,tk,os⟩) _
  case turn=>
   rintro⟨y,x⟩ rest b s' ⟨hb',rfl,vs,ws,ns',ms',hz,hvi,hwi,hln,hR⟩
   cases hvi with
   |nil=>rw[Ff] at hz;cases hz
   |cons a t hv=>
    cases hwi with
    |nil=>rw[FM] at hz;cases hz
    |cons c u hw=>
     rw[Ag] at hz
     injection hz with q1 q2
     injection q1 with q3 q4
     subst q3 q4;rw[HT.lexLt_cons] at hR;simp only[uZ] at hln;obtain⟨e,he,hiff⟩:=HT.eqAt_int A.in1 ⟨hp,g,d,tk,os⟩ a t c u;refine pA (he prog w _ _ ?_)
     cases e with
     |true=>
      rw[if_pos (hiff.mp rfl)] at hR
      wp_walk
      exact⟨rfl,rfl,_,_,_,_,q2,hv,hw,by lia,hR⟩
     |false=>
      rw[if_neg (λq=>absurd (hiff.mpr q) uH)] at hR;have hri:=ltRc (A:=A.in1) (s:=⟨hp,g,d,tk,os⟩) (a:=a) (c:=c) (t:=t) (u:=u) prog w
      wp_walk using hri
      exact⟨_,rfl,by simpa using hR⟩
  case fin=>
   rintro⟨b1,b2⟩ s' ⟨hb',rfl,vs,ws,ns',ms',hz,hvi,hwi,hln,hR⟩
   simp only at hb'
   subst hb';have hv:HT.lexLt ns' ms'=decide (items.size<items2.size):=by
    rw[decide_eq_false (by lia)]
    cases hvi with
    |nil=>
     cases hwi with
     |nil=>rfl
     |cons c u hw=>cases hln
    |cons a t hv=>
     cases hwi with
     |nil=>cases hln
     |cons c u hw=>rw[Ag] at hz;cases hz
   rw[hv] at hR
   wp_walk
   exact⟨_,rfl,by simpa[CF] using hR⟩
  case h=>
   exact⟨rfl,rfl,items.toList,items2.toList,ns,ms,rfl,hi,hj,hlen,h⟩
end
def yd(h:Heap)(v:pB)(ns:List Int):Prop:=∃(a:Addr)(its:Array pB)(n:Nat)(dd:Option Addr)(sl:Array (Option pB)),v=.ref a/\h.get? a=some {cls:=.type "tuple",dict:=dd,data:=.seq its n,slots:=sl}/\gq its.toList ns
def TupP(h:Heap)(v:pB)(ns ms:List Int):Prop:=∃(a:Addr)(x y:pB)(n:Nat)(dd:Option Addr)(sl:Array (Option pB)),v=.ref a/\h.get? a=some {cls:=.type "tuple",dict:=dd,data:=.seq #[x,y] n,slots:=sl}/\yd h x ns/\yd h y ms
theorem ZL{h:Heap}:∀{us:List pB}{ns:List Int},gq us ns->∃as,ReadsAll h us (ns.map Ah) as
 |_,_,.nil=>⟨_,.nil⟩
 |_,_,.cons n t r=>let⟨_,q⟩:=ZL r;⟨_,.cons (.int n t) q⟩
variable{ns:List Int}
def yd.reads{h:Heap}{v:pB}(t:yd h v ns):∃as,Reads h v (.tuple (ns.map Ah)) as:=by
 obtain⟨a,its,n,dd,sl,rfl,o,i⟩:=t;obtain⟨as,r⟩:=ZL (h:=h) i;exact⟨_,reads_tuple_at o rfl rfl (by simpa using r)⟩
theorem Vi:∀ns:List Int,uX (ns.map Ah)=true
 |[]=>rfl
 |n::ns=>by simp only[pj,uX,Vi ns,Qs,Bool.and_self]
def ZV(ns:List Int):Qs (.tuple (ns.map Ah))=true:=by
 simp only[Qs,Vi ns]
theorem Zw:∀ns:List Int,uz (ns.map Ah)<=1
 |[]=>by simp[uz]
 |n::ns=>by
  have:=Zw ns;simp only[pj,uz,Qp];lia
theorem ZH:∀{ns ms:List Int},uk (ns.map Ah) (ms.map Ah)=decide (ns=ms)
 |[],[]=>rfl
 |[],m::ms=>rfl
 |n::ns,[]=>rfl
 |n::ns,m::ms=>by
  simp only[pj,uk,uj,ZH]
  by_cases h1:n=m<;>by_cases h2:ns=ms<;>simp[h1,h2]
section
variable{prog:pi}{w:uR}{A:uQ}{E:pB->pC->Prop}{s:pC}{C:Bool->pC->Prop}
theorem eq_tupI{x y:pB}{ms:List Int}(hx:yd s.heap x ns)(hy:yd s.heap y ms)(hu:A.units+64<cLine)(q:C (decide (ns=ms)) s):wpAny (model prog w) A (eqBool x y) C E s:=by
 obtain⟨as,ra⟩:=hx.reads;obtain⟨bs,rb⟩:=hy.reads;refine DA prog w A E s x y _ _ as bs C ra rb (ZV ns) (ZV ms) ?_ ?_
 ·have:=Zw ns;have:(Fg (ns.map Ah)).depth<=2:=by simp only[Qp];lia
  have:=Cd (Fg (ns.map Ah)).depth (Fg (ms.map Ah)).depth;lia
 ·simp only[uj];rw[ZH];exact q
end
open PySem.W (KatTups) in
theorem ktups{h:Heap}:∀vs:List pB,(∀v,v∈vs->∃a b,a≠[]/\TupP h v a b)->∃fs,fs.length=vs.length/\KatTups h vs fs/\∀f,f∈fs->∃ns,yd h f ns
 |[],_=>⟨[],rfl,.nil,λf hf=>by cases hf⟩
 |v::vs,hv=>by
  obtain⟨fs,l,t,r⟩:=ktups vs λu hu=>hv u (pY _ hu);obtain⟨a,b,ne,p,x,y,n,dd,sl,rfl,o,i,j⟩:=hv v (pX ..);refine⟨x::fs,by simp[l],.cons o rfl rfl rfl t,λf hf=>?_⟩
  rcases pR.mp hf with rfl|hf
  ·exact⟨_,i⟩
  ·exact r f hf
theorem jU:∀{xs:List V}{us:List pB},zn xs us->∀i,i<xs.length->zm (xs.getD i .non) (us.getD i ut)
 |_,_,.nil,i,h=>by cases h
 |_,_,.cons r t,0,_=>r
 |_,_,.cons r t,i+1,h=>jU t i (Nat.lt_of_succ_lt_succ h)
theorem ZS{f:Nat->V}{g:Nat->pB}:∀l:List Nat,(∀i,i∈l->zm (f i) (g i))->zn (l.map f) (l.map g)
 |[],_=>.nil
 |i::l,h=>.cons (h i (pX ..)) (ZS l λj hj=>h j (pY _ hj))
section
variable{X:Cx}{pins:List (Addr×Obj)}{σ:St}{H:Hp}{s:pC}
def Vz(I:Inv X pins σ H s){a:Addr}(h:H a=some (.tup (ns.map V.int))):yd s.heap (.ref a) ns:=by
 obtain⟨its,r,⟨⟨cls,dd,data,sl⟩,ho,hc,n,hd⟩,_⟩:=I.tuple (.of h)
 simp only at hc hd
 subst hc hd;exact⟨a,_,n,dd,sl,rfl,ho,qd r⟩
def YH:Qc "sorted"=some (.builtin "sorted"):=by decide+kernel
theorem hu100{A:uQ}{k:Nat}(hr:zX k A):A.units+100<cLine:=by have:=hr.un;lia
end
structure WV(ts:List Addr)(H:Hp):Prop where
 only:∀b,H b=none∨(∃o xs,H b=some (.frz o (.lst xs)))∨(b∈ts/\H b=some (.tbl #[]))
 tabs:∀b,b∈ts->H b=some (.tbl #[])
theorem zc9{P:pi}{w:uR}{K:pF}{mg mb:Str->Option pB}{CX:CXT}{k:Nat}{fa a:Addr}{fd:UN}{x:Str}{s₁:pC}{vs:List pB}{ts:List Addr}
  (KX:K.In s₁.heap)(hns:s₁.heap.Ns uV mg)(hb:s₁.heap.Ns Dy mb)(hbb:∀x:Str,x≠"__name__"->mb x=Qc x)(hlim:s₁.heap.NoLimit)(hg:s₁.gens=#[])
  (ha:s₁.heap.get? a=some {cls:=.type "list",data:=.seq vs.toArray})(hi:gq vs ns)(hl:ns.length<=sizeLine)(hr:zX k Ey)
  (hT:∀b,b∈ts->s₁.heap.get? b=some (PySem.W.tabObj #[])/\K.lookup b=none/\isCodeTable s₁.heap b)
  (hbm:∃bm ob,mg "__builtins__"=some (.ref bm)/\bm≠Dy/\s₁.heap.get? bm=some ob/\ob.cls=.type "module"/\ob.dict=some Dy/\ob.data=.plain)
  (F:∀base:Heap,K.In base->base.Ns uV mg->(∀b,b∈ts->base.BuiltinsAt mg b)->zx P w K mg base CX k fa fd [x] sp) (hbind:∀(s:pC)(u:pB),FY s fd ⟨[u],[]⟩ [(x,u)])
  (hsp:∀H:Hp,WV ts H->SqL K H a (ns.map V.int)->sp [.ref a] H (λv _=>v=.bl true) λ_ _ _=>False)
  (hCX:∀H e s',CX [] H s₁ (λ_ _ _=>False) e s'->False):
  BN (model P w) Ey (.call (.ref fa) ⟨[.ref a],[]⟩) (λr s'=>r=.ok (.ret (.bool true))/\OldK s₁.heap s'.heap/\s'.os=s₁.os/\DR s'.gens) s₁:=by
 have rv:=XW hi;have lenV:=hi.length;have naT:a∉ts:=λz=>by
  have e:=(hT a z).1;rw[ha] at e
  cases e
 have core:∀H:Hp,WV ts H->SqL K H a (ns.map V.int)->HOk P w H s₁.heap->(∀b,H b≠none->b=a∨b∈ts)->(H a≠none->K.lookup a=none)->
   BN (model P w) Ey (.call (.ref fa) ⟨[.ref a],[]⟩) (λr s'=>r=.ok (.ret (.bool true))/\OldK s₁.heap s'.heap/\s'.os=s₁.os/\DR s'.gens) s₁:=by
  intro H hO hS hok hA hK;have base_of:∀{b:Addr}{o:Obj},s₁.heap.get? b=some o->H b=none->(wo s₁.heap H).get? b=some o:=λe n=>zfd e n;have noD:∀{b:Addr}{o:Obj},s₁.heap.get? b=some o->o.cls≠.none->o.cls≠.type "list"->H b=none:=λ{b o} e d1 d2=>by
   cases q:H b with
   |none=>rfl
   |some u=>
    rcases hA b (by rw[q];simp) with e'|e'
    ·subst e';rw[ha] at e;cases e;exact absurd rfl d2
    ·rw[(hT b e').1] at e;cases e;exact absurd rfl d1
  have noA:∀{b:Addr}{o:Obj}{es:Array Bg}{ep:Nat},s₁.heap.get? b=some o->o.data=.dict es ep->H b=none:=λ{b o es ep} e d=>by
   cases q:H b with
   |none=>rfl
   |some u=>
    rcases hA b (by rw[q];simp) with e'|e'
    ·subst e';rw[ha] at e;cases e;have d':Ho vs.toArray _=Data.dict es ep:=d
     cases d'
    ·rw[(hT b e').1] at e;cases e;have d':GQ #[]=Data.dict es ep:=d
     cases d'
  have nsK:∀{b:Addr}{m:Str->Option pB},s₁.heap.Ns b m->(wo s₁.heap H).Ns b m:=λ{b m}⟨o,es,ep,e,d,r⟩=>⟨o,es,ep,base_of e (noA e d),d,r⟩;have hKb:K.In (wo s₁.heap H):=λb o e=>base_of (KX b o e) (by
   cases q:H b with
   |none=>rfl
   |some u=>
    rcases hA b (by rw[q];simp) with e'|e'
    ·subst e';rw[hK (by rw[q];simp)] at e;cases e
    ·rw[(hT b e').2.1] at e;cases e)
  have hM:Mod K mg (wo s₁.heap H):=⟨hKb,nsK hns,⟨mb,nsK hb,hbb⟩,let⟨mc,h1,h2⟩:=hlim;⟨mc,nsK h1,h2⟩⟩;have hB:∀b,b∈ts->(wo s₁.heap H).BuiltinsAt mg b:=λb hb'=>by
   obtain⟨bm,ob,b1,b2,b3,b4,b5,b6⟩:=hbm;refine⟨bm,ob,b1,b2,λq=>?_,λq=>?_,base_of b3 (noD b3 (by rw[b4];simp) (by rw[b4];simp)),b4,b5,b6⟩
   ·obtain⟨o,es,ep,e,d,_⟩:=hns;rw[←q,b3] at e;cases e;rw[b6] at d;cases d
   ·rw[q,(hT b hb').1] at b3;cases b3;cases b4
  have e0:Env0 P w K mg (wo s₁.heap H) Ey [] s₁ H:=⟨rfl,hM,λb o e=>of_hidT e,Up (zbg _ _),trivial,λb hb=>absurd (show b∈([]:List Addr) from hb) (by simp),hok,.of_eq hg⟩
  refine Bk ((F _ hKb (nsK hns) hB).run Ey [] s₁ H ⟨[.ref a],[]⟩ [.ref a] [.ref a] _ _ hr e0 (hbind s₁ (.ref a)) (.cons rfl .nil) (hsp H hO hS)) λr s' h=>?_
  cases r with
  |error e=>exact(hCX H e s' h).elim
  |ok fl=>
   cases fl with
   |next=>exact UH h
   |brk=>exact UH h
   |cont=>exact UH h
   |ret u=>
    obtain⟨v,H',os,bare,un,hok',r',q⟩:=h;have q':v=.bl true:=q;subst q';obtain rfl:u=Hw true:=r';have at':∀b o,s₁.heap.get? b=some o->asItWas s₁.heap s'.heap b o:=λb o e=>by
     cases q:H b with
     |none=>exact .inl (un.keep b o e q (by intro z;exact absurd (show b∈([]:List Addr) from z) (by simp)) (by simp))
     |some u=>
      rcases hO.only b with z|⟨ob,xs,z⟩|⟨hbt,z⟩
      ·rw[q] at z;cases z
      ·have z2:=un.frzs b ob _ z;obtain⟨e1,_⟩:=hok b _ z;obtain⟨e2,_⟩:=hok' b _ z2;rw[e] at e1;cases e1;exact .inl e2
      ·obtain⟨more,z2⟩:=un.tbls b _ z;have e2:s'.heap.get? b=some {cls:=.none,data:=.fields (#[]++more)}:=hok' b _ z2;have e1:=(hT b hbt).1;rw[e] at e1;cases e1;exact .inr (.inl ⟨(hT b hbt).2.2,rfl,#[],more,rfl,e2⟩)
    exact⟨rfl,⟨at',λb o e=>un.there b o e (by simp)⟩,os,bare⟩
 cases hk:K.lookup a with
 |some o=>
  have e:=KX a o hk;rw[ha] at e
  cases e;refine core (λb=>if b∈ts then some (.tbl #[]) else none) ⟨λb=>?_,λb hb'=>if_pos hb'⟩ (.inr ⟨_,vs.toArray,_,hk,rfl,rfl,rfl,by rw[pe,lenV];exact hl,by simpa using rv⟩) (λb u z=>?_) (λb z=>?_) λz=>absurd (if_neg naT) z
  ·by_cases hbt:b∈ts
   ·exact .inr (.inr ⟨hbt,if_pos hbt⟩)
   ·exact .inl (if_neg hbt)
  ·by_cases hbt:b∈ts
   ·have z':=(if_pos hbt).symm.trans z
    cases z';exact(hT b hbt).1
   ·have z':=(if_neg hbt).symm.trans z
    cases z'
  ·by_cases hbt:b∈ts
   ·exact .inr hbt
   ·exact absurd (if_neg hbt) z
 |none=>
  refine core (λb=>if b=a then some (.frz {cls:=.type "list",data:=.seq vs.toArray} (.lst (ns.map V.int))) else if b∈ts then some (.tbl #[]) else none) ⟨λb=>?_,λb hb'=>?_⟩ (.inl (.inr ⟨{cls:=.type "list",data:=.seq vs.toArray},if_pos rfl⟩)) (λb u z=>?_) (λb z=>?_) λ_=>hk
  ·by_cases hb:b=a
   ·exact .inr (.inl ⟨_,_,if_pos hb⟩)
   ·by_cases hbt:b∈ts
    ·exact .inr (.inr ⟨hbt,(if_neg hb).trans (if_pos hbt)⟩)
    ·exact .inl ((if_neg hb).trans (if_neg hbt))
  ·have hb:¬b=a:=λz=>naT (z▸hb');exact(if_neg hb).trans (if_pos hb')
  ·by_cases hb:b=a
   ·have z':=(if_pos hb).symm.trans z
    cases z';subst hb;exact⟨ha,by rw[pL];exact hl,vs,_,rv,ha⟩
   ·by_cases hbt:b∈ts
    ·have z':=((if_neg hb).trans (if_pos hbt)).symm.trans z
     cases z';exact(hT b hbt).1
    ·have z':=((if_neg hb).trans (if_neg hbt)).symm.trans z
     cases z'
  ·by_cases hb:b=a
   ·exact .inl hb
   ·by_cases hbt:b∈ts
    ·exact .inr hbt
    ·exact absurd ((if_neg hb).trans (if_neg hbt)) z
def walk_ofT{l:EO}{n k:Nat}{q:pi}{loose:List Str}{XP:(Str->Option pB)->Heap->Prop}{YP:uR->Heap->Prop}{d:DefRec}{K:Params->pF}{CX:uR->CXT}{sp:uR->List Addr->Sp}{x:Str}{ds:List Str}
  (hn:l.most=some n)(hn2:n<=sizeLine)(hdf:d.params.defaults=[])(hr:zX k Ey)
  (hY:∀(w:uR)(h:Heap),YP w h->(K w.params).In h)
  (hD:∀y,y∈ds->∃e,(recsOf q).find? (λe=>e.name==y)=some e)
  (F:∀(w:uR)(mg:Str->Option pB)(fa:Addr)(h:Heap),(K w.params).In h->h.Ns uV mg->mg d.name=some (.ref fa)->
   ∃(fd:UN)(ts:List Addr),(∀b,b∈ts->(K w.params).lookup b=none/\∃y c,y∈ds/\BF (K w.params) y=some (c,b))/\(∀(s:pC)(u:pB),FY s fd ⟨[u],[]⟩ [(x,u)])/\
    ∀base:Heap,(K w.params).In base->base.Ns uV mg->(∀b,b∈ts->base.BuiltinsAt mg b)->zx l.prog w (K w.params) mg base (CX w) k fa fd [x] (sp w ts))
  (hsp:∀(w:uR)(H:Hp)(a:Addr)(ns:List Int)(ts:List Addr),ns.length<=n->WV ts H->SqL (K w.params) H a (ns.map V.int)->sp w ts [.ref a] H (λv _=>v=.bl true) λ_ _ _=>False)
  (hCX:∀(w:uR)(H:Hp)(s:pC)(e:pB)(s':pC),CX w [] H s (λ_ _ _=>False) e s'->False):
  HN q loose XP YP l.row.toRowW d [] (λf vs=>Gv f vs):=by
 refine Att.attach_call hn hdf λw s₀ s₁ mg mb fa o pm cd doc a vs ns G Y ho hd hcd hmg hobj hints hlen hg=>?_;have KX:=hY w _ Y;obtain⟨fd,ts,ht,hb,hF⟩:=F w mg fa _ KX G.T.g hmg;refine zc9 (ts:=ts) KX G.T.g G.T.b G.T.builtins G.T.nolimit hg hobj hints (uK hlen hn2) hr (λb hb'=>?_) G.T.bmain hF hb (λH hO hS=>hsp w H a ns ts hlen hO hS) λH e s'=>hCX w H s₁ e s';obtain⟨hk,y,c,hy,e⟩:=ht b hb';obtain⟨r,hr'⟩:=hD y hy;obtain⟨C,hP⟩:=PySem.W.tab_of G.T KX hr' e;exact⟨hP,hk,(C.tab hP).isCodeTable⟩
open PySem.W (kla_fn kla_obj envX tabObj CodeHd)
structure qH(x y:Str)(sc:Scope):Prop where
 kind:sc.kind=.function
 co:sc.isCoroutine=false
 gen:sc.isGenerator=false
 par:sc.names.lookup x=some .local
 cap:sc.names.lookup y=some .free
 nocell:∀z,z∈sc.names->z.2≠.cell
 free:∀z,z∈sc.names->z.2=.free->z.1=y
noncomputable def jX(P:pi)(w:uR)(K:pF)(mg:Str->Option pB)(base:Heap)(x y:Str)(qual:Str)(sc:Scope)(f:Addr)(cd:pB)(c:Addr)(A:uQ)(outer:List Env)(s:pC)(H:Hp):Cx where
 prog:=P
 w:=w
 K:=K
 mg:=mg
 base:=base
 A:=A.deeper (envX qual sc s.heap.objs.size f cd [(y,c)])
 N:=[x,y]
 s₀:=s
 H₀:=H
 env:=envX qual sc s.heap.objs.size f cd [(y,c)]
 outer:=outer
 stack:=envX qual sc s.heap.objs.size f cd [(y,c)]::outer
 ex:=[]
 calm:=true
 fn:=λ_=>false
 pn:=[]
 xe:=λ_ _=>False
variable{d:Addr}
def qx{y z:Str}{c:Addr}(h:([(y,c)]:List (Str×Addr)).lookup z=some d):z=y/\d=c:=by
 rw[QL] at h
 by_cases e:z=y
 ·subst e;rw[beq_self_eq_true] at h
  cases h;exact⟨rfl,rfl⟩
 ·rw[beq_eq_false_iff_ne.mpr e] at h
  cases h
def JB(y:Str)(c:Addr):([(y,c)]:List (Str×Addr)).lookup y=some c:=by rw[QL,beq_self_eq_true]
variable{sc:Scope}{vy:V}
theorem inv_lam{P:pi}{w:uR}{K:pF}{mg:Str->Option pB}{base:Heap}{x y qual:Str}{f c:Addr}{cd:pB}{A:uQ}{s:pC}{H:Hp}{u uy:pB}{v:V}{h₁:Heap}{tk:Nat}
  (S:qH x y sc)(hd:A.handled=none)(e0:Env0 P w K mg base A outer s H)(ru:zm v u)(ry:zm vy uy)(hc:s.heap.IsCell c (some uy))(hcn:H c=none)
  (hns:h₁.Ns s.heap.objs.size (λz=>([(x,u)]:List (Str×pB)).reverse.lookup z))(hk:∀b o,s.heap.get? b=some o->h₁.get? b=some o):
  Inv (jX P w K mg base x y qual sc f cd c A outer s H) [] [some v,some vy] H {s with heap:=h₁,toks:=tk}:=by
 have noA:∀b:Addr,b∉(jX P w K mg base x y qual sc f cd c A outer s H).ex:=λb z=>absurd (show b∈([]:List Addr) from z) (by simp)
 refine⟨⟨e0.mod,S.kind,rfl,rfl,pJ _,λy1 z1 d h1 h2=>?_,λz hz=>?_,λz d hf _=>?_,λ_=>hd,CP e0.frames,.inr ⟨rfl,rfl⟩,λb z=>absurd z (noA b),e0.bs,e0.bsz,λb _ _=>noA b,λb z=>absurd z (noA b),e0.funs,e0.frf⟩,
  rfl,e0.bare,Un.kept hk,⟨_,hns,λi z v' h1 h2 h3=>?_⟩,λz d h=>?_,e0.hok.fresh (pJ _),λz d h=>?_,λp hp=>absurd (show p∈([]:List (Addr×Obj)) from hp) (by simp),e0.hok.kept hk,rfl⟩
 ·exact(qx h1).1.trans (qx h2).1.symm
 ·have hz:sc.names.lookup z=some .cell∨sc.names.lookup z=some .free:=hz;rcases hz with hz|hz
  ·exact absurd rfl (S.nocell _ (QK hz))
  ·have e:=S.free _ (QK hz) rfl;have e:z=y:=e;subst e;exact⟨c,JB _ _⟩
 ·cases hf
 ·match i,h1,h2 with
  |0,h1,h2=>
   cases h1
   cases h2;refine⟨u,ru,.inl ⟨S.par,?_⟩⟩;show([(x,u)]:List (Str×pB)).reverse.lookup x=some u
   simp
  |1,h1,h2=>
   cases h1
   cases h2;obtain⟨o,ho,hd'⟩:=hc;exact⟨uy,ry,.inr ⟨.inr S.cap,c,JB _ _,o,hk _ _ ho,hd'⟩⟩
 ·obtain⟨_,rfl⟩:=qx h;obtain⟨o,ho,hd'⟩:=hc;exact⟨_,o,hk _ _ ho,hd'⟩
 ·obtain⟨_,rfl⟩:=qx h;exact hcn
variable{params:Be}{body:Expr}
section
variable{X:Cx}{pins:List (Addr×Obj)}{σ:St}{H:Hp}{s:pC}
theorem lam_run{A:uQ}{k:Nat}{x y name qual:Str}{fa c c':Addr}{pm ctv u uy:pB}{v:V}(I:Inv X pins σ H s)
  (e0:Env0 X.prog X.w X.K X.mg X.base A X.stack s H)(hr:zX k A)(S:qH x y sc)(ho:s.heap.get? fa=some (kla_obj name qual params body sc [(y,c)] pm c' ctv))(hcd:s.heap.CodeRec (.ref c') qual)
  (hb:AF (kla_fn name qual params body sc [(y,c)] pm (.ref c') ctv) ⟨[u],[]⟩=pure [(x,u)])(ru:zm v u)(ry:zm vy uy)(hc:s.heap.IsCell c (some uy))(hcn:H c=none)
  (hbody:PE (jX X.prog X.w X.K X.mg X.base x y qual sc fa (.ref c') c A X.stack s H) body te)(q:te [some v,some vy] H Q):
  wpAny (model X.prog X.w) A (call (.ref fa) [u]) (EP X pins σ Q) (λ_ _=>False) s:=by
 refine Gr (Bk (R:=CR CX0 X.stack X.prog X.w H s Q E0) ?_ λr s' hq=>?_)
 ·refine Ej hr.depth ho rfl S.co S.gen rfl hcd ?_;rw[hb];refine pK (CS S.nocell (λz hz=>?_) (λh₁ hns hsb=>⟨I.nolimit.fresh _ hsb,?_⟩) S.kind)
  ·rw[pN] at hz;rw[hz];exact S.par
  ·show BN _ _ (.expr body (envX qual sc s.heap.objs.size fa (.ref c') [(y,c)])) _ _
   have kp:∀d u,s.heap.get? d=some u->h₁.get? d=some u:=λd u z=>hsb.extBut d u (uF (pb z)) (pH _ z);have J:=inv_lam (tk:=s.toks+1) (f:=fa) (qual:=qual) (cd:=.ref c') S hr.hd e0 ru ry hc hcn hns kp;refine Ek (Qe (hbody [] _ _ H Q J q) (λr s' hs=>?_) λe s' hs=>hs.elim);obtain⟨v',H',J',r',q'⟩:=hs;exact⟨v',H',J'.os,J'.bare,J'.base,J'.hok,r',q'⟩
 ·cases r with
  |error e=>exact hq.elim
  |ok fl=>
   cases fl with
   |ret u=>exact I.after hq
   |next=>exact UH hq
   |brk=>exact UH hq
   |cont=>exact UH hq
end
open PySem.W (kla_fn kla_obj envX tabObj CodeHd)
noncomputable def xB(c:Addr)(q:Str):HO:=.ext λh=>h.CodeRec (.ref c) q
def zE(H:Hp)(P:Addr)(pos:Pos)(q:Str):Prop:=∃ps,H P=some (.tbl ps)/\TriplesOk ps.toList/\(codeAmong pos ps.toList=none∨∃c,codeAmong pos ps.toList=some (.ref c)/\H c=some (xB c q))
def ym(P:Addr)(H H':Hp):Prop:=∀b o,b≠P->H b=some o->H' b=some o
def ym.refl(P:Addr)(H:Hp):ym P H H:=λ_ _ _ h=>h
variable{q:Str}
def zE.same{H:Hp}{P:Addr}{pos:Pos}(h:zE H P pos q)(g:zg H H'):zE H' P pos q:=by
 obtain⟨ps,e,t,z⟩:=h;refine⟨ps,g _ _ e,t,?_⟩;rcases z with z|⟨c,z,y⟩
 ·exact .inl z
 ·exact .inr ⟨c,z,g _ _ y⟩
variable{Q:pB->pC->Prop}
section
variable{X:Cx}{pins:List (Addr×Obj)}{σ:St}{H:Hp}{s:pC}
def V7{pos:Pos}{c0 P:Addr}{clos:List (Str×Addr)}(I:Inv X pins σ H s)(hcode:X.env.code=.ref c0)(C:CodeHd X.base c0 P)(hB:X.base.BuiltinsAt X.mg P)
  (hcl:ED sc X.env=pure clos)(hdef:Gx params X.env=([],[]))(ht:zE H P pos (X.env.qual++"<lambda>"))
  (q:∀(fa c':Addr)(ctv:pB)(H':Hp)(s':pC),Inv X pins σ H' s'->ym P H H'->zE H' P pos (X.env.qual++"<lambda>")->s'.heap.get? fa=some (kla_obj "<lambda>" (X.env.qual++"<lambda>") params body sc clos ((X.mg "__name__").getD .none) c' ctv)->
   H' c'=some (xB c' (X.env.qual++"<lambda>"))->yY X pins H' fa->Q (.ref fa) s'):
  wpAny (model X.prog X.w) X.A (eval (.Lambda params body sc pos) X.env) Q X.xe s:=by
 obtain⟨ps,hP,tr,alt⟩:=ht;have hPh:s.heap.get? P=some (tabObj ps):=I.hok P _ hP;have kb:=I.bk;have hg:s.heap.Ns uV X.mg:=I.ok.mod.glob.keeps kb;have Cs:=C.keeps kb;have Bs:s.heap.BuiltinsAt X.mg P:=by
  obtain⟨bm,o,b1,b2,b3,b4,b5,b6⟩:=hB;exact⟨bm,o,b1,b2,b3,b4,kb _ _ b5,b6⟩
 have neG:uV≠P:=λz=>by
  obtain⟨o,es,ep,e,hd,_⟩:=hg;rw[z,hPh] at e;cases e;cases hd
 refine PySem.W.kla_eval hdef ?_;rcases alt with hn|⟨c',hf,hc'⟩
 ·refine PySem.W.kla_makeFunction hcl I.ok.glob hg hcode Cs hPh tr hn neG Bs λc' ctv h' tk hx hge hlt hrec htb=>?_;have neC:∀b u,H b=some u->b≠c':=λb u e z=>by
   rw[z,I.hok.fresh hge] at e;cases e
  have nP:∀b,H b=none->b≠P:=λb n z=>by rw[z,hP] at n;cases n
  have cP:c'≠P:=λz=>by rw[←z,I.hok.fresh hge] at hP;cases hP
  have keep:∀b o,b≠P->s.heap.get? b=some o->(h'.push (kla_obj "<lambda>" (X.env.qual++"<lambda>") params body sc clos ((X.mg "__name__").getD .none) c' ctv)).get? b=some o:=λb o n e=>pH _ (hx b o n e);have hP':=pH (kla_obj "<lambda>" (X.env.qual++"<lambda>") params body sc clos ((X.mg "__name__").getD .none) c' ctv) htb;have upP:∀b u,b≠P->H b=some u->upd (upd H P (.tbl (ps++#[gN pos.line,gN pos.col,.ref c']))) c' (xB c' (X.env.qual++"<lambda>")) b=some u:=λb u n e=>by rw[zh (neC b u e),zh n];exact e
  have up0:upd (upd H P (.tbl (ps++#[gN pos.line,gN pos.col,.ref c']))) c' (xB c' (X.env.qual++"<lambda>")) P=some (.tbl (ps++#[gN pos.line,gN pos.col,.ref c'])):=by rw[zh cP.symm,upd_same]
  have J:Inv X pins σ (upd (upd H P (.tbl (ps++#[gN pos.line,gN pos.col,.ref c']))) c' (xB c' (X.env.qual++"<lambda>"))) {s with heap:=h'.push (kla_obj "<lambda>" (X.env.qual++"<lambda>") params body sc clos ((X.mg "__name__").getD .none) c' ctv),toks:=tk}:=by
   refine I.step (g':=s.gens) (d':=s.drawn) (ch:=[]) (λ_ z=>nomatch z) (λb o _ _ _ e n=>keep b o (nP b n) e) (λb o _ _ _ e n=>⟨o.slots,keep b o (nP b n) e⟩) (λb o _ e n=>?_) (λb o _ e=>?_) (λb xs e=>?_) (λb o u e=>?_) (λb qs e=>?_) (λm hm=>?_) (λb u e=>?_) I.bare
   ·rw[zh (uF (po (pb e) hge)),zh (nP b n)];exact n
   ·by_cases z:b=P
    ·exact⟨_,z▸hP'⟩
    ·exact⟨o,keep b o z e⟩
   ·exact upP b _ (λz=>by rw[z,hP] at e;cases e) e
   ·exact upP b _ (λz=>by rw[z,hP] at e;cases e) e
   ·by_cases z:b=P
    ·subst z;rw[hP] at e
     cases e;exact⟨_,up0⟩
    ·exact⟨#[],by rw[upP b _ z e];simp⟩
   ·obtain⟨o,es,ep,ho,r⟩:=hm;exact⟨o,es,ep,keep _ o (nP _ I.free) ho,r⟩
   ·by_cases z:b=c'
    ·subst z;rw[upd_same] at e
     cases e;have hr2:=hrec.push (kla_obj "<lambda>" (X.env.qual++"<lambda>") params body sc clos ((X.mg "__name__").getD .none) b ctv);obtain⟨c2,oc,vs,t,e2,hoc,hd,hv⟩:=id hr2
     cases e2;refine⟨hr2,⟨oc,hoc⟩,λh1 h2 ph k=>?_⟩;obtain⟨c3,oc3,vs3,t3,e3,hoc3,hd3,hv3⟩:=ph
     cases e3;exact⟨_,oc3,vs3,t3,rfl,k _ hoc3,hd3,hv3⟩
    ·rw[zh z] at e
     by_cases y:b=P
     ·subst y;rw[upd_same] at e
      cases e;exact hP'
     ·rw[zh y] at e;refine(I.hok b u e).stay (λd v hd hv=>keep d v ?_ hv) (λd hd=>?_) λd xs hd=>?_
      ·rcases hd with rfl|hd
       ·exact y
       ·intro z';rw[z',hP] at hd;cases hd
      ·exact upP d _ (λz'=>by rw[z',hP] at hd;cases hd) hd
      ·exact upP d _ (λz'=>by rw[z',hP] at hd;cases hd) hd
  refine q h'.objs.size c' ctv _ _ J (λb o n e=>upP b o n e) ⟨_,up0,?_,.inr ⟨c',?_,upd_same⟩⟩ (pd _ rfl) upd_same ?_
  ·rw[uA];exact TriplesOk_snoc _ _ _ _ tr
  ·rw[uA];exact codeAmong_snoc _ tr hn
  ·have hsz:s.heap.objs.size<=h'.objs.size:=uK hge (uq hlt);have nf:upd (upd H P (.tbl (ps++#[gN pos.line,gN pos.col,.ref c']))) c' (xB c' (X.env.qual++"<lambda>")) h'.objs.size=none:=by
    rw[zh (Bj hlt),zh]
    ·exact I.hok.fresh hsz
    ·intro z;rw[←z,I.hok.fresh hsz] at hP
     cases hP
   exact I.fpOk hsz nf
 ·have hrec:s.heap.CodeRec (.ref c') (X.env.qual++"<lambda>"):=(I.hok c' _ hc').1;refine PySem.W.kla_makeFunctionHit hcl I.ok.glob hg hcode Cs hPh tr hf Bs λctv h' tk hk hsz=>?_;have J:Inv X pins σ H {s with heap:=h'.push {cls:=.type "function",data:=.func (kla_fn "<lambda>" (X.env.qual++"<lambda>") params body sc clos ((X.mg "__name__").getD .none) (.ref c') ctv)},toks:=tk}:=I.kept λb o e=>pH _ (hk b o e);exact q h'.objs.size c' ctv H _ J (.refl P H) ⟨ps,hP,tr,.inr ⟨c',hf,hc'⟩⟩ (pd _ rfl) hc' (I.fpOk hsz (I.hok.fresh hsz))
end
open PySem.W (KasT kas_sort kas_ask kas_item)
section
variable{prog:pi}{w:uR}{A:uQ}{E:pB->pC->Prop}{s:pC}{vs ks:List pB}{g:Heap}{a kS:Addr}{e e1:Nat}{f:pB}
def Ve(prog:pi)(w:uR)(A:uQ)(a kS:Addr)(e1:Nat)(vs ks:List pB)(P:gJ->pC->Prop)(s:pC):Prop:=
 s.heap.get? a=some (uC "list" #[] e1)/\∃(κ:UM)(ans:Nat->Nat->Bool),
  (2<=vs.length->∀Q':UM->pC->Prop,Q' κ s->wpAny (model prog w) A (Fh ks.toArray) Q' (λ_ _=>False) s)/\
  (2<=vs.length->∀i j C,i<vs.length->j<vs.length->C (ans i j) s->kas_ask prog w A κ ks i j C s)/\
  ∀p:Array Nat,Ord vs.length p->(2<=vs.length->p=ansT ans (kas_sort vs.length))->P (.done (.ret .none)) {s with heap:=(s.heap.update kS (uB λ_=>(#[]:Array pB))).update a (uB λ_=>UC (p.toList.map λi=>vs.getD i ut))}
theorem VT{st:QF}{p:Array Nat}{P:gJ->pC->Prop}(hs:(arrOf st).map (·.2)=UC (p.toList.map λi=>vs.getD i ut))(hf:BG st=none)(hz:p.size=vs.length)(h64:vs.length<64)(hkl:ks.length<64)(nak:a≠kS)
  (hk:s.heap.get? kS=some (uC "list" ks.toArray e))(ha:s.heap.get? a=some (uC "list" #[] e1))
  (q:P (.done (.ret .none)) {s with heap:=(s.heap.update kS (uB λ_=>(#[]:Array pB))).update a (uB λ_=>UC (p.toList.map λi=>vs.getD i ut))}):
  wpAny (model prog w) A (Gy a false e1 (.ref kS) st) P E s:=by
 have ha2:(s.heap.update kS (uB λ_=>(#[]:Array pB))).get? a=some (uC "list" #[] e1):=by rw[uv _ _ _ _ nak];exact ha
 have hsz:(UC (p.toList.map λi=>vs.getD i ut)).size=vs.length:=by simp[hz]
 unfold Gy;dsimp only;rw[hs];refine pA (AJ hk rfl ?_ (by rw[pe,DS];lia) (uJ _))
 refine pA (Aa ?_);refine pA (El ha2 rfl ?_);refine pA (AJ ha2 rfl ?_ (uJ _) (by simp only[uI,if_false];rw[hsz,DS];lia))
 rw[hf];simp only[bne_self_eq_false,uI,if_false];exact pK q
theorem zbh{P:gJ->pC->Prop}(hl:ks.length=vs.length)(h64:vs.length<64)(nak:a≠kS)(hk:s.heap.get? kS=some (uC "list" ks.toArray e))(h:Ve prog w A a kS e1 vs ks P s):
  wpAny (model prog w) A (Hc a false vs.toArray e1 (.ref kS) ks.toArray) P E s:=by
 obtain⟨ha,κ,ans,hkind,hask,q⟩:=h;have z0:vs.toArray.size=vs.length:=rfl;unfold Hc;dsimp only;simp only[uI,if_false]
 by_cases h2:vs.length<2
 ·rw[z0,if_pos h2,if_pos h2,HX];rw[Ga];refine pA (pK ?_);refine VT (p:=UC (Qd vs.length)) ?_ rfl (by simp) h64 (by lia) nak hk ha (q _ (by unfold Ord;simp) λz=>absurd h2 (Nat.not_lt.mpr z))
  show(ks.toArray.zip vs.toArray).map (·.2)=_
  rw[show(UC (Qd vs.length)).toList=Qd vs.length from rfl,zao]
  apply CK.mp
  simp[List.map_snd_zip,hl]
 ·have h2':2<=vs.length:=by lia
  rw[z0,if_neg h2,if_neg h2];refine pA (Qe (hkind h2' (λκ' s'=>κ'=κ/\s'=s) ⟨rfl,rfl⟩) (λκ' s' hs=>?_) λ_ _ z=>z.elim);obtain⟨rfl,rfl⟩:=hs;have run:=yg.wp (R:=Ord vs.length) (Q:=λp s''=>s''=s'/\Ord vs.length p/\p=ansT ans (kas_sort vs.length)) (λi j C hi hj=>hask h2' i j C hi hj) (za1 (by lia)) ⟨rfl,yg.ends (za1 (by lia)),rfl⟩
  refine pA (Qe (PySem.W.kat_run (E:=E) (ks:=ks) (vs:=vs) (Q:=λst s''=>∃p:Array Nat,p.size=vs.length/\arrOf st=p.map (kas_item (ks.toArray.zip vs.toArray))/\BG st=none/\s''=s'/\Ord vs.length p/\p=ansT ans (kas_sort vs.length)) hl h2' h64 (λp st s'' b1 b2 b3 b4=>⟨p,b1,b2,b3,b4⟩) run) ?_ λ_ _ z=>z);rintro⟨⟨⟩,st⟩ s'' ⟨p,hp,har,hf,rfl,or,ep⟩;exact VT (PySem.W.kat_snds hl har) hf hp h64 (by lia) nak hk ha (q p or λ_=>ep)
structure Yy(prog:pi)(w:uR)(A:uQ)(a kS:Addr)(e1:Nat)(f:pB)(vs:List pB)(P:gJ->pC->Prop)(J:Nat->List pB->Nat->pC->Prop):Prop where
 store:∀i ks e s,J i ks e s->s.heap.get? kS=some (uC "list" ks.toArray e)/\ks.length=i
 turn:∀i x ks e s,vs[i]?=some x->J i ks e s->wpAny (model prog w) A (call f [x]) (λk s'=>s'.heap.get? kS=some (uC "list" ks.toArray e)/\
  ∀c,(s'.heap.update kS (uB (·.push k))).get? kS=some (uC "list" (ks++[k]).toArray c)->J (i+1) (ks++[k]) c {s' with heap:=s'.heap.update kS (uB (·.push k))}) (λ_ _=>False) s
 fin:∀ks e s,J vs.length ks e s->Ve prog w A a kS e1 vs ks P s
theorem JU{P:gJ->pC->Prop}{J:Nat->List pB->Nat->pC->Prop}{body:pB->PUnit->Sem (ForInStep PUnit)}(R:Yy prog w A a kS e1 f vs P J)
  (hb:∀i x ks e(s:pC),vs[i]?=some x->J i ks e s->wpAny (model prog w) A (body x ⟨⟩) (λr s'=>r=.yield ⟨⟩/\∃k c,J (i+1) (ks++[k]) c s') E s):
  ∀(r:List pB)(i:Nat)(ks:List pB)(e:Nat)(s:pC),i<=vs.length->vs.drop i=r->J i ks e s->wpAny (model prog w) A (forIn r Hx body) (λ_ s'=>∃ks e,J vs.length ks e s') E s
 |[],i,ks,e,s,hi,hr,h=>by
  rw[Cy];have e0:i=vs.length:=EQ hi (CT.mp hr);subst e0;exact pK ⟨ks,e,h⟩
 |x::r,i,ks,e,s,hi,hr,h=>by
  rw[BO];have hx:vs[i]?=some x:=by
   have z:=congrArg (λl=>l[0]?) hr
   simpa[Uv] using z
  have hr2:vs.drop (i+1)=r:=by
   have z:=congrArg (List.drop 1) hr
   simpa[gE,EE] using z
  refine pA (Qe (hb i x ks e s hx h) (λq s' hq=>?_) λ_ _ z=>z);obtain⟨rfl,k,c,h2⟩:=hq;exact JU R hb r (i+1) (ks++[k]) c s' (pD.mp hx).1 hr2 h2
variable{P:gJ->pC->Prop}
theorem zau{J:Nat->List pB->Nat->pC->Prop}(R:Yy prog w A a kS e1 f vs P J)(h64:vs.length<64)(nak:a≠kS)(h0:J 0 [] 0 s):
  wpAny (model prog w) A (Gz a f false vs.toArray e1 (.ref kS)) P E s:=by
 unfold Gz;refine pA (UI ?_);rw[FN];refine pA (Qe (JU R (λi x ks e s' hx hJ=>?_) vs 0 [] 0 s (uJ _) AS h0) (λ_ s' hd=>?_) λ_ _ z=>z)
 ·have hi:=(pD.mp hx).1;have hl:=(R.store i ks e s' hJ).2;refine pA (Am (Qe (R.turn i x ks e s' hx hJ) (λk s'' hk=>?_) λ_ _ hF=>hF.elim));obtain⟨hk1,hk2⟩:=hk;have pk:(UC ks).push k=UC (ks++[k]):=by rw[Fi]
  obtain⟨c2,hc2⟩:∃c2,(s''.heap.update kS (uB (·.push k))).get? kS=some (uC "list" (UC (ks++[k])) c2):=⟨_,by rw[←pk];exact gP hk1 (·.push k)⟩
  try dsimp only
  refine pA (AJ hk1 rfl ?_ (by rw[pe,DS];lia) (uK (Up (Gb ..)) (by rw[pe,DS];lia)))
  exact pK ⟨rfl,k,c2,hk2 c2 hc2⟩
 ·obtain⟨ks,e,hJ⟩:=hd;obtain⟨hk,hl⟩:=R.store _ _ _ _ hJ
  try dsimp only
  refine pA (US hk rfl ?_);exact zbh hl h64 nak hk (R.fin ks e s' hJ)
def zdb{n:Nat}(hg:yN g s.heap)(ga:g.objs.size<=a)(ho:s.heap.get? a=some (uC "list" vs.toArray n))(h64:vs.length<64)
  (h:∀kS e1 h',yN g h'->a<kS->h'.get? a=some (uC "list" #[] e1)->h'.get? kS=some (uC "list" #[] 0)->∃J,Yy prog w A a kS e1 f vs P J/\J 0 [] 0 {s with heap:=h'}):
  wpAny (model prog w) A (HI a f false) P E s:=by
 have zl:vs.length<=sizeLine:=uK (uq h64) (by decide)
 have k1:yN g (s.heap.update a (uB λ_=>(#[]:Array pB))):=hg.upd ga;obtain⟨c1,o1⟩:∃c1,(s.heap.update a (uB λ_=>(#[]:Array pB))).get? a=some (uC "list" #[] c1):=⟨_,gP ho _⟩;have k3:=(k1.push (uC "tuple" vs.toArray 0)).push (uC "list" #[] 0);have o3:=pH (uC "list" #[] 0) (pH (uC "tuple" vs.toArray 0) o1);have lt:a<((s.heap.update a (uB λ_=>(#[]:Array pB))).push (uC "tuple" vs.toArray 0)).objs.size:=pb (pH _ o1);obtain⟨J,R,h0⟩:=h _ c1 _ k3 lt o3 (pd _ rfl);unfold HI;refine pA (US ho rfl (pA (AJ ho rfl (pA (El o1 rfl (pA (Eh (pA (BI (UR ?_) (uJ _))) zl)))) zl (uJ _))));exact zau (s:={s with heap:=((s.heap.update a (uB λ_=>(#[]:Array pB))).push (uC "tuple" vs.toArray 0)).push (uC "list" #[] 0)}) R h64 (uF lt) h0
end
open PySem.W (kla_fn kla_obj envX tabObj CodeHd KasT kas_sort kas_ask)
noncomputable def ltK(a b:Int×Int):Bool:=if a.1=b.1 then(if a.2=b.2 then false else decide (a.2<b.2)) else decide (a.1<b.1)
section
variable{prog:pi}{w:uR}{A:uQ}{E:pB->pC->Prop}{s:pC}{C:Bool->pC->Prop}
theorem eq_ii{a b:Int}{t u:Tok}(hu:A.units+64<cLine)(q:C (decide (a=b)) s):wpAny (model prog w) A (eqBool (.int a t) (.int b u)) C E s:=by
 refine DA prog w A E s _ _ (.int a) (.int b) _ _ C (.int a t) (.int b u) rfl rfl ?_ ?_
 ·have:Qp (.int a)<=1:=by simp[Qp]
  have:=Cd (Qp (.int a)) (Qp (.int b));lia
 ·simp only[uj]
  by_cases h:a=b
  ·rw[decide_eq_true h] at q
   simpa[h] using q
  ·rw[decide_eq_false h] at q;have:(a==b)=false:=beq_eq_false_iff_ne.mpr h;rw[this];exact q
theorem zfb{x y:pB}{a b:Int×Int}(hx:yd s.heap x [a.1,a.2])(hy:yd s.heap y [b.1,b.2])(hu:A.units+64<cLine)(q:C (ltK a b) s):wpAny (model prog w) A (keyLt' (tuples' true) x y) C E s:=by
 obtain⟨p,its,n,dd,sl,rfl,o,i⟩:=hx;obtain⟨p',its',n',dd',sl',rfl,o',i'⟩:=hy;obtain⟨u1,u2,e,t1,t2⟩:∃u1 u2,its.toList=[u1,u2]/\(∃t,u1=.int a.1 t)/\∃t,u2=.int a.2 t:=by
  revert i
  generalize its.toList=l;intro i
  cases i with
  |cons k t r=>
   cases r with
   |cons k2 t2 r2=>
    cases r2;exact⟨_,_,rfl,⟨_,rfl⟩,⟨_,rfl⟩⟩
 obtain⟨u1',u2',e',t1',t2'⟩:∃u1 u2,its'.toList=[u1,u2]/\(∃t,u1=.int b.1 t)/\∃t,u2=.int b.2 t:=by
  revert i'
  generalize its'.toList=l;intro i
  cases i with
  |cons k t r=>
   cases r with
   |cons k2 t2 r2=>
    cases r2;exact⟨_,_,rfl,⟨_,rfl⟩,⟨_,rfl⟩⟩
 obtain⟨t1,rfl⟩:=t1;obtain⟨t2,rfl⟩:=t2;obtain⟨t1',rfl⟩:=t1';obtain⟨t2',rfl⟩:=t2';have z:its.size=2:=by rw[←pT,e];rfl
 have z':its'.size=2:=by rw[←pT,e'];rfl
 refine PySem.W.kat_lt o rfl o' rfl ?_;rw[e,e',z,z',decide_eq_false (by lia)]
 unfold ltK at q;refine GG (eq_ii hu ?_)
 by_cases c:a.1=b.1
 ·rw[if_pos c] at q;rw[decide_eq_true c];refine Gc (GG (eq_ii hu ?_))
  by_cases c2:a.2=b.2
  ·rw[if_pos c2] at q;rw[decide_eq_true c2];exact Gc (PySem.W.kat_nil q)
  ·rw[if_neg c2] at q;rw[decide_eq_false c2];exact HJ (PySem.W.kat_one _ _ (FA q))
 ·rw[if_neg c] at q;rw[decide_eq_false c];exact HJ (oneLt_int q)
end
open PySem.W (KatTups) in
theorem Ze{h:Heap}:∀vs:List pB,(∀v,v∈vs->∃a:Int×Int,yd h v [a.1,a.2])->∃fs,fs.length=vs.length/\KatTups h vs fs/\∀f,f∈fs->∃n t,f=.int n t
 |[],_=>⟨[],rfl,.nil,λf hf=>by cases hf⟩
 |v::vs,hv=>by
  obtain⟨fs,l,t,r⟩:=Ze vs λu hu=>hv u (pY _ hu);obtain⟨a,p,its,n,dd,sl,rfl,o,i⟩:=hv v (pX ..);obtain⟨u1,t1,e⟩:∃u1 t,its[0]?=some u1/\u1=.int a.1 t:=by
   rw[←ui]
   revert i
   generalize its.toList=l;intro i
   cases i with
   |cons k t r=>exact⟨_,t,rfl,rfl⟩
  refine⟨u1::fs,by simp[l],.cons o rfl rfl e.1 t,λf hf=>?_⟩
  rcases pR.mp hf with rfl|hf
  ·exact⟨_,t1,e.2⟩
  ·exact r f hf
variable{vs:List pB}
theorem zae{M:Model}{A:uQ}{E:pB->pC->Prop}{s:pC}{Q:UM->pC->Prop}(hn:0<vs.length)(hv:∀v,v∈vs->∃a:Int×Int,yd s.heap v [a.1,a.2])(q:Q (tuples' true) s):wpAny M A (Fh vs.toArray) Q E s:=by
 obtain⟨fs,l,t,r⟩:=Ze vs hv;refine PySem.W.kat_kind (T:=.type "int") t (by lia) (λf hf=>?_) (by decide) ?_
 ·obtain⟨n,t,rfl⟩:=r f hf;exact .now
 ·rw[show(AI "int"!=AI "tuple")=true from by decide]
  exact q
variable{xs:List V}{h':Heap}
section
variable{X:Cx}{pins:List (Addr×Obj)}{σ:St}{H:Hp}{s:pC}
def Inv.track{its:List pB}{n:Nat}(I:Inv X pins σ H s)(hf:yY X pins H D)(k:∀b o,b≠D->s.heap.get? b=some o->h'.get? b=some o)
  (hz:xs.length<=sizeLine)(r:zn xs its)(ho:h'.get? D=some {cls:=.type "list",data:=.seq its.toArray n}):Inv X pins σ (upd H D (.lst xs)) {s with heap:=h',toks:=t'}:=by
 obtain⟨f0,f1,f2,f3,f4,f5⟩:=hf;have nD:∀b u,H b=some u->b≠D:=λb u e z=>by rw[z,f0] at e;cases e
 refine I.step (g':=s.gens) (d':=s.drawn) (ch:=[D]) (λb hb=>?_) (λb o _ _ hc e _=>k b o (λz=>hc (by simp[z])) e) (λb o _ _ hc e _=>⟨o.slots,k b o (λz=>hc (by simp[z])) e⟩) (λb o hc _ n=>by rw[zh λz=>hc (by simp[z])];exact n)
  (λb o hc e=>⟨o,k b o (λz=>hc (by simp[z])) e⟩) (λb xs e=>by rw[zh (nD b _ e)];exact e) (λb o u e=>by rw[zh (nD b _ e)];exact e) (λb ps e=>⟨#[],by rw[zh (nD b _ e),e];simp⟩) (λm hm=>?_) (λb u e=>?_) I.bare
 ·have e:b=D:=by simpa using hb
  subst e;exact⟨f3,f1,f4,f5⟩
 ·obtain⟨o,es,ep,ho,r⟩:=hm;exact⟨o,es,ep,k _ o f1.symm ho,r⟩
 ·by_cases z:b=D
  ·subst z;rw[upd_same] at e
   cases e;exact⟨hz,its,n,r,ho⟩
  ·rw[zh z] at e;refine(I.hok b u e).stay (λc v hc q=>k c v ?_ q) (λc q=>by rw[zh (nD c _ q)];exact q) λc xs q=>by rw[zh (nD c _ q)];exact q
   rcases hc with rfl|hc
   ·exact z
   ·exact nD c _ hc
def V6{y:Str}{c:Addr}{i:Nat}(I:Inv X pins σ H s)(hN:X.N[i]?=some y)(hσ:σ[i]?=some (some vy))(hk:X.env.scope.names.lookup y=some .cell)(hc:X.env.cells.lookup y=some c):∃u,zm vy u/\s.heap.IsCell c (some u):=by
 obtain⟨m,hn,hl⟩:=I.loc;obtain⟨u,r,l⟩:=hl i y vy hN hσ (.inr (.inl hk));refine⟨u,r,?_⟩;rcases l with⟨l,_⟩|⟨_,c',e,z⟩
 ·have l:X.env.scope.names.lookup y=some .local:=l;rw[hk] at l
  cases l
 ·rw[hc] at e
  cases e;exact z
end
open PySem.W (kla_fn kla_obj envX tabObj CodeHd KasT kas_sort kas_ask)
def KOk(H:Hp)(zs:List V)(kp:Nat->Int×Int):Prop:=∀i,i<zs.length->∃q,zs[i]?=some (.ref q)/\H q=some (.tup [.int (kp i).1,.int (kp i).2])
abbrev KPT:=Hp->List V->(Nat->Nat->Bool)->Prop
def vm(X:Cx)(KP:KPT):Prop:=∀(pins:List (Addr×Obj))(σ:St)(H:Hp)(s:pC)(zs:List V)(ks:List pB)(ans:Nat->Nat->Bool),Inv X pins σ H s->zn zs ks->KP H zs ans->∃κ:UM,
 (2<=ks.length->∀Q':UM->pC->Prop,Q' κ s->wpAny (model X.prog X.w) X.A.in1.in1 (Fh ks.toArray) Q' (λ_ _=>False) s)/\(2<=ks.length->∀i j C,i<ks.length->j<ks.length->C (ans i j) s->kas_ask X.prog X.w X.A.in1.in1 κ ks i j C s)
def KPp:KPT:=λH zs ans=>∃kp,KOk H zs kp/\ans=λi j=>ltK (kp i) (kp j)
section
variable{X:Cx}{pins:List (Addr×Obj)}{σ:St}{H:Hp}{s:pC}
def vals_get?{us:List pB}(r:zn xs us){i:Nat}{u:pB}(h:us[i]?=some u):∃v,xs[i]?=some v/\zm v u:=by
 have hi:i<us.length:=(pD.mp h).1;have hx:i<xs.length:=by rw[r.length];exact hi
 refine⟨xs[i],pG hx,?_⟩;have z:=jU r i hx;have e1:xs.getD i .non=xs[i]:=by simp[hx]
 have e2:us.getD i ut=u:=by rw[pE,h];rfl
 rw[e1,e2] at z;exact z
theorem YA:∀{xs:List V}{us:List pB}{v:V}{u:pB},zn xs us->zm v u->zn (xs++[v]) (us++[u])
 |_,_,_,_,.nil,r=>.cons r .nil
 |_,_,_,_,.cons a t,r=>.cons a (YA t r)
theorem zcd(hu:X.A.units+66<cLine):vm X KPp:=by
 intro pins σ H s zs ks ans I r h;obtain⟨kp,ok,rfl⟩:=h;have len:=r.length;have tup:∀i,i<ks.length->yd s.heap (ks.getD i ut) [(kp i).1,(kp i).2]:=λi hi=>by
  obtain⟨a,ea,ha⟩:=ok i (by lia)
  have z:=jU r i (by lia)
  rw[pE,ea] at z;have z:zm (.ref a) (ks.getD i ut):=z
  have e:ks.getD i ut=.ref a:=by cases h:ks.getD i ut<;>rw[h] at z<;>first|(cases z;rfl)|cases z
  rw[e];exact Vz I (ns:=[(kp i).1,(kp i).2]) ha
 refine⟨tuples' true,λh2 Q' q'=>zae (by lia) (λv hv=>?_) q',λh2 i j C hi hj cc=>zfb (tup i hi) (tup j hj) (by show X.A.units+1+1+64<_;lia) cc⟩
 obtain⟨i,hi,e⟩:=QB.mp hv;refine⟨kp i,?_⟩;have t:=tup i hi;have e':ks.getD i ut=v:=by simp[hi,e]
 rw[e'] at t;exact t
end
open PySem.W (kla_fn kla_obj envX tabObj CodeHd KasT kas_sort kas_ask)
section
variable{κ:Type}[DecidableEq κ]
noncomputable def zw(kvs:List (κ×V))(k:κ):Option V:=(kvs.find? λkv=>decide (kv.1=k)).map (·.2)
noncomputable def yj(kvs:List (κ×V))(k:κ)(v:V):List (κ×V):=
 if(kvs.any λkv=>decide (kv.1=k))=true then kvs.map (λkv=>if kv.1=k then(kv.1,v) else kv) else kvs++[(k,v)]
def xW{p:κ×V}{r:List (κ×V)}{k:κ}(e:p.1=k):zw (p::r) k=some p.2:=by simp[zw,Uc,e]
def xY{p:κ×V}{r:List (κ×V)}{k:κ}(e:¬p.1=k):zw (p::r) k=zw r k:=by simp[zw,Uc,e]
theorem vd(k:κ):∀kvs:List (κ×V),(kvs.any λkv=>decide (kv.1=k))=(zw kvs k).isSome
 |[]=>rfl
 |p::r=>by
  rw[Dc]
  by_cases e:p.1=k
  ·simp only[xW e,decide_eq_true e,Bool.true_or,Option.isSome_some]
  ·rw[xY e,decide_eq_false e,Bool.false_or];exact vd k r
theorem Zf(k j:κ)(y:V):∀kvs:List (κ×V),zw (kvs.map λkv=>if kv.1=k then(kv.1,y) else kv) j=(zw kvs j).map λx=>if j=k then y else x
 |[]=>rfl
 |p::r=>by
  have ih:=Zf k j y r;rw[pj]
  by_cases h:p.1=k
  ·rw[if_pos h]
   by_cases e:p.1=j
   ·rw[xW (p:=(p.1,y)) e,xW e,QQ,if_pos (e.symm.trans h)]
   ·rw[xY (p:=(p.1,y)) e,xY e,ih]
  ·rw[if_neg h]
   by_cases e:p.1=j
   ·rw[xW (p:=p) e,xW e,QQ,if_neg (λz=>h (e.trans z))]
   ·rw[xY (p:=p) e,xY e,ih]
theorem Zx(k j:κ)(y:V):∀kvs:List (κ×V),zw kvs k=none->zw (kvs++[(k,y)]) j=if j=k then some y else zw kvs j
 |[],_=>by
  by_cases e:k=j
  ·rw[if_pos e.symm];exact xW (p:=(k,y)) e
  ·rw[if_neg (λz=>e z.symm)];exact xY (p:=(k,y)) e
 |p::r,hn=>by
  rw[Aw];have hk:¬p.1=k:=λz=>by rw[xW z] at hn;cases hn
  rw[xY hk] at hn;have ih:=Zx k j y r hn
  by_cases e:p.1=j
  ·rw[xW e,xW e,if_neg (λz=>hk (e.trans z))]
  ·rw[xY e,xY e,ih]
theorem vh(kvs:List (κ×V))(k j:κ)(y:V):zw (yj kvs k y) j=if j=k then some y else zw kvs j:=by
 unfold yj
 by_cases a:(kvs.any λkv=>decide (kv.1=k))=true
 ·rw[if_pos a,Zf];rw[vd] at a
  by_cases e:j=k
  ·obtain⟨x,hx⟩:=BD.mp a;rw[if_pos e,e,hx,QQ,if_pos rfl]
  ·rw[if_neg e]
   cases zw kvs j with
   |none=>rfl
   |some x=>rw[QQ,if_neg e]
 ·rw[if_neg a];refine Zx k j y kvs ?_;rw[vd] at a
  cases q:zw kvs k with
  |none=>rfl
  |some x=>rw[q] at a;exact(a rfl).elim
theorem wZ(kvs:List (κ×V))(k:κ)(v:V):(yj kvs k v).length<=kvs.length+1:=by
 unfold yj
 split
 ·rw[pL];lia
 ·rw[pM,uZ,BP];lia
def qE{kvs:List (κ×V)}{k:κ}(v:V)(h:zw kvs k=none):yj kvs k v=kvs++[(k,v)]:=by
 unfold yj;rw[vd,h];exact if_neg (by decide)
theorem xP.isSome_eq{o:Option V}{u:Option pB}(r:xP o u):o.isSome=u.isSome:=by
 cases o with
 |none=>cases u with
  |none=>rfl
  |some _=>exact(show False from r).elim
 |some _=>cases u with
  |none=>exact(show False from r).elim
  |some _=>rfl
theorem KV.val{kvs:List (κ×V)}{vs:List (κ×pB)}(r:KV kvs vs)(k:κ):xP (zw kvs k) (Ez vs k):=by
 unfold KV at r
 induction r with
 |nil=>exact DB
 |@cons p q ps qs h t ih=>
  obtain⟨h1,h2⟩:=h
  by_cases e:p.1=k
  ·have e':q.1=k:=h1.symm.trans e;have b:Ez (q::qs) k=some q.2:=by simp[Ez,Uc,e']
   rw[xW e,b];exact h2
  ·have e':¬q.1=k:=λz=>e (h1.trans z);have b:Ez (q::qs) k=Ez qs k:=by simp[Ez,Uc,e']
   rw[xY e,b];exact ih
theorem KV.any{kvs:List (κ×V)}{vs:List (κ×pB)}(r:KV kvs vs)(k:κ):(kvs.any λkv=>decide (kv.1=k))=vs.any λkv=>decide (kv.1=k):=by
 unfold KV at r
 induction r with
 |nil=>rfl
 |cons h t ih=>rw[Dc,Dc,ih,h.1]
theorem KV.repl{kvs:List (κ×V)}{vs:List (κ×pB)}(r:KV kvs vs)(k:κ){y:V}{u:pB}(ry:zm y u):
  KV (kvs.map λkv=>if kv.1=k then(kv.1,y) else kv) (vs.map λkv=>if kv.1=k then(kv.1,u) else kv):=by
 unfold KV at r⊢
 induction r with
 |nil=>exact .nil
 |@cons p q ps qs h t ih=>
  rw[pj,pj];refine .cons ?_ ih;obtain⟨h1,h2⟩:=h
  by_cases e:p.1=k
  ·rw[if_pos e,if_pos (h1.symm.trans e)];exact⟨h1,ry⟩
  ·rw[if_neg e,if_neg (λz=>e (h1.trans z))];exact⟨h1,h2⟩
def KV.put{kvs:List (κ×V)}{vs:List (κ×pB)}(r:KV kvs vs)(k:κ){y:V}{u:pB}(ry:zm y u):KV (yj kvs k y) (stored vs k u):=by
 unfold yj stored;rw[r.any k]
 by_cases e:(vs.any λkv=>decide (kv.1=k))=true
 ·rw[if_pos e,if_pos e];exact r.repl k ry
 ·rw[if_neg e,if_neg e];exact GU r ⟨rfl,ry⟩
def KV.length{kvs:List (κ×V)}{vs:List (κ×pB)}(r:KV kvs vs):kvs.length=vs.length:=CM r
end
theorem qz{P:pi}{w:uR}{k:Key}{u:pB}(r:zm (kV k) u):(yG P w).is k u=true:=by
 cases k with
 |inl i=>obtain⟨t,e⟩:=(show ∃t,u=Fz i t from r);subst e;exact zai P w i t
 |inr x=>obtain⟨t,e⟩:=(show ∃t,u=HV x t from r);subst e;exact zcy P w x t
theorem JO{P:pi}{w:uR}:∀{ks:List Key}{us:List pB},zn (ks.map kV) us->ItemsAre (yG P w) ks us
 |[],_,r=>by rw[Ux] at r;cases r;exact .nil
 |k::ks,_,r=>by
  rw[pj] at r
  cases r with
  |cons h t=>exact .cons (qz h) (JO t)
abbrev KT(H:Hp):List (List Key×V)->List (List Key×Addr×pB)->Prop:=Dx λp q=>p.1=q.1/\H q.2.1=some (.tup (p.1.map kV))/\zm p.2 q.2.2
variable{xs:List (List Key×Addr×pB)}{kvs:List (List Key×V)}
theorem KT.val{H:Hp}(r:KT H kvs xs)(k:List Key):xP (zw kvs k) ((atKey xs k).map (·.2)):=by
 induction r with
 |nil=>exact DB
 |@cons p q ps qs h t ih=>
  obtain⟨h1,_,h2⟩:=h
  by_cases e:p.1=k
  ·have e':q.1=k:=h1.symm.trans e;have b:atKey (q::qs) k=some q.2:=by simp[atKey,Uc,e']
   rw[xW e,b];exact h2
  ·have e':¬q.1=k:=λz=>e (h1.trans z);have b:atKey (q::qs) k=atKey qs k:=by simp[atKey,Uc,e']
   rw[xY e,b];exact ih
theorem KT.repl{H:Hp}(r:KT H kvs xs)(k:List Key){y:V}{u:pB}(ry:zm y u):
  KT H (kvs.map λkv=>if kv.1=k then(kv.1,y) else kv) (xs.map (putAt k u)):=by
 induction r with
 |nil=>exact .nil
 |@cons p q ps qs h t ih=>
  rw[pj,pj];refine .cons ?_ ih;obtain⟨h1,h2,h3⟩:=h;unfold putAt
  by_cases e:p.1=k
  ·rw[if_pos e,if_pos (h1.symm.trans e)];exact⟨h1,h2,ry⟩
  ·rw[if_neg e,if_neg (λz=>e (h1.trans z))];exact⟨h1,h2,h3⟩
def KT.put{H:Hp}(r:KT H kvs xs)(k:List Key){b:Addr}{y:V}{u:pB}(hb:H b=some (.tup (k.map kV)))(ry:zm y u):
  KT H (yj kvs k y) (Fj xs k b u):=by
 have e:(kvs.any λkv=>decide (kv.1=k))=(atKey xs k).isSome:=by
  rw[vd,(r.val k).isSome_eq,DU]
 unfold yj Fj;rw[e]
 by_cases q:(atKey xs k).isSome=true
 ·rw[if_pos q,if_pos q];exact r.repl k ry
 ·rw[if_neg q,if_neg q];exact GU r ⟨rfl,hb,ry⟩
def KT.keeps{H:Hp}(r:KT H kvs xs)(ht:∀b ys,H b=some (.tup ys)->H' b=some (.tup ys)):KT H' kvs xs:=
 Paired.mapP r λ_ _ z=>⟨z.1,ht _ _ z.2.1,z.2.2⟩
section
variable{P:pi}{w:uR}{H:Hp}{h:Heap}{a:Addr}
def rd_of{u:HO}(ok:HOk P w H h)(e:Rd H a u):yf P w H h a u:=e.ok ok
def qW{kvs:List (Key×V)}(ok:HOk P w H h)(e:Rd H a (.dK kvs)):kvs.length<=sizeLine/\(a==Qz)=false/\∃vs,KV kvs vs/\h.DictOf (yG P w) a vs:=
 show yf P w H h a (.dK kvs) from rd_of ok e
def dk_of{kvs:List (Key×V)}(ok:HOk P w H h)(e:H a=some (.dK kvs)):kvs.length<=sizeLine/\(a==Qz)=false/\∃vs,KV kvs vs/\h.DictOf (yG P w) a vs:=qW ok (.inl e)
def jD{ks:List Key}(ok:HOk P w H h)(e:H a=some (.tup (ks.map kV))):(Bc (yG P w)).is h ks a:=by
 obtain⟨_,its,r,o,h1,h2,n,h3⟩:=(show yf P w H h a (.tup (ks.map kV)) from ok a _ e);exact⟨o,its.toArray,n,h1,h2,h3,by simpa using JO r⟩
theorem YD(ok:HOk P w H h)(e:Rd H a (.dT kvs)):kvs.length<=sizeLine/\(a==Qz)=false/\
  ∃xs,KT H kvs xs/\h.DictOfH (Bc (yG P w)) a xs:=by
 obtain⟨z,y,xs,r,o,es,ep,h1,h2,h3,h4,h5⟩:=(show yf P w H h a (.dT kvs) from rd_of ok e);refine⟨z,y,xs,r,o,es,ep,h1,h2,h3,h4,λx hx=>?_,h5⟩;have all:∀{l:List (List Key×V)}{m:List (List Key×Addr×pB)},KT H l m->∀x∈m,(Bc (yG P w)).is h x.1 x.2.1:=by
  intro l m q
  induction q with
  |nil=>intro x hx;exact nomatch hx
  |@cons p q ps qs hq t ih=>
   intro x hx;rcases pR.mp hx with e|hx
   ·subst e;exact jD ok (by rw[←hq.1];exact hq.2.1)
   ·exact ih x hx
 exact all r x hx
def dt_of(ok:HOk P w H h)(e:H a=some (.dT kvs)):kvs.length<=sizeLine/\(a==Qz)=false/\
  ∃xs,KT H kvs xs/\h.DictOfH (Bc (yG P w)) a xs:=YD ok (.inl e)
end
def x5(H:Hp)(a:Addr)(y:V)(r:Option V):Prop:=
 (∃kvs k,Rd H a (.dK kvs)/\y=kV k/\r=zw kvs k)∨∃kvs k b,Rd H a (.dT kvs)/\y=.ref b/\H b=some (.tup (k.map kV))/\r=zw kvs k
def w6(H:Hp)(a:Addr)(y v:V)(H':Hp):Prop:=
 (∃kvs k,H a=some (.dK kvs)/\y=kV k/\kvs.length<sizeLine/\H'=upd H a (.dK (yj kvs k v)))∨
 ∃kvs k b,H a=some (.dT kvs)/\y=.ref b/\H b=some (.tup (k.map kV))/\kvs.length<sizeLine/\H'=upd H a (.dT (yj kvs k v))
theorem x5.k{H:Hp}{a:Addr}{kvs:List (Key×V)}{k:Key}(e:H a=some (.dK kvs)):x5 H a (kV k) (zw kvs k):=.inl ⟨kvs,k,.inl e,rfl,rfl⟩
def x5.t{H:Hp}{a b:Addr}{k:List Key}(e:H a=some (.dT kvs))(eb:H b=some (.tup (k.map kV))):x5 H a (.ref b) (zw kvs k):=.inr ⟨kvs,k,b,.inl e,rfl,eb,rfl⟩
theorem w6.k{H:Hp}{a:Addr}{kvs:List (Key×V)}{k:Key}{v:V}(e:H a=some (.dK kvs))(hl:kvs.length<sizeLine):w6 H a (kV k) v (upd H a (.dK (yj kvs k v))):=.inl ⟨kvs,k,e,rfl,hl,rfl⟩
def w6.t{H:Hp}{a b:Addr}{k:List Key}{v:V}(e:H a=some (.dT kvs))(eb:H b=some (.tup (k.map kV)))(hl:kvs.length<sizeLine):
  w6 H a (.ref b) v (upd H a (.dT (yj kvs k v))):=.inr ⟨kvs,k,b,e,rfl,eb,hl,rfl⟩
section
variable{X:Cx}{pins:List (Addr×Obj)}{σ:St}{H:Hp}{s:pC}{a:Addr}{y v:V}{u r:pB}{o:Option V}{A:uQ}{E:pB->pC->Prop}
def Inv.big(I:Inv X pins σ H s):Qz<s.heap.objs.size:=by
 have h:uV<s.heap.objs.size:=(I.mod.glob.keeps I.bk).lt;exact Fk (by decide) h
def zei(hu:A.units+1<cLine)(I:Inv X pins σ H s)(g:x5 H a y (some v))(ry:zm y u)(h:∀w' s',Inv X pins σ H s'->zm v w'->Q w' s'):
  wpAny (model X.prog X.w) A (FZ (.ref a) u) Q E s:=by
 rcases g with⟨kvs,k,e,ey,l⟩|⟨kvs,k,b,e,ey,eb,l⟩
 ·subst ey;obtain⟨z,hd,vs,rel,dd⟩:=qW I.hok e;obtain⟨w',hw,rw'⟩:=xP.some_of (v:=v) (o:=Ez vs k) (by rw[l];exact rel.val k)
  exact wpAny_getItem_of (qz ry) dd.mapOf hw (h w' _ (I.tok _) rw')
 ·subst ey
  cases(show u=uw b from ry);obtain⟨z,hd,xs,rel,dd⟩:=YD I.hok e;obtain⟨w',hw,rw'⟩:=xP.some_of (v:=v) (o:=(atKey xs k).map (·.2)) (by rw[l];exact rel.val k)
  obtain⟨p,hp,hp2⟩:=Qh.mp hw;refine FO (Ai hu) (jD I.hok eb) dd hp ?_;rw[hp2];exact h w' _ (I.tok _) rw'
def d_notIn(hu:A.units+1<cLine)(I:Inv X pins σ H s)(g:x5 H a y o)(ry:zm y u)(h:∀s',Inv X pins σ H s'->Q (.bool (!o.isSome)) s'):
  wpAny (model X.prog X.w) A (UZ .NotIn u (.ref a)) Q E s:=by
 rcases g with⟨kvs,k,e,ey,l⟩|⟨kvs,k,b,e,ey,eb,l⟩
 ·subst ey;obtain⟨z,hd,vs,rel,dd⟩:=qW I.hok e;refine wpAny_notIn_of (qz ry) hd dd.mapOf ?_;rw[←(rel.val k).isSome_eq,←l];exact h _ (I.tok _)
 ·subst ey
  cases(show u=uw b from ry);obtain⟨z,hd,xs,rel,dd⟩:=YD I.hok e;refine wpAny_notIn_heap (Ai hu) (jD I.hok eb) hd dd ?_;have q:=(rel.val k).isSome_eq;rw[DU] at q;rw[←q,←l];exact h _ (I.tok _)
def Xm{ob:HO}(I:Inv X pins σ H s)(mu:Mut (H a))(hs:Ac a s.heap h')(he:∃q,h'.get? a=some q)(new:yf X.prog X.w (upd H a ob) h' a ob):
  Inv X pins σ (upd H a ob) {s with heap:=h',toks:=t'}:=
 I.write (x:=a) (e:=a) mu (.inl rfl) (λb q hb z=>(hs.2 b hb).trans z) he new
def dk_new{P:pi}{w:uR}{kvs:List (Key×V)}{vs:List (Key×pB)}(z:kvs.length<=sizeLine)(hd:(a==Qz)=false)(rel:KV kvs vs)(dd:h'.DictOf (yG P w) a vs):
  yf P w H' h' a (.dK kvs):=⟨z,hd,vs,rel,dd⟩
theorem zba{Q:Unit->pC->Prop}(hu:A.units+1<cLine)(I:Inv X pins σ H s)(g:w6 H a y v H')(ry:zm y u)(rv:zm v r)(h:∀s',Inv X pins σ H' s'->Q () s'):
  wpAny (model X.prog X.w) A (setItem (.ref a) u r) Q E s:=by
 rcases g with⟨kvs,k,e,ey,l,eH⟩|⟨kvs,k,b,e,ey,eb,l,eH⟩
 ·subst ey eH;obtain⟨z,hd,vs,rel,dd⟩:=dk_of I.hok e;have hz:vs.length<=sizeLine:=by rw[←rel.length];exact z
  have hl:(yj kvs k v).length<=sizeLine:=by have:=wZ kvs k v;lia
  refine wpAny_setItem_pairs (hsz:=hz) (qz ry) dd λh' dd' hs=>h _ ?_;have he:∃q,h'.get? a=some q:=let⟨q,_,_,hq,_⟩:=dd';⟨q,hq⟩;exact Xm I (by rw[e];exact DB) hs he (dk_new hl hd (rel.put k rv) dd')
 ·subst ey eH
  cases(show u=uw b from ry);obtain⟨z,hd,xs,rel,dd⟩:=dt_of I.hok e;have hz:xs.length<=sizeLine:=by rw[←CM rel];exact z
  have hl:(yj kvs k v).length<=sizeLine:=by have:=wZ kvs k v;lia
  refine wpAny_setItem_heap (hsz:=hz) (Ai hu) (jD I.hok eb) dd λh' dd' hs=>h _ ?_;obtain⟨q,es,ep,hq,h2,h3,h4,_,h5⟩:=dd';refine Xm I (by rw[e];exact DB) hs ⟨q,hq⟩ ⟨hl,hd,_,(rel.put k eb rv).keeps λc ys ec=>?_,q,es,ep,hq,h2,h3,h4,h5⟩
  rw[zh (ne_of ec e λz=>nomatch z)];exact ec
end
def NoSl(i:Expr):Prop:=∀ov iv,subscripted i false ov iv=operate [ov,iv] (FZ ov iv)
theorem Vc{prog:pi}{w:uR}{A:uQ}{E:pB->pC->Prop}{s:pC}{value slice:Expr}{pos:Pos}{id:String}
  (hl:typeLookup (.type T) "__getitem__"=pure (some (.builtin id)))(hs:NoSl slice)
  (h:wpAny (model prog w) A (eval value env) (λo s₁=>wpAny (model prog w) A (eval slice env) (λi s₂=>s₂.TypeIs o T/\wpAny (model prog w) A (FZ o i) Q E s₂) E s₁) E s):
  wpAny (model prog w) A (eval (.Subscript value slice pos) env) Q E s:=by
 refine Gs (Qe h (λo s₁ h₁=>Qe h₁ (λi s₂ h₂=>?_) λ_ _ x=>x) λ_ _ x=>x);obtain⟨hT,h₂⟩:=h₂;unfold FF;refine pA ?_;rw[getitemInPython_of_ne hT.not_modules];refine pA (Ak hT hl ?_);have fin:wpAny (model prog w) A (subscripted slice false o i) (λr s₃=>wpAny (model prog w) A (letTemporaryGo value o r>>=λ_=>pure r) Q E s₃) E s₂:=by
  rw[hs o i];exact wpAny_operating (Qe h₂ (λr s₃ h₃=>pA (wpAny_letTemporaryGo (pK h₃))) λ_ _ x=>x)
 first
  |exact pK (pA fin)
  |exact pA (pK (pA fin))
  |exact pA fin
def zb0{X:Cx}{pins:List (Addr×Obj)}{σ:St}{H:Hp}{s:pC}{a:Addr}{y:V}{o:Option V}(I:Inv X pins σ H s)(g:x5 H a y o):s.TypeIs (.ref a) "dict":=by
 rcases g with⟨kvs,k,e,_,_⟩|⟨kvs,k,b,e,_,_,_⟩
 ·obtain⟨_,_,vs,_,dd⟩:=qW I.hok e;exact dd.typeIs
 ·obtain⟨_,_,xs,_,dd⟩:=YD I.hok e;exact dd.typeIs
def xZ(td ty:TE):TE:=λσ H Q=>td σ H λx H1=>ty σ H1 λy H2=>∃a v,x=.ref a/\x5 H2 a y (some v)/\Q v H2
def qP(ty td:TE):TE:=λσ H Q=>ty σ H λy H1=>td σ H1 λx H2=>∃a o,x=.ref a/\x5 H2 a y o/\Q (.bl (!o.isSome)) H2
def qv(td ty tv:TE):TS:=λD σ H=>tv σ H λv H1=>td σ H1 λx H2=>ty σ H2 λy H3=>∃a H4,x=.ref a/\w6 H3 a y v H4/\D.nx σ H4
section
variable{X:Cx}{o i e value:Expr}{pos pos' tpos:Pos}{td ty tv:TE}
def xK(hu:X.A.units+1<cLine)(ho:PE X o td)(hi:PE X i ty)(hs:NoSl i):PE X (.Subscript o i pos) (xZ td ty):=by
 intro pins s σ H Q I h;refine Vc DO.lookup hs (thn (ho pins s σ H _ I h) λu s1⟨x,H1,I1,rx,q1⟩=>thn (hi pins s1 σ H1 _ I1 q1) λiv s2⟨y,H2,I2,ry,a,v,ex,g,q2⟩=>?_);subst ex;obtain rfl:u=uw a:=rx;exact⟨zb0 I2 g,zei hu I2 g ry λw' s3 I3 rw'=>⟨v,H2,I3,rw',q2⟩⟩
def Yv(hu:X.A.units+1<cLine)(hi:PE X i ty)(ho:PE X o td):PC X .NotIn i o (qP ty td):=by
 intro pins s σ H Q I h;refine thn (hi pins s σ H _ I h) λiv s1⟨y,H1,I1,ry,q1⟩=>thn (ho pins s1 σ H1 _ I1 q1) λu s2⟨x,H2,I2,rx,a,ov,ex,g,q2⟩=>?_;subst ex;obtain rfl:u=uw a:=rx;exact d_notIn hu I2 g ry λs3 I3=>⟨.bl (!ov.isSome),H2,I3,rfl,q2⟩
def jB(hu:X.A.units+1<cLine)(ho:PE X o td)(hi:PE X i ty)(hv:PE X value tv)(hs:Di value (some (.Subscript o i pos')) pos.line X.env=pure false):
  PS X (.Assign [.Subscript o i pos'] value pos) (qv td ty tv):=by
 intro pins s σ H D I h;refine wpAny_Assign_Subscript (thn (hv pins s σ H _ I h) λr s1⟨v,H1,I1,rv,q1⟩=>thn (ho pins s1 σ H1 _ I1 q1) λu s2⟨x,H2,I2,rx,q2⟩=>thn (hi pins s2 σ H2 _ I2 q2) λiv s3⟨y,H3,I3,ry,a,H4,ex,g,q3⟩=>?_) hs;subst ex;obtain rfl:u=uw a:=rx;exact zba hu I3 g ry rv λs4 I4=>⟨σ,H4,I4,q3⟩
end
def zdc{P:pi}{w:uR}{H:Hp}(h:Heap)(hb:Qz<h.objs.size):yf P w H (h.push {cls:=.type "dict",data:=.dict #[]}) h.objs.size (.dK []):=
 ⟨uJ _,beq_eq_false_iff_ne.mpr (gQ (uF hb)),[],.nil,Heap.DictOf.new h⟩
def zf0{P:pi}{w:uR}{H:Hp}(h:Heap)(hb:Qz<h.objs.size):yf P w H (h.push {cls:=.type "dict",data:=.dict #[]}) h.objs.size (.dT []):=
 ⟨uJ _,beq_eq_false_iff_ne.mpr (gQ (uF hb)),[],.nil,_,#[],0,pd _ rfl,⟨rfl,rfl,rfl⟩,rfl,rfl,At⟩
def Y0:TE:=λ_ H Q=>∀p,H p=none->Q (.ref p) (upd H p (.dK []))
def YM:TE:=λ_ H Q=>∀p,H p=none->Q (.ref p) (upd H p (.dT []))
section
variable{X:Cx}{pos:Pos}
def Jj:PE X (.Dict [] [] pos) Y0:=λpins s σ H Q I h=>
 Dr ⟨.ref s.heap.objs.size,_,I.laid (a:=s.heap.objs.size) (o:=.dK []) (t':=s.toks) (λ_ _ q=>pH _ q) (pJ _) (zdc s.heap I.big),rfl,h _ (I.hok.fresh (pJ _))⟩
def WY:PE X (.Dict [] [] pos) YM:=λpins s σ H Q I h=>
 Dr ⟨.ref s.heap.objs.size,_,I.laid (a:=s.heap.objs.size) (o:=.dT []) (t':=s.toks) (λ_ _ q=>pH _ q) (pJ _) (zf0 s.heap I.big),rfl,h _ (I.hok.fresh (pJ _))⟩
end
structure M2(X:Cx)(o:Expr)(m:Str)(apos:Pos)(e f:Expr)(cpos:Pos):Prop where
 base:FG o m X.env (eval o X.env)=eval o X.env
 few:((Ad cpos (ur [e,f] X.env)).all (λx=> !x.1)&&(Dl cpos (Bd [] X.env)).all (λx=>x.1.isSome)
  &&decide (([e,f]:List Expr).length+([]:List Ex).length+(if([]:List Ex).isEmpty then 0 else 1)<30))=true
 line:(apos.endLine==cpos.line)=true
 trees:Ad cpos (ur [e,f] X.env)=[(false,eval e X.env),(false,eval f X.env)]
section
variable{κ:Type}[DecidableEq κ]
def zdp{kvs:List (κ×V)}{k:κ}(h:zw kvs k=none):¬k∈kvs.map (·.1):=by
 intro m;obtain⟨p,hp,e⟩:=uG.mp m;have q:(kvs.any λkv=>decide (kv.1=k))=true:=List.any_eq_true.mpr ⟨p,hp,decide_eq_true e⟩;rw[vd,h] at q;exact absurd q (by simp)
def W4{kvs:List (κ×V)}{k:κ}{v:V}(h:zw kvs k=some v):k∈kvs.map (·.1):=by
 have q:(kvs.any λkv=>decide (kv.1=k))=true:=by
  rw[vd,h]
  all_goals rfl
 obtain⟨p,hp,e⟩:=List.any_eq_true.mp q;exact uG.mpr ⟨p,hp,of_decide_eq_true e⟩
theorem WE:∀{l:List κ}{k:κ},l.Nodup->¬k∈l->(l++[k]).Nodup
 |[],k,_,_=>by simp
 |a::r,k,h,hk=>by
  obtain⟨h1,h2⟩:=Ub.mp h;show(a::(r++[k])).Nodup;refine Ub.mpr ⟨λm=>?_,WE h2 λm=>hk (pR.mpr (FL m))⟩;rcases pP.mp m with q|q
  ·exact h1 q
  ·exact hk (pR.mpr (Ha (pN.mp q).symm))
end
section
variable{X:Cx}{x:Str}{p pos:Pos}{e:Expr}{es:List Expr}{kws:List Ex}{ks:List Str}{t tk:TA}{id:String}{r:List V->List V->Hp->VK->Prop}
def JI(X:Cx)(f:pB)(ks:List Str)(r:List V->List V->Hp->VK->Prop):Prop:=
 ∀(pins:List (Addr×Obj))(s:pC)(σ:St)(H:Hp)(xs zs:List V)(us ws:List pB)(Q:VK),Inv X pins σ H s->zn xs us->zn zs ws->r xs zs H Q->wpAny (model X.prog X.w) X.A (call f us (ks.zip ws)) (EP X pins σ Q) X.xe s
def tCBK(r:List V->List V->Hp->VK->Prop)(t tk:TA):TE:=λσ H Q=>t σ H λxs H1=>tk σ H1 λzs H2=>r xs zs H2 Q
def zcr(hc:JI X (.builtin id) ks r)(hg:Gl X x)(hm:X.mg x=none)(hv:Qc x=some (.builtin id))(ha:PA X (e::es) t)(hkw:PK X kws tk)(hks:(Dl pos (Bd kws X.env)).filterMap (·.1)=ks:=by rfl)
  (hn:x≠"__name__":=by decide) (hdb:(x==("__debug__":Str))=false:=by decide) (he:Ad pos (ur (e::es) X.env)=(false,eval e X.env)::Ad pos (ur es X.env):=by rfl) (hpl:(Ad pos (ur (e::es) X.env)).any (·.1)=false:=by rfl)
  (hall:(Dl pos (Bd kws X.env)).all (·.1.isSome)=true:=by rfl) (hno:(Dl pos (Bd kws X.env)).any (·.1.isNone)=false:=by rfl):PE X (.Call (.Name x p) (e::es) kws pos) (tCBK r t tk):=by
 intro pins s σ H Q I h;refine gX (xG I hg hm hv ?_ hn hdb);refine GV (thn (ha pos pins s σ H _ I h) λus s1⟨vs,H1,I1,r1,q1⟩=>thn (hkw pos pins s1 σ H1 _ I1 q1) λws s2⟨zs,H2,I2,r2,q2⟩=>?_) he hpl hall hno;rw[hks];exact hc pins s2 σ H2 vs zs us ws Q I2 r1 r2 q2
end
section
variable{prog:pi}{w:uR}{A:uQ}{R:Gq->pC->Prop}{I:Addr}{fp wr:List Addr}{n:Nat}{P:Nat->pB->Prop}{St:Nat->Heap->Prop}
theorem maxD_on(W:Walks prog w A.in1 I fp wr n P St)(bt:Nat->Nat->Bool)(hc:CmpOf prog w A.in1 .Gt P bt)(S:Addr)(nS:S∉fp)(kw:List (Str×pB)):∀(k j:Nat)(s:pC)(vb:pB)(c:Nat),n-(j+1)=k->j+1<=n->St (j+1) s.heap->P (Bn bt j) vb->
  s.heap.get? S=some {cls:=.type "list",dict:=none,data:=.seq #[vb,vb] c,slots:=#[]}->(∀v h' tk,P (Bn bt (n-1)) v->(∀b o,b∉wr->b≠S->s.heap.get? b=some o->h'.get? b=some o)->R (.ok (.ret v)) {s with heap:=h',toks:=tk})->
  BN (model prog w) A (.builtin "max.loop" ⟨[.ref I,.none,.ref S],kw⟩) R s:=by
 have nw:S∉wr:=λz=>nS (W.sub _ z);have nm:(Em "max"++Em ".loop":String)="max.loop":=by decide
 intro k
 induction k with
 |zero=>
  intro j s vb c hk hj st hb oS q;have ej:j+1=n:=by lia
  refine AA Ds ?_;rw[gF AT _];refine pA (m:=Do (.ref S)) (Qt oS rfl (pA (Bo (W.done s _ _ (ej▸st) λh' tk kp=>?_))));refine pA (AB (kp S _ nw oS) rfl (pA (Aa (pK ?_))));exact q vb _ tk (by rw[←ej];exact hb) λb o b1 b2 e=>(QV _ _ (gQ b2)).trans (kp b o b1 e)
 |succ k ih=>
  intro j s vb c hk hj st hb oS q;refine AA Ds ?_;rw[gF AT _];refine pA (m:=Do (.ref S)) (Qt oS rfl (pA (Bo (W.item (j+1) s _ _ (by lia) st λv h' tk hP st' kp=>?_))))
  have oS':=kp S _ nw oS;refine pA (pK ?_);refine pA (m:=tryCatch (holding [v,v] (Ei CmpOp.Gt v vb>>=_)) _) (Bo (UR (pA (hc (j+1) (Bn bt j) v vb _ _ _ hP hb (pA (UR (Uo (pA (Aa (pK ?_))))))))))
  cases bb:bt (j+1) (Bn bt j) with
  |true=>
   simp only[if_true];refine pA (AB oS' rfl (pA (Aa ?_)));rw[nm];refine pK ⟨An AT _,ih (j+1) _ v _ (by lia) (by lia) (W.frame _ _ _ st' λb hf o e=>(QV _ _ (λz:S=b=>nS (by rw[z];exact hf))).trans e) (by simp only[Bn,bb,if_true];exact hP) (Qn _ oS' rfl) λv' h'' tk'' hP' kp'=>?_⟩
   exact q v' h'' tk'' hP' λb o b1 b2 e=>kp' b o b1 b2 ((QV _ _ (gQ b2)).trans (kp b o b1 e))
  |false=>
   simp only[uI,if_false];refine pA (Aa ?_);rw[nm];exact pK ⟨An AT _,ih (j+1) _ vb c (by lia) (by lia) st' (by simp only[Bn,bb,uI,if_false];exact hb) oS' λv' h'' tk'' hP' kp'=>q v' h'' tk'' hP' λb o b1 b2 e=>kp' b o b1 b2 (kp b o b1 e)⟩
theorem zca(W:Walks prog w A.in1 I fp wr n P St)(bt:Nat->Nat->Bool)(hc:CmpOf prog w A.in1 .Gt P bt)(S:Addr)(nS:S∉fp){k:Str}{d:pB}{s:pC}{c:Nat}(st:St 0 s.heap)
  (oS:s.heap.get? S=some {cls:=.type "list",dict:=none,data:=.seq #[] c,slots:=#[]})
  (q:∀v h' tk,((0<n/\P (Bn bt (n-1)) v)∨(n=0/\v=d))->(∀b o,b∉wr->b≠S->s.heap.get? b=some o->h'.get? b=some o)->R (.ok (.ret v)) {s with heap:=h',toks:=tk}):
  BN (model prog w) A (.builtin "max.loop" ⟨[.ref I,.none,.ref S],[(k,d)]⟩) R s:=by
 have nw:S∉wr:=λz=>nS (W.sub _ z);have nm:(Em "max"++Em ".loop":String)="max.loop":=by decide
 refine AA Ds ?_;rw[gF AT _]
 by_cases h0:n=0
 ·subst h0;refine pA (m:=Do (.ref S)) (Qt oS rfl (pA (Bo (W.done s _ _ st λh' tk kp=>?_))));exact pA (UI (pK (q d h' tk (.inr ⟨rfl,rfl⟩) λb o b1 _ e=>kp b o b1 e)))
 ·refine pA (m:=Do (.ref S)) (Qt oS rfl (pA (Bo (W.item 0 s _ _ (by lia) st λv h' tk hP st' kp=>?_))))
  refine pA (pK ?_);refine pA (AB (kp S _ nw oS) rfl ?_);rw[nm];refine pK ⟨An AT _,maxD_on W bt hc S nS _ _ 0 _ v _ rfl (by lia) (W.frame _ _ _ st' λb hf o e=>(QV _ _ (λz:S=b=>nS (by rw[z];exact hf))).trans e) hP (Qn _ (kp S _ nw oS) rfl) λv' h'' tk'' hP' kp'=>?_⟩
  exact q v' h'' tk'' (.inl ⟨by lia,hP'⟩) λb o b1 b2 e=>kp' b o b1 b2 ((QV _ _ (gQ b2)).trans (kp b o b1 e))
end
def zc5(a v:pB):argsOk "max" ⟨[a],[(uT "default",v)]⟩:=by unfold argsOk;kernel_rfl
theorem JT(val:Nat->Int):∀k,Bn (λi j=>decide (val i>val j)) k<=k/\∀i,i<=k->val i<=val (Bn (λi j=>decide (val i>val j)) k)
 |0=>⟨pJ _,λi hi=>by rw[Hq.mp hi];exact Hr _⟩
 |k+1=>by
  obtain⟨h1,h2⟩:=JT val k;unfold Bn
  by_cases c:val (k+1)>val (Bn (λi j=>decide (val i>val j)) k)
  ·rw[if_pos (decide_eq_true c)];refine⟨pJ _,λi hi=>?_⟩
   by_cases e:i=k+1
   ·rw[e];exact Hr _
   ·have:=h2 i (by lia)
    lia
  ·rw[if_neg (by rw[decide_eq_false c];decide)]
   refine⟨by lia,λi hi=>?_⟩
   by_cases e:i=k+1
   ·rw[e];lia
   ·exact h2 i (by lia)
def rMaxD:List V->List V->Hp->VK->Prop:=λxs zs H Q=>∃p ns d,xs=[.ref p]/\zs=[.int d]/\H p=some (.lst (ns.map V.int))/\∀g,(∀n,n∈ns->n<=g)->(g∈ns∨(ns=[]/\g=d))->Q (.int g) H
section
variable{X:Cx}
theorem zbm(hc:X.calm=true):JI X (.builtin "max") [uT "default"] rMaxD:=by
 intro pins s σ H xs zs us ws Q I r rz h;obtain⟨p,ns,d,rfl,rfl,hp,q⟩:=h;obtain⟨u,rfl,ru⟩:=vals1 r;obtain⟨u',rfl,t,rfl⟩:=vals1 rz
 cases ru;obtain⟨its,rv,pl,hz⟩:=I.list (.of hp);have ia:gq its ns:=by
  have:=qd rv
  simpa using this
 have len:=ia.length;have ne:p≠s.heap.objs.size:=uF pl.lt;have nm:(Em "max"++Em ".loop":String)="max.loop":=by decide
 refine kmk_tree PySem.F.kind_max PySem.F.plain_max PySem.F.entry_max (zc5 _ _) ?_;refine pA (m:=Cn "max" ["key","default"] 0 ⟨[],[(uT "default",.int d t)]⟩) (GS (show Cn "max" ["key","default"] 0 ⟨[],[(uT "default",.int d t)]⟩=pure [none,some (.int d t)] from rfl) (pA (pK (pA (FX pl.isList (pA (BI ?_ (uJ _))))))));rw[nm];have W:=Walks.list (prog:=X.prog) (w:=X.w) (A:=X.A.in1) (show X.A.in1.handled=none from I.ok.hd hc) s.heap.objs.size p ne its.toArray;have it:∀i v,its.toArray[i]?=some v->∃t,v=Fz (ns.getD i 0) t:=λi v hv=>IntsAre.int_at ia i v (by simpa using hv)
 have sz:(s.heap.push {cls:=.type "list_iterator",data:=.fields #[.ref p,.int 0 0]}).objs.size=s.heap.objs.size+1:=by rw[AQ]
 refine pK ⟨An PySem.F.plain_max_loop _,zca W (λi j=>decide (ns.getD i 0>ns.getD j 0)) (CmpOf.ints_gt (λi=>ns.getD i 0) it) _ (λz=>?_) (st:=W.frame 0 _ _ ⟨⟨_,pd _ rfl,rfl,rfl⟩,pl.isList.push _⟩ λb _ o e=>pH _ e) (pd _ rfl) λv h' tk hv kp=>?_⟩
 ·rw[sz] at z;have l2:p<s.heap.objs.size:=pl.lt;rcases pR.mp z with z|z
  ·exact absurd z (Bj (Nat.lt_succ_self _))
  ·exact absurd (pN.mp z) (Bj (Fl l2))
 ·have keep:∀b o,s.heap.get? b=some o->h'.get? b=some o:=λb o e=>by
   have lt:=pb e;refine kp b o (λz=>?_) (λz=>?_) (pH _ (pH _ e))
   ·exact absurd (show b=s.heap.objs.size by simpa using z) (uF lt)
   ·rw[sz] at z;exact absurd z (uF (Fl lt))
  obtain⟨b1,b2⟩:=JT (λi=>ns.getD i 0) (its.toArray.size-1);have J:Inv X pins σ H {s with heap:=h',toks:=tk}:=I.kept keep;rcases hv with⟨h0,hv⟩|⟨h0,rfl⟩
  ·obtain⟨t',rfl⟩:=it _ _ hv;have h0:0<its.length:=by simpa using h0
   have zi:its.toArray.size=its.length:=rfl;rw[zi] at b1 b2⊢;refine⟨.int _,H,J,⟨t',rfl⟩,q _ (λn hn=>?_) (.inl ?_)⟩
   ·obtain⟨i,hi,e⟩:=QB.mp hn;have:=b2 i (by lia)
    have e':ns.getD i 0=n:=by simp[hi,e]
    rw[e'] at this;exact this
   ·have hb:Bn (λi j=>decide (ns.getD i 0>ns.getD j 0)) (its.length-1)<ns.length:=by lia
    rw[pE,pG hb];exact AU _
  ·have h0:its.length=0:=by simpa using h0
   have n0:ns=[]:=CU (by lia)
   exact⟨.int d,H,J,⟨t,rfl⟩,q d (λn hn=>by rw[n0] at hn;cases hn) (.inr ⟨n0,rfl⟩)⟩
end
variable{es:Array Bg}{ep:Nat}
section
variable{prog:pi}{w:uR}{A:uQ}{E:pB->pC->Prop}{s:pC}
variable{od:Obj}
def zdn(hd:(d==Qz)=false)(ho:s.heap.get? d=some od)(hc:od.cls=.type "dict")(hdat:od.data=.dict es ep)
  (q:Q (.ref s.heap.objs.size) {s with heap:=s.heap.push {cls:=.type "dict_keyiterator",data:=.fields #[.ref d,.int 0 0,.int es.size 0,.int ep 0]}}):wpAny (model prog w) A (pyIter (.ref d)) Q E s:=by
 have ty:s.TypeIs (.ref d) "dict":=⟨od,ho,hc⟩;refine wpAny_pyIter_slot ty EF (Uh EF ty PySem.F.entry_dict_iter ?_ (PySem.F.args_dict_iter_1 _));unfold Av.«dict.__iter__»;refine pA ?_;unfold Builtin.Dict.dictSlotNone;refine pA (EX ty (pK ?_));refine pA (m:=EY d) ?_;unfold EY;rw[if_neg (by rw[hd];decide)]
 refine pK (pA (Bp ho hdat (pA (ER ho hdat (pA (gI (pK ⟨_,rfl,"dict_keyiterator",_,⟨_,pd _ rfl,rfl⟩,PySem.F.slot_dict_keyiterator_next.lookup,?_⟩)))))))
 simpa[gN] using q
variable{Q:Option pB->pC->Prop}
theorem zdh{it:Addr}{i:Nat}(hit:s.heap.IsKeyIter it d i es.size ep)(ho:s.heap.get? d=some od)(hdat:od.data=.dict es ep)(hi:i<es.size)
  (q:∀h',h'.IsKeyIter it d (i+1) es.size ep->Ac it s.heap h'->Q (some es[i].key) {s with heap:=h'}):wpAny (model prog w) A (DX (.ref it)) Q E s:=by
 obtain⟨o,hoi,hci,hdi⟩:=id hit;have own:Ce "dict_keyiterator"=false:=by decide
 unfold DX;refine pA (Am (Ug (name:=uT "__next__") hit.typeIs Ue (Uh Ue hit.typeIs BJ (pA (pK (pA (pA ?_)))) (BA _))))
 first|refine pA (gG hit.typeIs (pK (pA (DC hoi hdi ?_))))|refine pA (AK hit.typeIs (pK (pA (DC hoi hdi ?_))))
 simp only[own,uI,if_false];show wpAny _ _ (if(uw d==ut)=true then _ else _) _ _ s;have nv:¬((uw d==ut)=true):=uH;rw[if_neg nv];refine pA (pK (pA (Bp ho hdat ?_)));rw[if_neg (by simp)]
 refine pA (pK (pA (ER ho hdat ?_)));rw[if_neg (by simp)]
 refine pK ?_;simp only[show ¬((i:Int)<0) from by lia,if_false,UX,uM hi]
 refine pA ?_
 first|refine pA (gG hit.typeIs (pK (pA (CG hit.typeIs ?_))))|refine pA (AK hit.typeIs (pK (pA (CG hit.typeIs ?_))))
 refine pA (m:=setField (.ref it) 1 (gN ((i:Int)+1))) (Cv hoi hdi (by simp) ?_)
 have st:(s.heap.update it (HP (·.setIfInBounds 1 (gN ((i:Int)+1))))).IsKeyIter it d (i+1) es.size ep:=⟨_,Qn _ hoi (EW (BX hdi _)),(Fc ..).trans hci,by rw[BX hdi];simp[gN]⟩
 refine pA (UR (pA (CG (s:={s with heap:=s.heap.update it (HP (·.setIfInBounds 1 (gN ((i:Int)+1))))}) st.typeIs ?_)));exact pK (pK ⟨_,rfl,pK (q _ st (Ur ..))⟩)
theorem za8{it:Addr}{i:Nat}(hh:A.handled=none)(hit:s.heap.IsKeyIter it d i es.size ep)(ho:s.heap.get? d=some od)(hdat:od.data=.dict es ep)(hi:es.size<=i)
  (q:∀h',Hm it s.heap h'->Q none {s with heap:=h'}):wpAny (model prog w) A (DX (.ref it)) Q E s:=by
 obtain⟨o,hoi,hci,hdi⟩:=id hit;have own:Ce "dict_keyiterator"=false:=by decide
 unfold DX;refine pA (Am (Ug (name:=uT "__next__") hit.typeIs Ue (Uh Ue hit.typeIs BJ (pA (pK (pA (pA ?_)))) (BA _))))
 first|refine pA (gG hit.typeIs (pK (pA (DC hoi hdi ?_))))|refine pA (AK hit.typeIs (pK (pA (DC hoi hdi ?_))))
 simp only[own,uI,if_false];show wpAny _ _ (if(uw d==ut)=true then _ else _) _ _ s;have nv:¬((uw d==ut)=true):=uH;rw[if_neg nv];refine pA (pK (pA (Bp ho hdat ?_)));rw[if_neg (by simp)]
 refine pA (pK (pA (ER ho hdat ?_)));rw[if_neg (by simp)]
 refine pK ?_;simp only[show ¬((i:Int)<0) from by lia,if_false,UX,UT hi]
 refine pA ?_
 first|refine pA (gG hit.typeIs (pK ?_))|refine pA (AK hit.typeIs (pK ?_))
 refine pA (m:=setField (.ref it) 0 .none) (Cv hoi hdi (by simp) ?_)
 refine pA (m:=newExc (.type "StopIteration") []) ?_;simp only[newExc,newTuple]
 refine pA (gI (pA (m:=Cw _ _) (GS (a:=ut) (by first|rfl|(simp only[Cw];rfl)) (gI ?_ (by size_fits)))) (by size_fits))
 simp only[raiseNew];refine pA (wpAny_handled ?_);rw[show A.in1.handled=none from hh];refine pA (pK (wpAny_throw ?_));refine pA (gW (T:="StopIteration") (b:=true) ⟨_,pd _ rfl,rfl⟩ isSubtype_stop (pK ?_));exact q _ (((Ur ..).extBut.push _).push _)
end
section
variable{X:Cx}{tg:Expr}{pins:List (Addr×Obj)}{σ:St}{H:Hp}{s:pC}
theorem Vw{kvs:List (List Key×V)}{xs:List (List Key×Addr×pB)}{H:Hp}:Dx (λ(p:List Key×V)(q:List Key×Addr×pB)=>p.1=q.1/\H q.2.1=some (.tup (p.1.map kV))/\zm p.2 q.2.2) kvs xs->∀(j:Nat)(b:Addr)(kv:List Key×V),(xs.map λq=>q.2.1)[j]?=some b->kvs[j]?=some kv->H b=some (.tup (kv.1.map kV))
 |.nil,j,b,kv,h,_=>by cases h
 |.cons r t,0,b,kv,h,h'=>by cases h;cases h';exact r.2.1
 |.cons r t,j+1,b,kv,h,h'=>Vw t j b kv h h'
end
section
open PySem.SeqAt
open PySem.AutoSeq1 (wpAny_loadPart')
open PySem.MeetsSeq PySem.MeetsSeq2 PySem.MeetsSeq3
def extendT(l b:Addr)(items items2:Array pB)(n n2:Nat)(dd:Option Addr)(sl:Array (Option pB))(hs0:¬(!items.isEmpty&&Uy (items.size+items2.size))=true)(hs1:items.size<=sizeLine)(hs2:items.size+items2.size<=sizeLine+1):
  Meets (Av.«list.extend» ⟨[.ref l,.ref b],[]⟩)
   (λ_ R s=>s.heap.get? l=some {cls:=.type "list",dict:=none,data:=.seq items n,slots:=#[]}/\s.heap.get? b=some {cls:=.type "tuple",dict:=dd,data:=.seq items2 n2,slots:=sl}/\R (.ok (.ret ut)) {s with heap:=s.heap.update l (uB λx=>x++items2),toks:=s.toks}):=
 .of_wp λprog w A R s h=>by
  obtain⟨hp,g,d,tk,os⟩:=s;obtain⟨hl,hb,h⟩:=h;have f5:=AutoSeq1.sub_list_tuple;have f3:=EG;have zz:(items++items2).size<=sizeLine+1:=by rw[Array.size_append];exact hs2
  wp_walk using(AB hl rfl (hz:=hs1) (_hz':=zz)),Us hl,Us hb
  exact⟨_,rfl,h⟩
end
section
variable{X:Cx}
def rExtT:V->List V->Hp->VK->Prop:=λx vs H Q=>∃l b xs zs,x=.ref l/\vs=[.ref b]/\H l=some (.lst xs)/\H b=some (.tup zs)/\xs.length+zs.length<=sizeLine/\Q .non (upd H l (.lst (xs++zs)))
theorem Vs:MtM X "list.extend" rExtT:=by
 intro pins s σ H x vs v us Q I rx rv h;obtain⟨l,b,xs,zs,rfl,rfl,hH,hB,hz,q⟩:=h
 cases rx;obtain⟨u,rfl,ru⟩:=rv.one
 cases ru;obtain⟨z,its,n,r,hl,e⟩:=I.lstM hH;obtain⟨its2,r2,⟨⟨cls,dd,data,sl⟩,e2,hc,n2,hd⟩,_⟩:=I.tuple (.of hB)
 simp only at hc hd
 subst hc hd;have l2:=r2.length;have hsz:its.toArray.size+its2.toArray.size<=sizeLine:=by rw[pe,pe];lia
 have hlong:¬(!its.toArray.isEmpty&&Uy (its.toArray.size+its2.toArray.size))=true:=by rw[J4 hsz,Gu];decide
 refine EC AL ⟨_,e,rfl⟩ PySem.F.entry_list_extend (PySem.F.args_list_extend_2 _ _) (extendT l b its.toArray its2.toArray n n2 dd sl hlong (by rw[pe];lia) (by lia)) ⟨e,e2,.non,_,I.lset (its':=its++its2) hH e (by simp) (r.append r2) (by rw[pM];lia),rfl,q⟩
end
open PySem.W (kas_sort kas_ask)
noncomputable def ltL:List (Int×Int)->List (Int×Int)->Bool
 |[],ys=>decide (0<ys.length)
 |_::_,[]=>false
 |x::xs,y::ys=>if x=y then ltL xs ys else HT.lexLt [x.1,x.2] [y.1,y.2]
def qu(h:Heap)(v:pB)(ns:List (Int×Int)):Prop:=∃(a:Addr)(its:List pB)(n:Nat),v=.ref a/\h.get? a=some (uC "list" its.toArray n)/\its.length=ns.length/\∀(i:Nat)(u:pB)(k:Int×Int),its[i]?=some u->ns[i]?=some k->yd h u [k.1,k.2]
variable{ns ms:List (Int×Int)}
section
variable{prog:pi}{w:uR}{A:uQ}{E:pB->pC->Prop}{s:pC}{R:Gq->pC->Prop}
theorem rc_pair{x y:pB}{k l:Int×Int}(hx:yd s.heap x [k.1,k.2])(hy:yd s.heap y [l.1,l.2])(hu:A.units+64<cLine)(q:Q (.bool (HT.lexLt [k.1,k.2] [l.1,l.2])) s):wpAny (model prog w) A (Ei .Lt x y) Q E s:=by
 obtain⟨a,its,n,dd,sl,rfl,o,i⟩:=hx;obtain⟨b,its2,n2,dd2,sl2,rfl,o2,i2⟩:=hy;exact EH (op:=.Lt) ⟨_,o,rfl⟩ ⟨_,o2,rfl⟩ PySem.F.slot_tuple_lt PySem.F.entry_tuple_lt (PySem.F.args_tuple_lt_2 _ _) (tupleLt a b its its2 n n2 dd dd2 sl sl2 [k.1,k.2] [l.1,l.2] rfl i i2) ⟨o,o2,(λz=>nomatch z),q⟩ (by lia)
theorem ll_loop{a b:Addr}{xs ys:List pB}{n m:Nat}(hu:A.units+70<cLine)(ha:s.heap.get? a=some (uC "list" xs.toArray n))(hb:s.heap.get? b=some (uC "list" ys.toArray m))(lx:xs.length=ns.length)(ly:ys.length=ms.length)
  (tx:∀(i:Nat)(u:pB)(k:Int×Int),xs[i]?=some u->ns[i]?=some k->yd s.heap u [k.1,k.2])(ty:∀(i:Nat)(u:pB)(k:Int×Int),ys[i]?=some u->ms[i]?=some k->yd s.heap u [k.1,k.2]):
  ∀(f i:Nat),ns.length-i=f->i<=ns.length->i<=ms.length->R (.ok (.ret (.bool (ltL (ns.drop i) (ms.drop i))))) s->BN (model prog w) A (.builtin "list.__eq__.loop" ⟨[.ref a,.ref b,gN (i:Int),gN 0],[]⟩) R s:=by
 have fin:∀i:Nat,i<=ns.length->i<=ms.length->(ns.length=i∨ms.length=i)->ltL (ns.drop i) (ms.drop i)=decide (xs.length<ys.length):=λi h1 h2 h3=>by
  rcases h3 with h3|h3
  ·rw[Bq (by lia),ltL,pg]
   exact decide_eq_decide.mpr (by lia)
  ·rw[Bq (l:=ms) (by lia)]
   cases e:ns.drop i with
   |nil=>
    have:=CT.mp e;rw[ltL];exact decide_eq_decide.mpr (by simp;lia)
   |cons k r=>
    rw[ltL];have:i<ns.length:=by
     rcases EI i ns.length with z|z
     ·exact z
     ·rw[Bq z] at e;cases e
    exact(decide_eq_false (by lia)).symm
 intro f
 induction f with
 |zero=>
  intro i hf h1 h2 q;have e:ns.length=i:=by lia
  refine AA Dt ?_;rw[gF AV _];rw[fin i h1 h2 (.inl e)] at q;have gx:xs[i]?=none:=UJ (by lia)
  refine pA (US ha rfl (pA (US hb rfl ?_)));simp only[gN,UX,Ao,gx];exact pA (US ha rfl (pA (US hb rfl (pK q))))
 |succ f ih=>
  intro i hf h1 h2 q;refine AA Dt ?_;rw[gF AV _];have li:i<xs.length:=by lia
  have gx:xs[i]?=some xs[i]:=pG li;refine pA (US ha rfl (pA (US hb rfl ?_)))
  by_cases hy:ms.length=i
  ·rw[fin i h1 h2 (.inr hy)] at q;have gy:ys[i]?=none:=UJ (by lia)
   simp only[gN,UX,Ao,gx,gy];exact pA (US ha rfl (pA (US hb rfl (pK q))))
  ·have lj:i<ys.length:=by lia
   have gy:ys[i]?=some ys[i]:=pG lj;have gn:ns[i]?=some ns[i]:=pG (by lia)
   have gm:ms[i]?=some ms[i]:=pG (by lia)
   have dx:ns.drop i=ns[i]::ns.drop (i+1):=Qg (by lia)
   have dy:ms.drop i=ms[i]::ms.drop (i+1):=Qg (by lia)
   rw[dx,dy,ltL] at q;have t1:=tx i _ _ gx gn;have t2:=ty i _ _ gy gm;simp only[gN,UX,Ao,gx,gy];refine pA (eq_tupI t1 t2 (by show A.units+1+64<_;lia) ?_)
   by_cases e:ns[i]=ms[i]
   ·rw[if_pos e] at q;rw[decide_eq_true (by rw[e])]
    simp only[if_true];have z:=ih (i+1) (by lia) (by lia) (by lia) q
    exact pK ⟨An AV _,by simpa[gN] using z⟩
   ·rw[if_neg e] at q;have ne:¬[ns[i].1,ns[i].2]=[ms[i].1,ms[i].2]:=λz=>by
     simp only[BQ,and_true] at z;exact e (Br z.1 z.2)
    rw[decide_eq_false ne];simp only[uI,if_false];refine pA (US ha rfl (pA (US hb rfl ?_)));simp only[Ao,gx,gy];exact pA (rc_pair t1 t2 (by show A.units+1+64<_;lia) (pK q))
end
open PySem.W (kas_sort kas_ask)
def listLt(a b:Addr):Meets (Av.«list.__lt__» ⟨[.ref a,.ref b],[]⟩) (λA R s=>A.units+70<cLine/\∃(xs ys:List pB)(n m:Nat)(ns ms:List (Int×Int)),s.heap.get? a=some (uC "list" xs.toArray n)/\s.heap.get? b=some (uC "list" ys.toArray m)/\xs.length=ns.length/\ys.length=ms.length/\
  (∀(i:Nat)(u:pB)(k:Int×Int),xs[i]?=some u->ns[i]?=some k->yd s.heap u [k.1,k.2])/\(∀(i:Nat)(u:pB)(k:Int×Int),ys[i]?=some u->ms[i]?=some k->yd s.heap u [k.1,k.2])/\R (.ok (.ret (.bool (ltL ns ms)))) s):=by
 intro prog w A R s h;obtain⟨hu,xs,ys,n,m,ns,ms,ha,hb,lx,ly,tx,ty,q⟩:=h;refine pA (m:=FP (.ref b) (.type "list")) (gW (T:="list") (b:=true) ⟨_,hb,rfl⟩ EG ?_);exact pK ⟨An AV _,ll_loop (i:=0) hu ha hb lx ly tx ty _ rfl (uJ _) (uJ _) q⟩
section
variable{prog:pi}{w:uR}{A:uQ}{E:pB->pC->Prop}{s:pC}{C:Bool->pC->Prop}
theorem lt_lst{x y:pB}(hx:qu s.heap x ns)(hy:qu s.heap y ms)(hu:A.units+70<cLine)(q:C (ltL ns ms) s):wpAny (model prog w) A (keyLt' oneType' x y) C E s:=by
 obtain⟨a,xs,n,rfl,ha,lx,tx⟩:=hx;obtain⟨b,ys,m,rfl,hb,ly,ty⟩:=hy;rw[keyLt'_oneType,oneLt'_eq];simp only[if_true];refine pA (wpAny_cRoomFor (by lia) (pA (wpAny_callSpecialIfBound?_slot ⟨_,ha,rfl⟩ En (EC En ⟨_,ha,rfl⟩ PySem.F.entry_list_lt (PySem.F.args_list_lt_2 _ _) (listLt a b) ⟨hu,xs,ys,n,m,ns,ms,ha,hb,lx,ly,tx,ty,?_⟩))))
 exact Uo q
def zcw{M:Model}{Q:UM->pC->Prop}(h2:2<=vs.length)(hv:∀v,v∈vs->∃ns,qu s.heap v ns)(q:Q oneType' s):wpAny M A (Fh vs.toArray) Q E s:=by
 refine PySem.W.kas_kind (T:=.type "list") h2 (λv h=>?_) (by decide) (by decide) q
 obtain⟨ns,a,its,n,rfl,o,_⟩:=hv v h;exact(PySem.W.Looks.ld o).andThen .now
end
open PySem.W (KasT kas_asc kas_desc kas_rev kas_tail3 kas_descPart kas_count kas_place kas_bin kas_sort)
theorem vX{α β:Type}{ans:Nat->Nat->Bool}{f:α->KasT β}:∀t:KasT α,ansT ans (t.bind f)=ansT ans (f (ansT ans t))
 |.ret _=>rfl
 |.ask i j k=>vX (k (ans i j))
variable{k:Nat}
section
variable{n:Nat}{ans:Nat->Nat->Bool}
theorem qr{p:Array Nat}{m:Nat}(hm:m<=p.size)(hk:k<m):(kas_rev p 0 m).getD k 0=p.getD (m-1-k) 0:=by
 have e:(kas_rev p 0 m)[k]?=p[m-1-k]?:=by
  unfold kas_rev;rw[BB hm,if_pos (by lia)]
  congr 1
  lia
 rw[pZ,pZ,e]
theorem JZ{p:Array Nat}{l:Nat}(hk:k<p.size)(hl:l<=k)(i:Nat):(bubble p k (k-l)).getD i 0=if i=l then p.getD k 0 else if l<i/\i<=k then p.getD (i-1) 0 else p.getD i 0:=by
 have e:=ES hk (k-l) (by lia) i
 have x:k-(k-l)=l:=by lia
 rw[x] at e;rw[pZ,e]
 by_cases c1:i=l
 ·rw[if_pos c1,if_pos c1,pZ]
 ·rw[if_neg c1,if_neg c1]
  by_cases c2:l<i/\i<=k
  ·rw[if_pos c2,if_pos c2,pZ]
  ·rw[if_neg c2,if_neg c2,pZ]
end
open PySem.W (kas_sort kas_ask)
def LsI(H:Hp)(v:V)(ns:List (Int×Int)):Prop:=∃(q:Addr)(qs:List V),v=.ref q/\H q=some (.lst qs)/\qs.length=ns.length/\∀(j:Nat)(k:Int×Int),ns[j]?=some k->∃b,qs[j]?=some (.ref b)/\H b=some (.tup [.int k.1,.int k.2])
def KPl:KPT:=λH zs ans=>∃kp:Nat->List (Int×Int),(∀i,i<zs.length->LsI H (zs.getD i .non) (kp i))/\ans=λi j=>ltL (kp i) (kp j)
section
variable{X:Cx}{pins:List (Addr×Obj)}{σ:St}{H:Hp}{s:pC}
def lstI_of(I:Inv X pins σ H s){v:V}{u:pB}(h:LsI H v ns)(r:zm v u):qu s.heap u ns:=by
 obtain⟨q,qs,rfl,hq,hl,he⟩:=h
 cases(show u=uw q from r);obtain⟨z,its,n,rv,hlen,e⟩:=I.lstM hq;refine⟨q,its,n,rfl,e,by rw[←rv.length];exact hl,λi u k hu hk=>?_⟩
 obtain⟨b,hb,hH⟩:=he i k hk;obtain⟨v,hv,rr⟩:=vals_get? rv hu;rw[hb] at hv
 cases hv
 cases(show u=uw b from rr);exact Vz I (ns:=[k.1,k.2]) hH
theorem zdf(hu:X.A.units+80<cLine):vm X KPl:=by
 intro pins σ H s zs ks ans I r h;obtain⟨kp,ok,rfl⟩:=h;have len:=r.length;have lst:∀i,i<ks.length->qu s.heap (ks.getD i ut) (kp i):=λi hi=>lstI_of I (ok i (by lia)) (jU r i (by lia))
 refine⟨oneType',λh2 Q' q'=>zcw h2 (λv hv=>?_) q',λh2 i j C hi hj cc=>lt_lst (lst i hi) (lst j hj) (by show X.A.units+1+1+70<_;lia) cc⟩
 obtain⟨i,hi,e⟩:=QB.mp hv;refine⟨kp i,?_⟩;have t:=lst i hi;have e':ks.getD i ut=v:=by simp[hi,e]
 rw[e'] at t;exact t
end
def TupR(h:Heap)(v:pB)(ns ms:List Int)(l r:Bool):Prop:=∃(a:Addr)(x y:pB)(n:Nat)(dd:Option Addr)(sl:Array (Option pB)),v=.ref a/\h.get? a=some {cls:=.type "tuple",dict:=dd,data:=.seq #[x,y,.bool l,.bool r] n,slots:=sl}/\yd h x ns/\yd h y ms
open PySem.W (KatTups) in
theorem ktupsR{h:Heap}:∀vs:List pB,(∀v,v∈vs->∃a b l r,a≠[]/\TupR h v a b l r)->∃fs,fs.length=vs.length/\KatTups h vs fs/\∀f,f∈fs->∃ns,yd h f ns
 |[],_=>⟨[],rfl,.nil,λf hf=>by cases hf⟩
 |v::vs,hv=>by
  obtain⟨fs,l,t,r⟩:=ktupsR vs λu hu=>hv u (pY _ hu);obtain⟨a,b,l',r',ne,p,x,y,n,dd,sl,rfl,o,i,j⟩:=hv v (pX ..);refine⟨x::fs,by simp[l],.cons o rfl rfl rfl t,λf hf=>?_⟩
  rcases pR.mp hf with rfl|hf
  ·exact⟨_,i⟩
  ·exact r f hf
open PySem.W (CodeHd codeHdIn tabIn)
structure wQ(K:pF)(x qual:Str)(st:Stmt)(f:Addr)(fd:UN)(c P:Addr):Prop where
 ex:∃(oc:pB)(od:Option Addr)(kV doc pm:pB)(an:Option Addr)(ct:pB)(osl:Array (Option pB)),
  fd=UA x qual (xt st) (yD st) (zp st) .none kV doc pm an (.ref c) ct/\K.lookup f=some ⟨oc,od,.func fd,osl⟩/\gY K (.ref c) qual=true
 hd:codeHdIn K c P=true
section
variable{P:pi}{w:uR}{K:pF}{mg:Str->Option pB}{base:Heap}
def wQ.ok{x qual:Str}{st:Stmt}{f c tb:Addr}{fd:UN}(F:wQ K x qual st f fd c tb)(S:zA N ps (zp st))(len:∀vs H Q E,sp vs H Q E->vs.length=ps.length)
  (hbody:∀(A:uQ)(outer:List Env)(s:pC)(H:Hp)(vs:List V)(Q:VK)(E:XK),zX k (A.deeper (gu qual (zp st) s.heap.objs.size f (.ref c)))->sp vs H Q E->
   ∃t,PSs (xM CX0 P w K mg base N qual (zp st) f (.ref c) A outer s H E).nox (yD st) t/\t {nx:=λ_ H'=>Q .non H',rt:=Q} (start N vs) H):zx P w K mg base CX0 (k+1) f fd ps sp:=by
 obtain⟨oc,od,kV,doc,pm,an,ct,osl,rfl,lk,hcd⟩:=F.ex;refine fn_of lk hcd S len λA outer s H vs Q E hr hsp=>?_;obtain⟨t,h,q⟩:=hbody A outer s H vs Q E hr hsp;exact⟨t,h.nox,q⟩
end
variable{pos:Pos}{H:Hp}{P:Addr}
def zE.ne(t:zE H P pos q){a:Addr}{o:HO}(h:H a=some o)(n:∀ps,o≠.tbl ps):a≠P:=λz=>by
 obtain⟨ps,e,_⟩:=t;rw[z,e] at h
 cases h;exact n ps rfl
variable{xs:List V}
def ym.tup(g:ym P H H')(t:zE H P pos q){a:Addr}(h:H a=some (.tup xs)):H' a=some (.tup xs):=g a _ (t.ne h λ_ z=>nomatch z) h
def ym.lst(g:ym P H H')(t:zE H P pos q){a:Addr}(h:H a=some (.lst xs)):H' a=some (.lst xs):=g a _ (t.ne h λ_ z=>nomatch z) h
open PySem.W (kas_sort)
structure STO{α:Type}(lt:α->α->Bool):Prop where
 irr:∀a,lt a a=false
 tr:∀a b c,lt a b=true->lt b c=true->lt a c=true
 tot:∀a b,a≠b->lt a b=true∨lt b a=true
noncomputable def lexB{α β:Type}[DecidableEq α](r:α->α->Bool)(s:β->β->Bool)(a b:α×β):Bool:=if a.1=b.1 then s a.2 b.2 else r a.1 b.1
def STO.lex{α β:Type}[DecidableEq α]{r:α->α->Bool}{s:β->β->Bool}(R:STO r)(S:STO s):STO (lexB r s) where
 irr a:=by unfold lexB;rw[if_pos rfl];exact S.irr _
 tr a b c h1 h2:=by
  unfold lexB at*
  by_cases e1:a.1=b.1
  ·rw[if_pos e1] at h1
   by_cases e2:b.1=c.1
   ·rw[if_pos e2] at h2;rw[if_pos (e1.trans e2)];exact S.tr _ _ _ h1 h2
   ·rw[if_neg e2] at h2;rw[if_neg (λz=>e2 (e1.symm.trans z)),e1];exact h2
  ·rw[if_neg e1] at h1
   by_cases e2:b.1=c.1
   ·rw[if_neg (λz=>e1 (z.trans e2.symm)),←e2];exact h1
   ·rw[if_neg e2] at h2;have n:a.1≠c.1:=λz=>by
     rw[←z] at h2;have:=R.tr _ _ _ h1 h2;rw[R.irr] at this
     cases this
    rw[if_neg n];exact R.tr _ _ _ h1 h2
 tot a b h:=by
  unfold lexB
  by_cases e:a.1=b.1
  ·rw[if_pos e,if_pos e.symm];exact S.tot _ _ λz=>h (Br e z)
  ·rw[if_neg e,if_neg λz=>e z.symm];exact R.tot _ _ e
theorem STO.int:STO (λa b:Int=>decide (a<b)) where
 irr a:=decide_eq_false (by lia)
 tr a b c h1 h2:=decide_eq_true (by have:=of_decide_eq_true h1;have:=of_decide_eq_true h2;lia)
 tot a b h:=by
  rcases Int.lt_or_gt_of_ne h with h|h
  ·exact .inl (decide_eq_true h)
  ·exact .inr (decide_eq_true h)
abbrev lt2:Int×Int->Int×Int->Bool:=lexB (λa b=>decide (a<b)) (λa b=>decide (a<b))
def sto2:STO lt2:=STO.int.lex STO.int
theorem lex1(a b:Int):HT.lexLt [a] [b]=decide (a<b):=by
 rw[HT.lexLt_cons,HT.lexLt_nil_nil]
 by_cases e:a=b
 ·rw[if_pos e];exact(decide_eq_false (by lia)).symm
 ·rw[if_neg e]
def lex2(a b c d:Int):HT.lexLt [a,b] [c,d]=lt2 (a,b) (c,d):=by
 rw[HT.lexLt_cons,lex1];rfl
end L2
namespace L2
open PySem
theorem hu80{A:uQ}{k:Nat}(hr:zX k A):A.units+80<cLine:=by have:=hu100 hr;lia
noncomputable def WU(st:Stmt):Scope×Pos:=match(yD st).getLast? with
 |some (.Return (some (.Call _ _ (⟨_,.Lambda _ _ sc lp,_⟩::_) _)) _)=>(sc,lp)
 |_=>(zp st,⟨0,0,0,0⟩)
def pi_tupK{X:Cx}{tg l:Expr}{tl:TE}{K':pF}(hK:X.K=K')(hl:PE X l tl):PI X tg l (jk K' tl):=by
 subst hK;exact YU hl
end L2
namespace L2
open PySem PySem.Spec PyProof.Rows
variable{od:Obj}{d:Addr}
section
variable{prog:pi}{w:uR}{A:uQ}{E:pB->pC->Prop}{s:pC}{R:Gq->pC->Prop}
variable{es:Array Bg}{ep:Nat}
def zax(hh:A.handled=none)(I d:Addr)(hne:d≠I)(hdat:od.data=.dict es ep):
  Walks prog w A I [I,d] [I] es.size (λi v=>∃e,es[i]?=some e/\v=e.key) (λi h=>h.IsKeyIter I d i es.size ep/\h.get? d=some od) where
 sub:=λb hb=>by simp at hb;simp[hb]
 frame:=λ_ _ _ st hk=>⟨st.1.at λo e=>hk I (by simp) o e,hk d (by simp) _ st.2⟩
 item:=λi s Q E hi st hQ=>by
  refine zdh st.1 st.2 hdat hi λh' hit' hs'=>?_;exact hQ _ h' s.toks ⟨_,uM hi,rfl⟩ ⟨hit',hs'.extBut d od hne st.2⟩ λb o hb e=>hs'.extBut b o (λh=>hb (by simp[h])) e
 done:=λs Q E st hQ=>za8 hh st.1 st.2 hdat (pJ _) λh' he'=>hQ h' s.toks λb o hb e=>he' b o (λh=>hb (by simp[h])) e
 self:=λ_ _ _ _ st hQ=>wpAny_pyIter_keyiter st.1 hQ
def zd4(hh:A.handled=none)(hd:(d==Qz)=false)(ho:s.heap.get? d=some od)(hc:od.cls=.type "dict")(hdat:od.data=.dict es ep)(S:Addr)(res:pB)(c₀:Nat)(hS:s.heap.get? S=some {cls:=.type "list",data:=.seq #[] c₀})
  (hR:∀h' tk acc' c',(∀b o,b≠S->s.heap.get? b=some o->h'.get? b=some o)->h'.get? S=some {cls:=.type "list",dict:=none,data:=.seq acc' c',slots:=#[]}->
   Hd (λi v=>∃e,es[i]?=some e/\v=e.key) acc' es.size->R (.ok (.ret res)) {s with heap:=h',toks:=tk}) (hn:es.size<=sizeLine):
  wpAny (model prog w) A.in1 (Uk (.ref S) (.ref d) res)
   (λfin s'=>match fin with|.done f=>R (.ok f) s'|.again c'=>c'.quiet=true/\BN (model prog w) A c' R s') (λe s'=>R (.error e) s') s:=by
 have hSd:S≠d:=λe=>by rw[e,ho] at hS;cases hS;cases hdat
 have hSI:S≠s.heap.objs.size:=uF (pb hS);have hdI:d≠s.heap.objs.size:=uF (pb ho);have hSf:S∉[s.heap.objs.size,d]:=λhm=>(pR.mp hm).elim hSI λz=>hSd (pN.mp z);have ty:s.TypeIs (.ref d) "dict":=⟨od,ho,hc⟩;unfold Uk;refine pA (wpAny_typeOf ty ?_);have h1:Dd (.ref S) (.ref d)=false:=by simp[Dd,hSd]
 have h2:(AI "dict"==AI "list")=false:=by decide
 have h3:(AI "dict"==AI "tuple")=false:=by decide
 simp only[h1,h2,h3,HQ,uI,if_false];refine pA (zdn hd ho hc hdat ?_);generalize hit:s.heap.push {cls:=.type "dict_keyiterator",data:=.fields #[.ref d,.int 0 0,.int es.size 0,.int ep 0]}=h1;have k1:∀b o,s.heap.get? b=some o->h1.get? b=some o:=λb o e=>by rw[←hit];exact pH _ e
 have st1:h1.IsKeyIter s.heap.objs.size d 0 es.size ep:=by rw[←hit];exact⟨_,pd _ rfl,rfl,rfl⟩
 have ty1:Shared.TypeIs {s with heap:=h1} (.ref d) "dict":=⟨od,k1 _ _ ho,hc⟩;refine pA (UR ?_);unfold Builtin.List.listLengthHint;refine pA (Ak ty1 PySem.F.slot_dict_len.lookup ?_)
 wp_delta
 refine pA (gW ty1 (b:=true) (by rw[uL];kernel_rfl) ?_)
 show wpAny _ _ (Ed (uw d)>>=_) _ _ _
 refine pA (wpAny_typeOf ty1 ?_);refine pK ?_;rw[if_pos (by decide)]
 refine pA (UI ?_);refine pA ?_;show wpAny _ _ (HY S (·.push .none)>>=λ_=>HY S (·.pop)) _ _ _;have hS₁:=k1 _ _ hS;refine pA (AB hS₁ rfl ?_);have hS₂:=Qn (uB (·.push ut)) hS₁ rfl;refine AB (hz:=by seq_fits) hS₂ rfl ?_
 have hS₃:=Qn (uB (·.pop)) hS₂ rfl;have oth:∀b o,b≠S->h1.get? b=some o->((h1.update S (uB (·.push ut))).update S (uB (·.pop))).get? b=some o:=
  λb o hb e=>(QV _ _ (gQ hb)).trans ((QV _ _ (gQ hb)).trans e)
 refine pK ⟨An F.plain_extend_loop _,codeAny_extend_loopS (zax (A:=A.in1) hh s.heap.objs.size d hdI hdat).toS hn _ hSf _ es.size 0 _ _ _ rfl (uJ _) ⟨st1.at λo e=>oth _ o (gQ hSI) e,oth _ _ (gQ hSd) (k1 _ _ ho)⟩ hS₃ (ItemsOf.nil _) λs' acc' c' hm hS' hacc=>?_⟩;rw[Moved.eq_with hm];refine hR s'.heap s'.toks acc' c' (λb ob hb e=>hm.heap b ob (λhmem=>?_) (oth b ob hb (k1 _ _ e))) hS' hacc;rcases pR.mp hmem with e'|hmem
 ·exact hb e'
 ·exact absurd (pb e) (by rw[pN.mp hmem];exact Ul _)
def zf7(hh:A.handled=none)(hd:(d==Qz)=false)(ho:s.heap.get? d=some od)(hc:od.cls=.type "dict")(hdat:od.data=.dict es ep)(S:Addr)(hS:s.heap.get? S=some {cls:=.type "list",data:=.seq #[]})
  (hR:∀h' tk acc' c',(∀b o,b≠S->s.heap.get? b=some o->h'.get? b=some o)->h'.get? S=some {cls:=.type "list",dict:=none,data:=.seq acc' c',slots:=#[]}->
   Hd (λi v=>∃e,es[i]?=some e/\v=e.key) acc' es.size->R (.ok (.ret .none)) {s with heap:=h',toks:=tk}) (hn:es.size<=sizeLine):
  wpAny (model prog w) A.in1 (Av.«list.__init__» ⟨[.ref S,.ref d],[]⟩)
   (λfin s'=>match fin with|.done f=>R (.ok f) s'|.again c'=>c'.quiet=true/\BN (model prog w) A c' R s') (λe s'=>R (.error e) s') s:=by
 have hSd:S≠d:=λe=>by rw[e,ho] at hS;cases hS;cases hdat
 show wpAny _ _ (do let old ←EJ (.ref S);Builtin.List.listUpdate (.ref S) (λ_=>#[]);letGo old.toList.reverse;Uk (.ref S) (.ref d) .none) _ _ s
 refine pA ?_;unfold EJ;refine pA (Qt hS rfl (pK ?_));show wpAny _ _ (HY S (λ_=>#[])>>=λ_=>letGo (#[]:Array pB).toList.reverse>>=λ_=>Uk (.ref S) (.ref d) .none) _ _ s;refine pA (AB hS rfl ?_);have hS₂:=Qn (uB (λ_=>(#[]:Array pB))) hS rfl;have oth:∀b o,b≠S->s.heap.get? b=some o->(s.heap.update S (uB (λ_=>(#[]:Array pB)))).get? b=some o:=
  λb o hb e=>(QV _ _ (gQ hb)).trans e
 refine pA (Aa ?_);refine zd4 hh hd (oth d _ (gQ hSd) ho) hc hdat S .none _ hS₂ (λh' tk acc' c' hk hS' hacc=>?_) hn;exact hR h' tk acc' c' (λb o hb e=>hk b o hb (oth b o hb e)) hS' hacc
def Ww{Q:pB->pC->Prop}(hh:A.handled=none)(hd:(d==Qz)=false)(ho:s.heap.get? d=some od)(hc:od.cls=.type "dict")(hdat:od.data=.dict es ep)
  (hQ:∀h' tk acc' c',(∀b o,s.heap.get? b=some o->h'.get? b=some o)->h'.get? s.heap.objs.size=some {cls:=.type "list",dict:=none,data:=.seq acc' c',slots:=#[]}->
   Hd (λi v=>∃e,es[i]?=some e/\v=e.key) acc' es.size->Q (.ref s.heap.objs.size) {s with heap:=h',toks:=tk}) (hn:es.size<=sizeLine):
  wpAny (model prog w) A (call (.type "list") [.ref d]) Q E s:=by
 refine callType_codes (Q₁:=λobj s₁=>obj=.ref s.heap.objs.size/\s₁={s with heap:=s.heap.push {cls:=.type "list",data:=.seq #[]}}) PySem.F.called_list (PySem.F.typeCall_list_1 _) PySem.F.entry_list_init
  (code_list_new _ ⟨rfl,rfl⟩) λobj s₁ h₁=>?_
 obtain⟨rfl,rfl⟩:=h₁;have hS:(s.heap.push {cls:=.type "list",data:=.seq #[]}).get? s.heap.objs.size=some {cls:=.type "list",data:=.seq #[]}:=pd _ rfl;refine⟨⟨_,hS,rfl⟩,PySem.F.args_list_init_2 _ _,zf7 (A:=A.in1) hh hd (pH _ ho) hc hdat _ hS (λh' tk acc' c' hk hS' hacc=>?_) hn⟩;exact⟨rfl,hQ h' tk acc' c' (λb o e=>hk b o (uF (pb e)) (pH _ e)) hS' hacc⟩
end
section
variable{X:Cx}
def Wr:List V->Hp->VK->Prop:=λxs H Q=>∃d kvs,xs=[.ref d]/\H d=some (.dT kvs)/\∀(bs:List Addr) l,bs.length=kvs.length->(∀(j:Nat)(b:Addr)(kv:List Key×V),bs[j]?=some b->kvs[j]?=some kv->H b=some (.tup (kv.1.map kV)))->H l=none->Q (.ref l) (upd H l (.lst (bs.map .ref)))
theorem VA{f:List Addr}:∀{acc:List pB},acc=f.map uw->zn (f.map V.ref) acc:=by
 intro acc e;subst e
 induction f with
 |nil=>exact .nil
 |cons a f ih=>exact .cons rfl ih
theorem VG(hc:X.calm=true):yC X (.type "list") Wr:=by
 intro pins s σ H xs us Q I r h;obtain⟨d,kvs,rfl,e,q⟩:=h;obtain⟨u,rfl,rx⟩:=vals1 r
 cases rx;obtain⟨z,hd,xs,rel,o,es,ep,ho,hx,hdat,he,_⟩:=I.hok d _ e;have hk:es.toList.map (·.key)=(xs.map λq=>q.2.1).map uw:=by
  rw[he,UD,UD];rfl
 have lb:(xs.map λq=>q.2.1).length=kvs.length:=by rw[pL];exact(CM rel).symm
 have ls:es.size=kvs.length:=by
  have:=congrArg AZ hk;rw[pL,pL,lb] at this
  simpa using this
 refine Ww (I.ok.hd hc) hd ho hx.1 hdat (λh' tk acc' c' kp hS hacc=>?_) (by lia)
 have ea:acc'.toList=(xs.map λq=>q.2.1).map uw:=by
  rw[←hk];refine Aq λj=>?_;rw[pQ,ui,ui];have ha:acc'.size=es.size:=hacc.1
  by_cases hj:j<es.size
  ·have hj':j<acc'.size:=by lia
   obtain⟨e,e1,e2⟩:=hacc.2 j acc'[j] (uM hj');rw[uM hj',e1,e2];rfl
  ·rw[UT (by lia),UT (by lia)]
   rfl
 refine⟨.ref s.heap.objs.size,_,I.laid (t':=tk) kp (pJ _) (o:=.lst ((xs.map λq=>q.2.1).map .ref)) ⟨by rw[pL,lb];exact z,acc'.toList,c',VA ea,by simpa using hS⟩,rfl,q _ _ lb (Vw rel) (I.hok.fresh (pJ _))⟩
end
namespace RV
end RV
section
variable{prog:pi}{w:uR}{K:Type}[DecidableEq K](knd:KeyKind prog w K)
inductive xD(h:Heap):List (List K)->List pB->Prop
 |nil:xD h [] []
 |cons {k:List K} {b:Addr} {ks:List (List K)} {vs:List pB}:IsTupleKey knd h k b->xD h ks vs->xD h (k::ks) (.ref b::vs)
def y9(h:Heap)(ks:List (List K))(a:Addr):Prop:=∃o items n,h.get? a=some o/\o.cls=.type "tuple"/\o.data=.seq items n/\xD knd h ks items.toList
variable{knd}
variable{h:Heap}
theorem xD.inj{x y:List (List K)}{vs:List pB}(hx:xD knd h x vs)(hy:xD knd h y vs):x=y:=by
 induction hx generalizing y with
 |nil=>cases hy;rfl
 |cons h1 _ ih=>
  cases hy with
  |cons h2 t2=>rw[h1.inj h2,ih t2]
variable{a:Addr}
def y9.typeIs{s:pC}{ks:List (List K)}(x:y9 knd s.heap ks a):s.TypeIs (.ref a) "tuple":=let⟨o,_,_,ho,hc,_⟩:=x;⟨o,ho,hc⟩
def y9.inj{x y:List (List K)}(hx:y9 knd h x a)(hy:y9 knd h y a):x=y:=by
 obtain⟨o,items,n,ho,_,hd,hi⟩:=hx;obtain⟨o',items',n',ho',_,hd',hi'⟩:=hy;obtain rfl:o=o':=uN (ho.symm.trans ho');rw[hd] at hd'
 injection hd' with h1 _
 subst h1;exact hi.inj hi'
theorem y9.keeps{h':Heap}{ks:List (List K)}{o:Obj}{es ep}(x:y9 knd h ks a)(ho:h.get? d=some o)(hd:o.data=.dict es ep)(hs:Ac d h h'):y9 knd h' ks a:=by
 obtain⟨o',items,n,ho',hc,hd',hi⟩:=x;have hne:a≠d:=by
  rintro rfl;obtain rfl:o'=o:=uN (ho'.symm.trans ho);rw[hd] at hd';exact nomatch hd'
 refine⟨o',items,n,(hs.2 a hne).trans ho',hc,hd',?_⟩;generalize items.toList=vs at hi
 induction hi with
 |nil=>exact .nil
 |cons h1 _ ih=>exact .cons (h1.keeps ho hd hs) ih
noncomputable def WG(knd:KeyKind prog w K)(ks:List (List K)):Int:=reduceHash (UV (ks.map (Bt knd)))
noncomputable def vj(ks:List (List K)):Nat:=(ks.map λk=>k.length+1).sum
variable{A:uQ}{E:pB->pC->Prop}{s:pC}
theorem ze3{ks:List (List K)}{Q:Int->pC->Prop}(hu:A.units+2<cLine)(hk:y9 knd s.heap ks a)(h:Q (WG knd ks) {s with toks:=s.toks+(vj ks+1)}):
  wpAny (model prog w) A (pyHash (.ref a)) Q E s:=by
 have hT:=hk.typeIs;obtain⟨o,items,n,ho,_,hd,hi⟩:=hk;unfold pyHash
 first|unfold pyHashByItsType|skip
 first|refine pA (wpAny_cRoomFor_or (.inr (by lia)) ?_)|skip
 refine pA (Ak hT AW.lookup ?_);show wpAny _ _ (if(some (Value.builtin "tuple.__hash__")==some ut)=true then _ else _) Q E s;rw[if_neg (by rw[beq_builtin_none];exact uH)]
 refine pA (Ak hT AW.lookup ?_);show wpAny _ _ (callSpecialIfBoundUnlessNone? (.ref a) "__hash__" _>>=_) Q E s;refine pA (wpAny_callSpecialIfBoundUnlessNone?_slot hT AW (Uh AW hT PySem.F.entry_tuple_hash ?_ (PySem.F.args_tuple_hash_1 _)));show wpAny _ _ (Builtin.Tuple.tupleItemsOf (.ref a)>>=_) _ _ s;refine pA (DD ho hd ?_);refine pA ?_;rw[←DE];refine AR _
  (λrest(b:Array Int) s'=>∃done left,ks=done++left/\xD knd s.heap left rest/\b.toList=done.map (Bt knd)/\s'={s with toks:=s.toks+vj done})
  _ ?_ ?_ _ _ ⟨[],ks,rfl,hi,rfl,rfl⟩
 ·rintro x rest b s' ⟨done,left,rfl,hl,hb,rfl⟩
  cases hl with
  |@cons k b' ks' _ h1 hl'=>
   refine pA ((Bc knd).pyHash (k:=k) (Ai (by lia)) h1 ?_)
   have e:vj (done++[k])=vj done+(k.length+1):=by simp[vj]
   have eh:∀t,({({s with toks:=s.toks+vj done}:pC) with toks:=t}:pC)={s with toks:=t}:=λ_=>rfl
   first
    |exact pK ⟨done++[k],ks',by simp,hl',by simp[hb,Bc],by rw[e,←BK];rfl⟩
    |exact pA (pK (pK ⟨done++[k],ks',by simp,hl',by simp[hb,Bc],by rw[e,←BK];rfl⟩))
 ·rintro b s' ⟨done,left,rfl,hl,hb,rfl⟩
  cases hl;rw[UF] at h;show wpAny _ _ (retInt (UV b.toList)) _ _ _;rw[hb];refine wpAny_ret_mkInt ?_;show wpAny _ _ (if(decide (-(2:Int)^63<=UV (done.map (Bt knd)))&&decide (UV (done.map (Bt knd))<2^63))=true then _ else _) Q E _;unfold WG reduceHash at h
  by_cases hr:(decide (-(2:Int)^63<=UV (done.map (Bt knd)))&&decide (UV (done.map (Bt knd))<2^63))=true
  ·rw[if_pos hr];rw[if_pos hr] at h;exact pK (by simpa[BK] using h)
  ·rw[if_neg hr];rw[if_neg hr] at h;exact pA (UI (pK (by simpa[BK] using h)))
theorem zaq{x y:List (List K)}{b:Addr}{P:gJ->pC->Prop}(hu:A.units<cLine)(hx:y9 knd s.heap x a)(hy:y9 knd s.heap y b)(h:P (.done (.ret (.bool (decide (x=y))))) s):
  wpAny (model prog w) A (Av.«tuple.__eq__» ⟨[.ref a,.ref b],[]⟩) P E s:=by
 have hTb:=hy.typeIs;obtain⟨oa,xs,na,hoa,_,hda,hia⟩:=hx;obtain⟨ob,ys,nb,hob,_,hdb,hib⟩:=hy;show wpAny _ _ (FP (.ref b) (.type "tuple")>>=_) _ _ s;refine pA (gW hTb CH ?_);simp only[Uz,uI,if_false];refine pA (DD hoa hda ?_);refine pA (DD hob hdb ?_);refine pA ?_;refine AR _
  (λrest r s'=>r.1=none/\s'=s/\∃x' y' xs' ys',rest=List.zip xs' ys'/\xD knd s.heap x' xs'/\xD knd s.heap y' ys'/\decide (x'=y')=decide (x=y)/\(xs'.length==ys'.length)=(xs.size==ys.size))
  _ ?_ ?_ _ _ ⟨rfl,rfl,x,y,xs.toList,ys.toList,rfl,hia,hib,rfl,by simp⟩
 ·rintro⟨u,v⟩ rest r s' ⟨hr,rfl,x',y',xs',ys',hz,hx',hy',hdec,hlen⟩
  cases hx' with
  |nil=>simp at hz
  |@cons k1 u' x'' xs'' h1 hx''=>
   cases hy' with
   |nil=>simp at hz
   |@cons k2 v' y'' ys'' h2 hy''=>
    simp only[Ag,BQ,FJ] at hz;obtain⟨⟨rfl,rfl⟩,rfl⟩:=hz;refine pA ((Bc knd).eqBool (x:=k1) (y:=k2) hu h1 h2 ?_)
    by_cases hk:k1=k2
    ·subst hk;rw[decide_eq_true rfl];simp only[Uz,uI,if_false];refine pK ⟨rfl,rfl,x'',y'',xs'',ys'',rfl,hx'',hy'',?_,by simpa using hlen⟩
     rw[←hdec]
     by_cases hxy:x''=y''
     ·simp[hxy]
     ·simp[hxy]
    ·rw[decide_eq_false hk];simp only[Bu,if_true];have hf:decide (x=y)=false:=by rw[←hdec];simp[hk]
     rw[hf] at h;exact pA (pK (pK (pK h)))
 ·rintro⟨r1,r2⟩ s' ⟨hr,rfl,x',y',xs',ys',hz,hx',hy',hdec,hlen⟩
  simp only at hr
  subst hr;refine pK ?_;have hfin:(xs.size==ys.size)=decide (x=y):=by
   rw[←hdec,←hlen]
   cases hx' with
   |nil=>
    cases hy' with
    |nil=>simp
    |cons _ _=>simp
   |cons _ _=>
    cases hy' with
    |nil=>simp
    |cons _ _=>simp at hz
  show P (.done (.ret (.bool (xs.size==ys.size)))) s'
  rw[hfin];exact h
variable{Q:Bool->pC->Prop}
theorem ze1{x y:List (List K)}{b:Addr}(hu:A.units+2<cLine)(hx:y9 knd s.heap x a)(hy:y9 knd s.heap y b)(h:Q (decide (x=y)) s):
  wpAny (model prog w) A (eqBool (.ref a) (.ref b)) Q E s:=by
 unfold eqBool
 try with_reducible refine UR ?_
 show wpAny _ _ (if(uw a==uw b)=true then _ else _) Q E s
 by_cases hab:(uw a==uw b)=true
 ·rw[if_pos hab];have e:a=b:=by have:=GH hab;injection this
  subst e;obtain rfl:=hx.inj hy;exact pA (UI (pK (by simpa using h)))
 ·rw[if_neg hab];exact pA (wpAny_richCompare_same_room (op:=.Eq) hx.typeIs hy.typeIs Ap
   (Uh Ap hx.typeIs PySem.F.entry_tuple_eq (zaq (Ai (knd:=knd) (by lia)) hx hy ⟨_,rfl,(λe=>nomatch e),Uo h⟩) (PySem.F.args_tuple_eq_2 _ _)) (by lia))
def zev(n:Nat){ks:List K}(hk:IsTupleKey knd s.heap ks a)(h:Q true s):wpAny (model prog w) A (GI (n+1) (.ref a)) Q E s:=by
 have hT:=hk.typeIs;obtain⟨o,items,m,ho,_,hd,hi⟩:=hk;unfold GI;refine pA (Ak hT Ap.lookup ?_);show wpAny _ _ (FP (.ref a) (.type "tuple")>>=_) _ _ s;refine pA (gW hT CH ?_);simp only[Uz,uI,if_false];refine pA (Qt ho hd ?_);refine pA ?_;show wpAny _ _ (forIn items _ _) _ _ s;rw[←DE];refine AR _ (λrest r s'=>r.1=none/\s'=s/\∀v∈rest,carriedByValue v=true) _ ?_ ?_ _ _ ⟨rfl,rfl,hi.byValue⟩
 ·rintro v rest r s' ⟨hr,rfl,hall⟩;rw[eqIsQuiet_byValue _ (hall v pX)];refine pA (pK ?_);simp only[Uz,uI,if_false];exact pK ⟨rfl,rfl,λu hu'=>hall u (pY _ hu')⟩
 ·rintro⟨r1,r2⟩ s' ⟨hr,rfl,_⟩
  simp only at hr
  subst hr;exact pK h
theorem zcb{ks:List (List K)}(hk:y9 knd s.heap ks a)(h:Q true s):wpAny (model prog w) A (GI 8 (.ref a)) Q E s:=by
 have hT:=hk.typeIs;obtain⟨o,items,n,ho,_,hd,hi⟩:=hk;unfold GI;refine pA (Ak hT Ap.lookup ?_);show wpAny _ _ (FP (.ref a) (.type "tuple")>>=_) _ _ s;refine pA (gW hT CH ?_);simp only[Uz,uI,if_false];refine pA (Qt ho hd ?_);refine pA ?_;show wpAny _ _ (forIn items _ _) _ _ s;rw[←DE];refine AR _ (λrest r s'=>r.1=none/\s'=s/\∃left,xD knd s.heap left rest) _ ?_ ?_ _ _ ⟨rfl,rfl,ks,hi⟩
 ·rintro v rest r s' ⟨hr,rfl,left,hl⟩
  cases hl with
  |@cons k b ks' _ h1 hl'=>
   refine pA (zev 6 h1 ?_);simp only[Uz,uI,if_false];exact pK ⟨rfl,rfl,ks',hl'⟩
 ·rintro⟨r1,r2⟩ s' ⟨hr,rfl,_⟩
  simp only at hr
  subst hr;exact pK h
end
noncomputable def vG{prog:pi}{w:uR}{K:Type}[DecidableEq K](knd:KeyKind prog w K):HeapKind prog w (List (List K)) where
 is:=y9 knd
 hash:=WG knd
 draws:=λks=>vj ks+1
 room:=λA=>A.units+2<cLine
 inj:=λhx hy=>hx.inj hy
 keeps:=λx ho hd hs=>x.keeps ho hd hs
 pyHash:=λhu hk h=>ze3 hu hk h
 eqBool:=λhu hx hy h=>ze1 hu hx hy h
 quiet:=λhk h=>zcb hk h
theorem Vg{prog:pi}{w:uR}{K:Type}[DecidableEq K]{knd:KeyKind prog w K}{A:uQ}(hu:A.units+3<cLine):(vG knd).room A.in1:=by
 show A.in1.units+2<cLine
 simp
 lia
abbrev K2:=List (List Key)
def NK(H:Hp)(b:Addr)(ks:K2):Prop:=∃cs:List Addr,H b=some (.tup (cs.map V.ref))/\Dx (λ(c:Addr)(k:List Key)=>H c=some (.tup (k.map kV))) cs ks
def NK.ts{H H':Hp}{b:Addr}{ks:K2}(h:NK H b ks)(g:∀b xs,H b=some (.tup xs)->H' b=some (.tup xs)):NK H' b ks:=by
 obtain⟨cs,h1,h2⟩:=h;exact⟨cs,g _ _ h1,Paired.mapP h2 λ_ _ z=>g _ _ z⟩
def NK.two{H:Hp}{b c:Addr}{k l:List Key}(h:H b=some (.tup [.ref c,.ref d]))(h1:H c=some (.tup (k.map kV)))(h2:H d=some (.tup (l.map kV))):NK H b [k,l]:=⟨[c,d],h,.cons h1 (.cons h2 .nil)⟩
variable{its:List pB}
section
variable{P:pi}{w:uR}{H:Hp}{h:Heap}{a b:Addr}
theorem zdv{cs:List Addr}{ks:K2}(ok:HOk P w H h)(r:zn (cs.map V.ref) its)(p:Dx (λ(c:Addr)(k:List Key)=>H c=some (.tup (k.map kV))) cs ks):xD (yG P w) h ks its:=by
 induction p generalizing its with
 |nil=>cases r;exact .nil
 |@cons c k cs ks h1 _ ih=>
  rw[pj] at r
  cases r with
  |cons r1 r2=>
   cases r1;exact .cons (jD ok h1) (ih r2)
def Xi{ks:K2}(ok:HOk P w H h)(e:NK H b ks):(vG (yG P w)).is h ks b:=by
 obtain⟨cs,e1,e2⟩:=e;obtain⟨_,its,r,o,h1,h2,n,h3⟩:=(show yf P w H h b (.tup (cs.map V.ref)) from ok b _ e1);exact⟨o,its.toArray,n,h1,h2,h3,by simpa using zdv ok r e2⟩
end
abbrev N3:=K2×Addr×V
def KNp:List N3->List (K2×Addr×pB)->Prop:=Dx λp q=>p.1=q.1/\p.2.1=q.2.1/\zm p.2.2 q.2.2
noncomputable def nD(P:pi)(w:uR)(a:Addr)(kvs:List N3):HO:=.ext λh=>(a==Qz)=false/\kvs.length<=sizeLine/\(kvs.map (·.1)).Nodup/\∃xs,KNp kvs xs/\∃o es ep,h.get? a=some o/\o.ExactDict/\o.data=.dict es ep/\es.toList=xs.map (Gk (vG (yG P w)))
def KN(H:Hp)(kvs:List N3):Prop:=∀p,p∈kvs->NK H p.2.1 p.1
def KN.ts{H H':Hp}{kvs:List N3}(h:KN H kvs)(g:∀b xs,H b=some (.tup xs)->H' b=some (.tup xs)):KN H' kvs:=λp hp=>(h p hp).ts g
noncomputable def yx(kvs:List N3)(k:K2):Option V:=(kvs.find? λkv=>decide (kv.1=k)).map (·.2.2)
noncomputable def yM(kvs:List N3)(k:K2)(b:Addr)(v:V):List N3:=if(yx kvs k).isSome=true then kvs.map (λkv=>if kv.1=k then(kv.1,kv.2.1,v) else kv) else kvs++[(k,b,v)]
variable{r:List N3}
def Jm{p:N3}{k:K2}(e:p.1=k):yx (p::r) k=some p.2.2:=by simp[yx,Uc,e]
def Z7{p:N3}{k:K2}(e:¬p.1=k):yx (p::r) k=yx r k:=by simp[yx,Uc,e]
theorem YC{kvs:List N3}{k:K2}:(yx kvs k).isSome=true↔k∈kvs.map (·.1):=by
 induction kvs with
 |nil=>simp[yx]
 |cons p r ih=>
  by_cases e:p.1=k
  ·rw[Jm e];simp[e]
  ·rw[Z7 e,ih,pj,pR];exact⟨.inr,λh=>h.elim (λz=>absurd z.symm e) id⟩
theorem Z1(kvs:List N3)(k:K2)(b:Addr)(v:V):(yM kvs k b v).length<=kvs.length+1:=by
 unfold yM
 split
 ·rw[pL];lia
 ·simp
def ze8(kvs:List N3)(k:K2)(b:Addr)(v:V):(yM kvs k b v).map (·.1)=if(yx kvs k).isSome=true then kvs.map (·.1) else kvs.map (·.1)++[k]:=by
 unfold yM
 split
 ·rw[UD];refine BC λkv _=>?_;show(if kv.1=k then(kv.1,kv.2.1,v) else kv).1=kv.1
  split<;>rfl
 ·simp
theorem Vo{kvs:List N3}{k:K2}{b:Addr}{v:V}(h:(kvs.map (·.1)).Nodup):((yM kvs k b v).map (·.1)).Nodup:=by
 rw[ze8]
 split
 ·exact h
 ·rename_i n
  refine gL.mpr ⟨h,Ui _ _,λx hx y hy e=>?_⟩;rw[pN.mp hy] at e;subst e;exact n (YC.mpr hx)
def KN.put{H:Hp}{kvs:List N3}{k:K2}{b:Addr}{v:V}(h:KN H kvs)(hb:NK H b k):KN H (yM kvs k b v):=by
 unfold yM
 split
 ·intro p hp;obtain⟨q,hq,e⟩:=uG.mp hp;have:=h q hq;rw[←e]
  split
  ·exact this
  ·exact this
 ·intro p hp;rcases pP.mp hp with hp|hp
  ·exact h p hp
  ·rw[pN.mp hp];exact hb
theorem KNp.val{kvs:List N3}{xs:List (K2×Addr×pB)}(r:KNp kvs xs)(k:K2):xP (yx kvs k) ((atKey xs k).map (·.2)):=by
 unfold KNp at r
 induction r with
 |nil=>exact DB
 |@cons p q ps qs h t ih=>
  obtain⟨h1,_,h2⟩:=h
  by_cases e:p.1=k
  ·have e':q.1=k:=h1.symm.trans e;have b:atKey (q::qs) k=some q.2:=by simp[atKey,Uc,e']
   rw[Jm e,b];exact h2
  ·have e':¬q.1=k:=λz=>e (h1.trans z);have b:atKey (q::qs) k=atKey qs k:=by simp[atKey,Uc,e']
   rw[Z7 e,b];exact ih
theorem KNp.put{kvs:List N3}{xs:List (K2×Addr×pB)}(r:KNp kvs xs)(k:K2){b:Addr}{y:V}{u:pB}(ry:zm y u):KNp (yM kvs k b y) (Fj xs k b u):=by
 have e:(yx kvs k).isSome=(atKey xs k).isSome:=by rw[(r.val k).isSome_eq,DU]
 unfold yM Fj;rw[e]
 by_cases q:(atKey xs k).isSome=true
 ·rw[if_pos q,if_pos q];unfold KNp at*;clear e q
  induction r with
  |nil=>exact .nil
  |@cons p q ps qs h t ih=>
   rw[pj,pj];refine .cons ?_ ih;obtain⟨h1,h2,h3⟩:=h;unfold putAt
   by_cases e:p.1=k
   ·rw[if_pos e,if_pos (h1.symm.trans e)];exact⟨h1,h2,ry⟩
   ·rw[if_neg e,if_neg (λz=>e (h1.trans z))];exact⟨h1,h2,h3⟩
 ·rw[if_neg q,if_neg q];exact GU r ⟨rfl,rfl,ry⟩
theorem KNp.keys{kvs:List N3}{xs:List (K2×Addr×pB)}(r:KNp kvs xs):xs.map (·.1)=kvs.map (·.1)/\xs.map (λq=>q.2.1)=kvs.map (λp=>p.2.1):=by
 unfold KNp at r
 induction r with
 |nil=>exact⟨rfl,rfl⟩
 |cons h _ ih=>rw[pj,pj,pj,pj,ih.1,ih.2,h.1,h.2.1];exact⟨rfl,rfl⟩
section
variable{P:pi}{w:uR}{H:Hp}{h:Heap}{a:Addr}{kvs:List N3}
theorem nd_rd(ok:HOk P w H h)(e:Rd H a (nD P w a kvs))(kn:KN H kvs):kvs.length<=sizeLine/\(a==Qz)=false/\∃xs,KNp kvs xs/\h.DictOfH (vG (yG P w)) a xs:=by
 obtain⟨⟨hd,z,nd,xs,r,o,es,ep,h1,h2,h3,h4⟩,_⟩:=(show yf P w H h a (nD P w a kvs) from e.ok ok);refine⟨z,hd,xs,r,o,es,ep,h1,h2,h3,h4,λx hx=>?_,by rw[r.keys.1];exact nd⟩
 have all:∀{l:List N3}{m:List (K2×Addr×pB)},KNp l m->(∀p,p∈l->NK H p.2.1 p.1)->∀x∈m,(vG (yG P w)).is h x.1 x.2.1:=by
  intro l m q;unfold KNp at q
  induction q with
  |nil=>intro _ x hx;exact nomatch hx
  |@cons p q ps qs hq t ih=>
   intro hl x hx;rcases pR.mp hx with e|hx
   ·subst e;rw[←hq.1,←hq.2.1];exact Xi ok (hl p (by simp))
   ·exact ih (λp hp=>hl p (pY _ hp)) x hx
 exact all r kn x hx
def nd_ok{H':Hp}{h':Heap}{xs:List (K2×Addr×pB)}(z:kvs.length<=sizeLine)(hd:(a==Qz)=false)(nd:(kvs.map (·.1)).Nodup)(r:KNp kvs xs)(dd:h'.DictOfH (vG (yG P w)) a xs):yf P w H' h' a (nD P w a kvs):=by
 obtain⟨o,es,ep,h1,h2,h3,h4,_⟩:=dd;refine⟨⟨hd,z,nd,xs,r,o,es,ep,h1,h2,h3,h4⟩,⟨o,h1⟩,?_⟩;rintro k1 k2 ⟨hd,z,nd,xs,r,o,es,ep,h1,h2,h3,h4⟩ k;exact⟨hd,z,nd,xs,r,o,es,ep,k _ h1,h2,h3,h4⟩
end
def tNNew(P:pi)(w:uR):TE:=λ_ H Q=>∀p,H p=none->Q (.ref p) (upd H p (nD P w p []))
section
variable{X:Cx}{P:pi}{w:uR}{o i e value:Expr}{pos pos' tpos:Pos}{td ty tv:TE}
def pe_nnew(hP:X.prog=P)(hw:X.w=w):PE X (.Dict [] [] pos) (tNNew P w):=λpins s σ H Q I h=>by
 subst hP hw;exact Dr ⟨.ref s.heap.objs.size,_,I.laid (a:=s.heap.objs.size) (o:=nD X.prog X.w s.heap.objs.size []) (t':=s.toks) (λ_ _ q=>pH _ q) (pJ _)
  (nd_ok (uJ _) (beq_eq_false_iff_ne.mpr (gQ (uF I.big))) At .nil (Heap.DictOfH.new s.heap)),rfl,h _ (I.hok.fresh (pJ _))⟩
end
noncomputable def gallop':Bool->pW->Array pW->Nat->Nat->Nat->StateT QF Sem (Option Nat):=sortPriv%PySem.Builtin.gallop
noncomputable def mergeLo':Array pW->Array pW->StateT QF Sem (Array pW):=sortPriv%PySem.Builtin.mergeLo
noncomputable def mergeHi':Array pW->Array pW->StateT QF Sem (Array pW):=sortPriv%PySem.Builtin.mergeHi
section
variable{prog:pi}{w:uR}{A:uQ}{E:pB->pC->Prop}{s:pC}{a₀:Array pW}{κ:UM}
def yz{arr:Array pW}{i:Nat}{st:QF}{Q:pW->QF->Prop}(h:i<arr.size)(q:Q arr[i] st):wpS (model prog w) A E s (elem' arr i) Q st:=by
 rw[elem'_eq,uM h];exact pU q
end
section
variable{σ α:Type}{M:Model}{A:uQ}{E:pB->pC->Prop}{s:pC}{p q:StateT σ Sem α}{Q:α->σ->Prop}{st:σ}
theorem vc{c:Prop}{_:Decidable c}(h1:wpS M A E s p Q st)(h2:wpS M A E s q Q st):wpS M A E s (if c then p else q) Q st:=by split<;>assumption
def wjp{β:Type}{p:StateT σ Sem α}(j:Unit->β->StateT σ Sem α)(P:β->Prop)(f:∀o,P o->wpS M A E s (j () o) Q st)(h:(∀o,P o->wpS M A E s (j () o) Q st)->wpS M A E s p Q st):wpS M A E s p Q st:=h f
def wjq{β γ:Type}{p:StateT σ Sem α}(j:Unit->β->γ->StateT σ Sem α)(P:β->γ->Prop)(f:∀o x,P o x->wpS M A E s (j () o x) Q st)(h:(∀o x,P o x->wpS M A E s (j () o x) Q st)->wpS M A E s p Q st):wpS M A E s p Q st:=h f
end
section
variable{prog:pi}{w:uR}{A:uQ}{E:pB->pC->Prop}{s:pC}{a₀:Array pW}{κ:UM}
def Prm(a b out:Array pW)(ia ib:Nat):Prop:=(out.toList++(a.toList.drop ia++b.toList.drop ib)).Perm (a.toList++b.toList)/\ia<=a.size/\ib<=b.size
def y7(a:Array pW)(i j:Nat):(a.extract i j).toList=(a.toList.drop i).take (j-i):=by simp
theorem wV(a:Array pW)(i:Nat):(a.extract i).toList=a.toList.drop i:=by
 rw[y7];exact pz (by rw[pg,pT];lia)
def wd(a:Array pW)(i k:Nat):(a.extract i (i+k)).toList=(a.toList.drop i).take k:=by rw[y7,Nat.add_sub_cancel_left]
variable{a b out:Array pW}{ia ib:Nat}
def zch(h:Prm a b out ia ib):(out++a.extract ia++b.extract ib).toList.Perm (a.toList++b.toList):=by
 rw[uA,uA,wV,wV,uS];exact h.1
def zar(h:Prm a b out ia ib):(out++b.extract ib++a.extract ia).toList.Perm (a.toList++b.toList):=by
 rw[uA,uA,wV,wV,uS];exact(Qo _ gr).trans h.1
def prm_b(h:Prm a b out ia ib)(k:Nat)(hk:ib+k<=b.size):Prm a b (out++b.extract ib (ib+k)) ia (ib+k):=by
 refine⟨?_,h.2.1,hk⟩;rw[uA,wd,uS];refine(Qo _ ?_).trans h.1;have e2:b.toList.drop ib=(b.toList.drop ib).take k++b.toList.drop (ib+k):=by rw[←gE,QN]
 generalize b.toList.drop (ib+k)=t at*;generalize (b.toList.drop ib).take k=u at*;rw[e2,←uS,←uS];exact List.perm_append_comm.append_right _
def prm_a(h:Prm a b out ia ib)(k:Nat)(hk:ia+k<=a.size):Prm a b (out++a.extract ia (ia+k)) (ia+k) ib:=by
 refine⟨?_,hk,h.2.2⟩;rw[uA,wd,uS,←uS ((a.toList.drop ia).take k),←gE,QN];exact h.1
def qC(out a:Array pW)(i:Nat)(h:i<a.size):out.push a[i]=out++a.extract i (i+1):=by
 apply CK.mp
 rw[uA,wd,DV]
 congr 1
 have h':i<a.toList.length:=by simpa using h
 rw[Qg h']
 simp
def prm_b1(h:Prm a b out ia ib)(hk:ib<b.size):Prm a b (out.push b[ib]) ia (ib+1):=by rw[qC];exact prm_b h 1 hk
def prm_0(hb:0<b.size):Prm a b #[b[0]] 0 1:=by
 have h:Prm a b #[] 0 0:=⟨by simp,uJ _,uJ _⟩
 exact prm_b1 h hb
abbrev gSt(st:QF)(g:Nat):QF:=FQ (kindOf st) (arrOf st) (uE st) g (BG st)
section
variable{M:Model}{α β γ δ ε:Type}{st:QF}{R:Array pW->Prop}
abbrev LI(st:QF)(P:α->β->γ->Prop)(c:Option (Array pW)×α×β×γ×δ)(t:QF):Prop:=(c.1=none/\P c.2.1 c.2.2.1 c.2.2.2.1)/\∃g,t=gSt st g
abbrev LQ(st:QF)(R:Array pW->Prop)(P:α->β->γ->Prop)(c:Option (Array pW)×α×β×γ×δ)(t:QF):Prop:=((∃r,c.1=some r/\R r)∨(c.1=none/\P c.2.1 c.2.2.1 c.2.2.2.1))/\∃g,t=gSt st g
def ent{B:Nat->(Option (Array pW)×α×β×γ×δ)->StateT QF Sem ε}{P:Nat->α->β->γ->Prop}{G:Nat->ε->QF->Prop}{lo hi:Nat}(h:∀y o i j r g,y<hi->P y o i j->wpS M A E s (B y (none,o,i,j,r)) (G y) (gSt st g)):∀y c t,lo<=y->y<hi->LI st (P y) c t->wpS M A E s (B y c) (G y) t:=by
 rintro y ⟨c,o,i,j,r⟩ t _ hy ⟨⟨e,p⟩,g,rfl⟩
 cases e;exact h y o i j r g hy p
def aft{B:(Option (Array pW)×α×β×γ×δ)->StateT QF Sem ε}{P:α->β->γ->Prop}{G:ε->QF->Prop}(h1:∀r o i j q g,R r->wpS M A E s (B (some r,o,i,j,q)) G (gSt st g))(h2:∀o i j q g,P o i j->wpS M A E s (B (none,o,i,j,q)) G (gSt st g)):∀c t,LQ st R P c t->wpS M A E s (B c) G t:=by
 rintro⟨c,o,i,j,r⟩ t ⟨⟨x,e,p⟩|⟨e,p⟩,g,rfl⟩
 ·cases e;exact h1 _ o i j r g p
 ·cases e;exact h2 o i j r g p
end
end
section
variable{prog:pi}{w:uR}{A:uQ}{E:pB->pC->Prop}{s:pC}{a₀:Array pW}{κ:UM}
def xS(a b out:Array pW)(na nb:Nat):Prop:=((a.toList.take na++b.toList.take nb)++out.toList).Perm (a.toList++b.toList)/\na<=a.size/\nb<=b.size
def wU(a:Array pW)(n:Nat):(a.extract 0 n).toList=a.toList.take n:=by rw[y7,AS,Fm]
variable{a b out:Array pW}{na nb:Nat}
def zd7(h:xS a b out na nb):(a.extract 0 na++b.extract 0 nb++out.reverse).toList.Perm (a.toList++b.toList):=by
 rw[uA,uA,wU,wU,UO];exact(Qo _ (Bv _)).trans h.1
def ze7(h:xS a b out na nb):(b.extract 0 nb++a.extract 0 na++out.reverse).toList.Perm (a.toList++b.toList):=by
 rw[uA,uA,wU,wU,UO];exact(List.Perm.append gr (Bv _)).trans h.1
def Zo{l:List pW}{k n:Nat}(h:k<=n):l.take n=l.take k++(l.drop k).take (n-k):=by
 rw[←QN k (l.take n),DF,AC h,Bw]
def J9(h:xS a b out na nb)(k:Nat)(hk:k<=na):xS a b (out++(a.extract k na).reverse) k nb:=by
 refine⟨?_,uK hk h.2.1,h.2.2⟩;refine ET ?_ h.1;rw[uA,UO,y7,Zo hk];generalize a.toList.take k=x;generalize (a.toList.drop k).take (na-k)=y;generalize b.toList.take nb=z;generalize out.toList=o;have:(o++y.reverse).Perm (y++o):=(Qo _ (Bv _)).trans gr;refine(Qo _ this).trans ?_;rw[uS,uS,uS];refine Qo _ ?_;rw[←uS,←uS];exact List.Perm.append_right _ gr
def prmh_b(h:xS a b out na nb)(k:Nat)(hk:k<=nb):xS a b (out++(b.extract k nb).reverse) na k:=by
 refine⟨?_,h.2.1,uK hk h.2.2⟩;refine ET ?_ h.1;rw[uA,UO,y7,Zo hk];generalize b.toList.take k=x;generalize (b.toList.drop k).take (nb-k)=y;generalize a.toList.take na=z;generalize out.toList=o;have:(o++y.reverse).Perm (y++o):=(Qo _ (Bv _)).trans gr;refine(Qo _ this).trans ?_;rw[uS,uS,uS]
theorem Xv(out a:Array pW)(n:Nat)(h0:0<n)(h:n-1<a.size):out.push a[n-1]=out++(a.extract (n-1) n).reverse:=by
 obtain⟨m,rfl⟩:∃m,n=m+1:=⟨n-1,by lia⟩
 have e:=qC out a m h;simp only[Nat.add_sub_cancel] at*;rw[e]
 congr 1
 apply CK.mp
 have h':m<a.toList.length:=by simpa using h
 rw[UO,wd,Qg h']
 simp
theorem prmh_a1(h:xS a b out na nb)(h0:0<na):xS a b (out.push (a[na-1]'(by have:=h.2.1;lia))) (na-1) nb:=by rw[Xv _ _ _ h0];exact J9 h (na-1) (by lia)
def prmh_0(ha:0<a.size):xS a b #[a[a.size-1]] (a.size-1) b.size:=by
 have h:xS a b #[] a.size b.size:=⟨by rw[pz (by simp),pz (by simp)];simp,pJ _,pJ _⟩
 exact prmh_a1 h ha
end
variable{sa:Nat}
section
variable{prog:pi}{w:uR}{A:uQ}{E:pB->pC->Prop}{s:pC}{a₀:Array pW}{κ:UM}
theorem YT(sa:Nat):∀(l:List pW)(k:Nat)(a:Array pW),sa+k+l.length<=a.size->((l.zipIdx k).foldl (λa(x:pW×Nat)=>match x with|(p,j)=>a.setIfInBounds (sa+j) p) a).toList=a.toList.take (sa+k)++l++a.toList.drop (sa+k+l.length)
 |[],k,a,_=>by simp
 |p::l,k,a,h=>by
  rw[Dq,List.foldl_cons];have hk:sa+k<a.toList.length:=by simp only[uZ] at h;rw[pT];lia
  have:=YT sa l (k+1) (a.setIfInBounds (sa+k) p) (by rw[Array.size_setIfInBounds];simp only[uZ] at h;lia)
  rw[this,Array.toList_setIfInBounds];have e1:(a.toList.set (sa+k) p).take (sa+(k+1))=a.toList.take (sa+k)++[p]:=by
   rw[show sa+(k+1)=sa+k+1 by lia,uP,List.take_set_of_le (pJ _),Um hk]
   rfl
  have e2:(a.toList.set (sa+k) p).drop (sa+(k+1)+l.length)=a.toList.drop (sa+k+(p::l).length):=by
   rw[List.drop_set_of_lt (by lia),uZ]
   congr 1
   lia
  rw[e1,e2]
  simp[uS]
theorem za6{a m:Array pW}{sb nb:Nat}(h1:sa<=sb)(h2:sb+nb<=a.size)(hm:m.toList.Perm ((a.extract sa sb).toList++(a.extract sb (sb+nb)).toList)):
  (m.toList.zipIdx.foldl (λa(x:pW×Nat)=>match x with|(p,j)=>a.setIfInBounds (sa+j) p) a).Perm a:=by
 have lm:m.toList.length=sb+nb-sa:=by
  rw[hm.length_eq,pM,y7,y7,pV,pV,pg,pg,pT];lia
 apply Array.perm_iff_toList_perm.mpr
 rw[YT sa m.toList 0 a (by lia),He]
 have e:a.toList=a.toList.take sa++((a.toList.drop sa).take (sb-sa)++(a.toList.drop sb).take nb)++a.toList.drop (sa+m.toList.length):=by
  rw[lm,show sa+(sb+nb-sa)=sb+nb by lia]
  have x1:(a.toList.drop sb).take nb++a.toList.drop (sb+nb)=a.toList.drop sb:=by rw[←gE,QN]
  have x2:(a.toList.drop sa).take (sb-sa)++a.toList.drop sb=a.toList.drop sa:=by
   have:a.toList.drop sb=(a.toList.drop sa).drop (sb-sa):=by rw[gE,show sa+(sb-sa)=sb by lia]
   rw[this,QN]
  rw[uS,uS,x1,x2,QN]
 rw[y7,wd] at hm;refine ET ((Qo _ hm).append_right _) ?_;rw[←e]
def qG{a:Array pW}{i j:Nat}{x:pW}(h:x∈a.extract i j):x∈a:=by
 have:x∈(a.extract i j).toList:=Eo.mpr h;rw[y7] at this;exact Array.mem_toList_iff.mp (gH (Uj this))
def wpS_set{st st':QF}{Q:PUnit->QF->Prop}(h:Q ⟨⟩ st'):wpS (model prog w) A E s (set st':StateT QF Sem PUnit) Q st:=by
 unfold wpS;rw[StateT.run_set];exact pK ⟨rfl,h⟩
abbrev pSt(st:QF)(xs:Array pW)(p:Array (Nat×Nat×Nat))(g:Nat):QF:=FQ (kindOf st) xs p g (BG st)
end
def Cov:List (Nat×Nat×Nat)->Nat->Nat->Prop
 |[],b,e=>b=e
 |(a,n,_)::r,b,e=>a=b/\0<n/\Cov r (b+n) e
theorem Cov.le:∀{l:List (Nat×Nat×Nat)}{b e:Nat},Cov l b e->b<=e
 |[],b,e,h=>Up h
 |(a,n,_)::r,b,e,h=>uK (gU _ _) (Cov.le h.2.2)
theorem Cov.push:∀{l:List (Nat×Nat×Nat)}{b e n p:Nat},Cov l b e->0<n->Cov (l++[(e,n,p)]) b (e+n)
 |[],b,e,n,p,h,hn=>by
  have h:b=e:=h;subst h;exact⟨rfl,hn,rfl⟩
 |(a,m,q)::r,b,e,n,p,h,hn=>⟨h.1,h.2.1,Cov.push h.2.2 hn⟩
theorem Cov.at:∀{l:List (Nat×Nat×Nat)}{b e i a n p a' n' p':Nat},Cov l b e->l[i]?=some (a,n,p)->l[i+1]?=some (a',n',p')->a'=a+n/\0<n/\0<n'/\a+n+n'<=e/\Cov ((l.set i (a,n+n',p)).eraseIdx (i+1)) b e
 |(x,m,q)::(x',m',q')::r,b,e,0,a,n,p,a',n',p',h,e1,e2=>by
  cases e1;cases e2;obtain⟨h1,h2,h3,h4,h5⟩:=h;have:=Cov.le h5;refine⟨by lia,h2,h4,by lia,h1,by lia,?_⟩
  rw[←BK];exact h5
 |(x,m,q)::r,b,e,i+1,a,n,p,a',n',p',h,e1,e2=>by
  obtain⟨h1,h2,h3⟩:=h;obtain⟨g1,g2,g3,g4,g5⟩:=Cov.at h3 (by simpa using e1) (by simpa using e2)
  exact⟨g1,g2,g3,g4,h1,h2,g5⟩
 |[],b,e,i,a,n,p,a',n',p',h,e1,e2=>by cases i<;>cases e1
 |[_],b,e,0,a,n,p,a',n',p',h,e1,e2=>by simp at e2
theorem Cov.power(w:Nat):∀{l:List (Nat×Nat×Nat)}{b e i:Nat},Cov l b e->Cov (l.modify i λx=>(x.1,x.2.1,w)) b e
 |[],b,e,i,h=>by cases i<;>exact h
 |(x,m,q)::r,b,e,0,h=>h
 |(x,m,q)::r,b,e,i+1,h=>⟨h.1,h.2.1,Cov.power w h.2.2⟩
section
variable{prog:pi}{w:uR}{A:uQ}{E:pB->pC->Prop}{s:pC}{a₀:Array pW}{κ:UM}
def SIv(a₀:Array pW)(κ:UM)(lo:Nat)(st:QF):Prop:=(arrOf st).Perm a₀/\kindOf st=κ/\BG st=none/\Cov (uE st).toList 0 lo/\lo<=a₀.size
def ite_lt{c:Prop}[Decidable c]{x y z:Nat}(h1:x+1<z)(h2:y+1<z):(if c then x else y)+1<z:=by
 by_cases h:c
 ·rw[if_pos h];exact h1
 ·rw[if_neg h];exact h2
def push_iv{lo n:Nat}{st:QF}(iv:SIv a₀ κ lo st)(hn:0<n)(hz:lo+n<=a₀.size):SIv a₀ κ (lo+n) (FR st ((uE st).push (lo,n,0))):=by
 obtain⟨h1,h2,h3,h4,h5⟩:=iv;refine⟨h1,h2,h3,?_,hz⟩;show Cov ((uE st).push (lo,n,0)).toList 0 (lo+n);rw[DV];exact h4.push hn
def zac{lo j w:Nat}{st:QF}(iv:SIv a₀ κ lo st):SIv a₀ κ lo (FR st ((uE st).modify j λx=>(x.1,x.2.1,w))):=by
 obtain⟨h1,h2,h3,h4,h5⟩:=iv;refine⟨h1,h2,h3,?_,h5⟩;show Cov ((uE st).modify j λx=>(x.1,x.2.1,w)).toList 0 lo;rw[FB];exact h4.power w
end
open PySem.W (kas_sort kas_ask)
open PySem.W (KasT kas_asc kas_desc kas_rev kas_tail3 kas_descPart kas_count kas_place kas_bin kas_sort)
structure Wk(ans:Nat->Nat->Bool):Prop where
 irr:∀i,ans i i=false
 tr:∀i j k,ans i j=true->ans j k=true->ans i k=true
 cut:∀i j k,ans i j=false->ans j k=false->ans i k=false
def UpW(ans:Nat->Nat->Bool)(p:Array Nat)(m:Nat):Prop:=∀i j,i<j->j<m->ans (p.getD j 0) (p.getD i 0)=false
def DnW(ans:Nat->Nat->Bool)(p:Array Nat)(m:Nat):Prop:=∀i j,i<j->j<m->ans (p.getD i 0) (p.getD j 0)=false
def EqW(ans:Nat->Nat->Bool)(p:Array Nat)(m q:Nat):Prop:=∀i j,m<=i+q+1->i<m->m<=j+q+1->j<m->ans (p.getD i 0) (p.getD j 0)=false
section
variable{n:Nat}{ans:Nat->Nat->Bool}
theorem Wk.asymm(T:Wk ans){a b:Nat}(h:ans a b=true):ans b a=false:=by
 cases z:ans b a with
 |false=>rfl
 |true=>have:=T.tr a b a h z;rw[T.irr] at this;cases this
theorem Wk.of{β:Type}{lt:β->β->Bool}(S:STO lt)(r:Nat->β):Wk λi j=>lt (r i) (r j) where
 irr i:=S.irr _
 tr i j k:=S.tr _ _ _
 cut i j k h1 h2:=by
  cases z:lt (r i) (r k) with
  |false=>rfl
  |true=>
   by_cases e1:r i=r j
   ·rw[e1] at z;rw[z] at h2;cases h2
   ·rcases S.tot _ _ e1 with y|y
    ·rw[y] at h1;cases h1
    ·have:=S.tr _ _ _ y z;rw[this] at h2;cases h2
variable{p:Array Nat}
theorem UpW.step(T:Wk ans){m:Nat}(u:UpW ans p m)(h:∀i,i+1=m->ans (p.getD m 0) (p.getD i 0)=false):UpW ans p (m+1):=λi j hij hj=>by
 by_cases z:j<m
 ·exact u i j hij z
 ·have e:j=m:=by lia
  subst e
  by_cases y:i+1=j
  ·exact h i y
  ·exact T.cut _ _ _ (h (j-1) (by lia)) (u i (j-1) (by lia) (by lia))
theorem DnW.step(T:Wk ans){m:Nat}(u:DnW ans p m)(h:∀i,i+1=m->ans (p.getD i 0) (p.getD m 0)=false):DnW ans p (m+1):=λi j hij hj=>by
 by_cases z:j<m
 ·exact u i j hij z
 ·have e:j=m:=by lia
  subst e
  by_cases y:i+1=j
  ·exact h i y
  ·exact T.cut _ _ _ (u i (j-1) (by lia) (by lia)) (h (j-1) (by lia))
theorem YZ(T:Wk ans){p:Array Nat}:∀f m,1<=m->m+f=n->UpW ans p m->m<=ansT ans (kas_asc p f m)/\ansT ans (kas_asc p f m)<=n/\UpW ans p (ansT ans (kas_asc p f m))/\(ansT ans (kas_asc p f m)<n->ans (p.getD (ansT ans (kas_asc p f m)) 0) (p.getD (ansT ans (kas_asc p f m)-1) 0)=true)
 |0,m,h1,hm,u=>⟨pJ _,by show m<=n;lia,u,λz=>by have:m<n:=z;lia⟩
 |f+1,m,h1,hm,u=>by
  have e:ansT ans (kas_asc p (f+1) m)=ansT ans (if ans (p.getD m 0) (p.getD (m-1) 0)=true then .ret m else kas_asc p f (m+1)):=rfl;rw[e]
  cases c:ans (p.getD m 0) (p.getD (m-1) 0) with
  |true=>rw[if_pos rfl];exact⟨pJ _,by show m<=n;lia,u,λ_=>c⟩
  |false=>
   rw[if_neg (by decide)]
   obtain⟨a1,a2,a3⟩:=YZ T f (m+1) (by lia) (by lia) (u.step T λi hi=>by
    have e:m-1=i:=by lia
    rw[e] at c;exact c)
   exact⟨by lia,a2,a3⟩
def jG{a m:Nat}(hm:m<=p.size)(k:Nat):(kas_rev p a m).getD k 0=if a<=k/\k<m then p.getD (a+m-1-k) 0 else p.getD k 0:=by
 have e:(kas_rev p a m)[k]?=if a<=k/\k<m then p[a+m-1-k]? else p[k]?:=by
  unfold kas_rev;rw[BB hm]
 rw[pZ,e]
 split
 ·rw[pZ]
 ·rw[pZ]
theorem Zv{m q:Nat}(hm:m<=p.size)(d:DnW ans p m)(e:EqW ans p m q):DnW ans (kas_rev p (m-(q+1)) m) m:=λi j hij hj=>by
 rw[jG hm,jG hm]
 by_cases c1:m-(q+1)<=i/\i<m
 ·rw[if_pos c1,if_pos (by lia)]
  exact e _ _ (by lia) (by lia) (by lia) (by lia)
 ·rw[if_neg c1]
  by_cases c2:m-(q+1)<=j/\j<m
  ·rw[if_pos c2];exact d _ _ (by lia) (by lia)
  ·rw[if_neg c2];exact d _ _ hij hj
theorem Yc(T:Wk ans):∀f(p:Array Nat) m q,1<=m->q+1<=m->m+f=n->n<=p.size->DnW ans p m->EqW ans p m q->∃p' m' q',ansT ans (kas_desc f p m q)=(p',m',q')/\m<=m'/\m'<=n/\q'+1<=m'/\p'.size=p.size/\DnW ans p' m'/\EqW ans p' m' q'
 |0,p,m,q,h1,hq,hm,hz,u,eq=>⟨p,m,q,rfl,pJ _,by lia,hq,rfl,u,eq⟩
 |f+1,p,m,q,h1,hq,hm,hz,u,eq=>by
  have e:ansT ans (kas_desc (f+1) p m q)=ansT ans (if ans (p.getD m 0) (p.getD (m-1) 0)=true then(if q>0 then kas_desc f (kas_rev p (m-(q+1)) m) (m+1) 0 else kas_desc f p (m+1) 0)
   else .ask (p.getD (m-1) 0) (p.getD m 0) λd=>if d=true then .ret (p,m,q) else kas_desc f p (m+1) (q+1)):=rfl
  rw[e]
  cases c:ans (p.getD m 0) (p.getD (m-1) 0) with
  |true=>
   rw[if_pos rfl];have one:∀p':Array Nat,EqW ans p' (m+1) 0:=λp' i j a b a' b'=>by
    have e1:i=m:=by lia
    have e2:j=m:=by lia
    rw[e1,e2];exact T.irr _
   by_cases z:q>0
   ·rw[if_pos z];have sz:(kas_rev p (m-(q+1)) m).size=p.size:=GW _ _ _ _;have u2:DnW ans (kas_rev p (m-(q+1)) m) (m+1):=(Zv (by lia) u eq).step T λi hi=>by
     rw[jG (by lia),jG (by lia),if_pos (by lia),if_neg (by lia)]
     refine T.asymm ?_
     cases y:ans (p.getD m 0) (p.getD (m-(q+1)+m-1-i) 0) with
     |true=>rfl
     |false=>
      have:=T.cut _ _ _ y (eq (m-(q+1)+m-1-i) (m-1) (by lia) (by lia) (by lia) (by lia))
      rw[c] at this
      cases this
    obtain⟨p',m',q',a1,a2,a3,a4,a5,a6⟩:=Yc T f _ (m+1) 0 (by lia) (by lia) (by lia) (by lia) u2 (one _)
    exact⟨p',m',q',a1,by lia,a3,a4,by rw[a5,sz],a6⟩
   ·rw[if_neg z];obtain⟨p',m',q',a1,a2,a3,a4,a5,a6⟩:=Yc T f p (m+1) 0 (by lia) (by lia) (by lia) hz (u.step T λi hi=>by
     have e:m-1=i:=by lia
     rw[e] at c;exact T.asymm c) (one _)
    exact⟨p',m',q',a1,by lia,a3,a4,a5,a6⟩
  |false=>
   rw[if_neg (by decide)]
   show ∃p' m' q',ansT ans (if ans (p.getD (m-1) 0) (p.getD m 0)=true then .ret (p,m,q) else kas_desc f p (m+1) (q+1))=_/\_
   cases y:ans (p.getD (m-1) 0) (p.getD m 0) with
   |true=>rw[if_pos rfl];exact⟨p,m,q,rfl,pJ _,by lia,hq,rfl,u,eq⟩
   |false=>
    rw[if_neg (by decide)]
    obtain⟨p',m',q',a1,a2,a3,a4,a5,a6⟩:=Yc T f p (m+1) (q+1) (by lia) (by lia) (by lia) hz (u.step T λi hi=>by
     have e:m-1=i:=by lia
     rw[e] at y;exact y) λi j i1 i2 j1 j2=>by
      by_cases ei:i=m
      ·subst ei
       by_cases ej:j=i
       ·rw[ej];exact T.irr _
       ·exact T.cut _ _ _ c (eq (i-1) j (by lia) (by lia) (by lia) (by lia))
      ·by_cases ej:j=m
       ·subst ej;exact T.cut _ _ _ (eq i (j-1) (by lia) (by lia) (by lia) (by lia)) y
       ·exact eq i j (by lia) (by lia) (by lia) (by lia)
    exact⟨p',m',q',a1,by lia,a3,a4,a5,a6⟩
theorem Vm(T:Wk ans){m:Nat}(h1:1<=m)(hm:m<=n)(hz:n<=p.size)(d:DnW ans p m):∃m' p',ansT ans (kas_tail3 m n p)=(m',p')/\1<=m'/\m'<=n/\UpW ans p' m':=by
 unfold kas_tail3;rw[vX];have u2:UpW ans (kas_rev p 0 m) m:=λi j hij hj=>by
  rw[qr (by lia) (by lia),qr (by lia) (by lia)]
  exact d _ _ (by lia) (by lia)
 obtain⟨g1,g2,g3,g4⟩:=YZ (n:=n) T (n-m) m h1 (by lia) u2
 exact⟨_,_,rfl,by lia,g2,g3⟩
theorem VV(T:Wk ans){m:Nat}(h1:1<=m)(hm:m+1<=n)(hz:n<=p.size)(d:DnW ans p (m+1)):∃m' p',ansT ans (kas_descPart m n p)=(m',p')/\1<=m'/\m'<=n/\UpW ans p' m':=by
 unfold kas_descPart;rw[vX];obtain⟨p',m',q',e,a2,a3,a4,a5,a6,a7⟩:=Yc (n:=n) T (n-(m+1)) p (m+1) 0 (by lia) (by lia) (by lia) hz d λi j i1 i2 j1 j2=>by
  have e1:i=m:=by lia
  have e2:j=m:=by lia
  rw[e1,e2];exact T.irr _
 rw[e];dsimp only;have sz:(kas_rev p' (m'-(q'+1)) m').size=p'.size:=GW _ _ _ _
 by_cases z:q'>0
 ·rw[if_pos z];exact Vm T (by lia) a3 (by lia) (Zv (by lia) a6 a7)
 ·rw[if_neg z];exact Vm T (by lia) a3 (by lia) a6
theorem zag(T:Wk ans)(hn:0<n)(hz:p.size=n):∃m p',ansT ans (kas_count n p)=(m,p')/\1<=m/\m<=n/\UpW ans p' m:=by
 have u1:UpW ans p 1:=λi j hij hj=>by lia
 obtain⟨a1,a2,a3,a4⟩:=YZ (n:=n) T (n-1) 1 (pJ _) (by lia) u1
 unfold kas_count;rw[vX];generalize ansT ans (kas_asc p (n-1) 1)=m at a1 a2 a3 a4⊢
 by_cases c1:m=n
 ·subst c1;simp only[beq_self_eq_true,if_true];exact⟨m,p,rfl,a1,a2,a3⟩
 ·have c1':(m==n)=false:=beq_eq_false_iff_ne.mpr c1;simp only[c1',uI,if_false];have y:=a4 (by lia)
  by_cases c2:m>1
  ·rw[if_pos c2];show ∃m' p',ansT ans (if ans (p.getD 0 0) (p.getD (m-1) 0)=true then .ret (m,p) else kas_descPart m n (kas_rev p 0 m))=_/\_
   cases x:ans (p.getD 0 0) (p.getD (m-1) 0) with
   |true=>rw[if_pos rfl];exact⟨m,p,rfl,a1,a2,a3⟩
   |false=>
    rw[if_neg (by decide)]
    have sz:(kas_rev p 0 m).size=p.size:=GW _ _ _ _;have al:∀i j,i<m->j<m->ans (p.getD i 0) (p.getD j 0)=false:=λi j hi hj=>by
     have l0:ans (p.getD i 0) (p.getD 0 0)=false:=by
      by_cases e:i=0
      ·rw[e];exact T.irr _
      ·exact a3 0 i (by lia) hi
     have l1:ans (p.getD (m-1) 0) (p.getD j 0)=false:=by
      by_cases e:j=m-1
      ·rw[e];exact T.irr _
      ·exact a3 j (m-1) (by lia) (by lia)
     exact T.cut _ _ _ l0 (T.cut _ _ _ x l1)
    refine VV T a1 (by lia) (by lia) ?_
    have d1:DnW ans (kas_rev p 0 m) m:=λi j hij hj=>by
     rw[qr (by lia) (by lia),qr (by lia) (by lia)]
     exact al _ _ (by lia) (by lia)
    refine d1.step T λi hi=>?_;rw[qr (by lia) (by lia),jG (by lia),if_neg (by lia)]
    refine T.asymm ?_
    cases w:ans (p.getD m 0) (p.getD (m-1-i) 0) with
    |true=>rfl
    |false=>
     have:=T.cut _ _ _ w (al (m-1-i) (m-1) (by lia) (by lia))
     rw[y] at this
     cases this
  ·have e:m=1:=by lia
   subst e;rw[if_neg c2];exact VV T (pJ _) (by lia) (by lia) λi j hij hj=>by
    have e1:i=0:=by lia
    have e2:j=1:=by lia
    subst e1 e2;exact T.asymm y
theorem XA(T:Wk ans){p:Array Nat}{k:Nat}(u:UpW ans p k):∀f l r,l<=r->r<=k->r-l<=f->(∀i,i<l->ans (p.getD k 0) (p.getD i 0)=false)->(∀i,r<=i->i<k->ans (p.getD k 0) (p.getD i 0)=true)->
  ∃l',ansT ans (kas_place p k f l r)=l'/\l'<=k/\(∀i,i<l'->ans (p.getD k 0) (p.getD i 0)=false)/\(∀i,l'<=i->i<k->ans (p.getD k 0) (p.getD i 0)=true)
 |0,l,r,h1,h2,h3,hl,hr=>⟨l,rfl,by lia,hl,λi a b=>hr i (by lia) b⟩
 |f+1,l,r,h1,h2,h3,hl,hr=>by
  unfold kas_place
  by_cases c:l≥r
  ·rw[if_pos c];exact⟨l,rfl,by lia,hl,λi a b=>hr i (by lia) b⟩
  ·rw[if_neg c];show ∃l',ansT ans (if ans (p.getD k 0) (p.getD ((l+r)/2) 0)=true then kas_place p k f l ((l+r)/2) else kas_place p k f ((l+r)/2+1) r)=l'/\_;have m1:l<=(l+r)/2:=by lia
   have m2:(l+r)/2<r:=by lia
   cases e:ans (p.getD k 0) (p.getD ((l+r)/2) 0) with
   |true=>
    rw[if_pos rfl];refine XA T u f l _ m1 (by lia) (by lia) hl λi a b=>?_
    by_cases y:i=(l+r)/2
    ·rw[y];exact e
    ·cases w:ans (p.getD k 0) (p.getD i 0) with
     |true=>rfl
     |false=>
      have:=T.cut _ _ _ w (u ((l+r)/2) i (by lia) b)
      rw[e] at this
      cases this
   |false=>
    rw[if_neg (by decide)]
    refine XA T u f _ r (by lia) h2 (by lia) (λi a=>?_) hr
    by_cases x:i=(l+r)/2
    ·rw[x];exact e
    ·exact T.cut _ _ _ e (u i ((l+r)/2) (by lia) (by lia))
theorem Je(T:Wk ans):∀f(p:Array Nat) k,p.size=n->1<=k->k+f=n->UpW ans p k->UpW ans (ansT ans (kas_bin f p k)) n
 |0,p,k,h,h1,hk,u=>by
  have e:k=n:=by lia
  subst e;exact u
 |f+1,p,k,z,h1,hk,u=>by
  unfold kas_bin;rw[vX];obtain⟨l,e,a1,a2,a3⟩:=XA T u k 0 k (uJ _) (pJ _) (by lia) (λi hi=>by lia) (λi a b=>by lia)
  rw[e];refine Je T f _ (k+1) (by rw[(GT _ _ _).size_eq];exact z) (by lia) (by lia) λi j hij hj=>?_
  rw[JZ (by lia) a1,JZ (by lia) a1]
  by_cases c1:i=l
  ·rw[if_pos c1,if_neg (by lia),if_pos (by lia)]
   exact T.asymm (a3 _ (by lia) (by lia))
  ·rw[if_neg c1]
   by_cases c2:l<i/\i<=k
   ·rw[if_pos c2,if_neg (by lia),if_pos (by lia)]
    exact u _ _ (by lia) (by lia)
   ·rw[if_neg c2]
    by_cases c3:j=l
    ·rw[if_pos c3];exact a2 _ (by lia)
    ·rw[if_neg c3]
     by_cases c4:l<j/\j<=k
     ·rw[if_pos c4];exact u _ _ (by lia) (by lia)
     ·rw[if_neg c4];exact u _ _ (by lia) (by lia)
theorem zb8(T:Wk ans)(hn:0<n):UpW ans (ansT ans (kas_sort n)) n:=by
 have o0:Ord n (UC (Qd n)):=by unfold Ord;simp
 obtain⟨m,p,e,m1,m2,u⟩:=zag T hn (p:=UC (Qd n)) (by simp)
 have o1:Ord n (m,p).2:=by
  rw[←e];exact yg.ends (ZE hn o0)
 have z:p.size=n:=by have:=o1.length_eq;simpa using this
 unfold kas_sort;rw[vX,e]
 by_cases c:m<n
 ·simp only[c,if_true];have x:max m 1=m:=by lia
  rw[x];exact Je T (n-m) p m z m1 (by lia) u
 ·simp only[c,if_false];have x:m=n:=by lia
  subst x;exact u
end
open PySem.W (kla_fn kla_obj envX tabObj CodeHd)
structure Yh(x:Str)(ys:List Str)(sc:Scope):Prop where
 kind:sc.kind=.function
 co:sc.isCoroutine=false
 gen:sc.isGenerator=false
 par:sc.names.lookup x=some .local
 cap:∀y,y∈ys->sc.names.lookup y=some .free
 nocell:∀z,z∈sc.names->z.2≠.cell
 free:∀z,z∈sc.names->z.2=.free->z.1∈ys
noncomputable def qk(P:pi)(w:uR)(K:pF)(mg:Str->Option pB)(base:Heap)(x:Str)(qual:Str)(sc:Scope)(f:Addr)(cd:pB)(clos:List (Str×Addr))(A:uQ)(outer:List Env)(s:pC)(H:Hp):Cx where
 prog:=P
 w:=w
 K:=K
 mg:=mg
 base:=base
 A:=A.deeper (envX qual sc s.heap.objs.size f cd clos)
 N:=x::clos.map UG
 s₀:=s
 H₀:=H
 env:=envX qual sc s.heap.objs.size f cd clos
 outer:=outer
 stack:=envX qual sc s.heap.objs.size f cd clos::outer
 ex:=[]
 calm:=true
 fn:=λ_=>false
 pn:=[]
 xe:=λ_ _=>False
theorem vK:∀{cl:List (Str×Addr)}{z:Str}{d:Addr},cl.lookup z=some d->(z,d)∈cl
 |[],_,_,h=>by cases h
 |(y,c)::cl,z,d,h=>by
  rw[QL] at h
  by_cases e:z=y
  ·subst e;rw[beq_self_eq_true] at h
   cases h;exact pX ..
  ·rw[beq_eq_false_iff_ne.mpr e] at h;exact pY _ (vK h)
theorem WS:∀{cl:List (Str×Addr)}{z:Str},z∈cl.map UG->∃d,cl.lookup z=some d
 |[],_,h=>by cases h
 |(y,c)::cl,z,h=>by
  rw[QL]
  by_cases e:z=y
  ·rw[e,beq_self_eq_true];exact⟨c,rfl⟩
  ·rw[beq_eq_false_iff_ne.mpr e];refine WS ?_;rcases pR.mp h with z'|z'
   ·exact absurd z' e
   ·exact z'
def Cells(H:Hp)(h:Heap)(clos:List (Str×Addr))(vys:List V):Prop:=∀(i:Nat) y c vy,clos[i]?=some (y,c)->vys[i]?=some vy->∃uy,zm vy uy/\h.IsCell c (some uy)/\H c=none
variable{qual:Str}
theorem zel{P:pi}{w:uR}{K:pF}{mg:Str->Option pB}{base:Heap}{x:Str}{sc:Scope}{f:Addr}{clos:List (Str×Addr)}{cd:pB}{A:uQ}{outer:List Env}{s:pC}{H:Hp}{u:pB}{v:V}{vys:List V}{h₁:Heap}{tk:Nat}
  (S:Yh x (clos.map UG) sc)(nd:(clos.map UG).Nodup)(inj:∀y z d,(y,d)∈clos->(z,d)∈clos->y=z)(hlen:vys.length=clos.length)(hd:A.handled=none)(e0:Env0 P w K mg base A outer s H)(ru:zm v u)(hc:Cells H s.heap clos vys)
  (hns:h₁.Ns s.heap.objs.size (λz=>([(x,u)]:List (Str×pB)).reverse.lookup z))(hk:∀b o,s.heap.get? b=some o->h₁.get? b=some o):
  Inv (qk P w K mg base x qual sc f cd clos A outer s H) [] (some v::vys.map some) H {s with heap:=h₁,toks:=tk}:=by
 have noA:∀b:Addr,b∉(qk P w K mg base x qual sc f cd clos A outer s H).ex:=λb z=>absurd (show b∈([]:List Addr) from z) (by simp)
 have at_:∀z d,(z,d)∈clos->∃uy vy,zm vy uy/\s.heap.IsCell d (some uy)/\H d=none:=λz d h=>by
  obtain⟨i,hi⟩:=uY.mp h;have hi':=(pD.mp hi).1;have hv:vys[i]?=some (vys[i]'(by lia)):=pG (by lia)
  obtain⟨uy,q⟩:=hc i z d _ hi hv;exact⟨uy,_,q⟩
 refine⟨⟨e0.mod,S.kind,rfl,rfl,pJ _,λy1 z1 d h1 h2=>?_,λz hz=>?_,λz d hf _=>?_,λ_=>hd,CP e0.frames,.inr ⟨rfl,rfl⟩,λb z=>absurd z (noA b),e0.bs,e0.bsz,λb _ _=>noA b,λb z=>absurd z (noA b),e0.funs,e0.frf⟩,
  rfl,e0.bare,Un.kept hk,⟨_,hns,λi z v' h1 h2 h3=>?_⟩,λz d h=>?_,e0.hok.fresh (pJ _),λz d h=>?_,λp hp=>absurd (show p∈([]:List (Addr×Obj)) from hp) (by simp),e0.hok.kept hk,by show(some v::vys.map some).length=(x::clos.map UG).length;rw[uZ,uZ,pL,pL,hlen]⟩
 ·exact inj _ _ d (vK h1) (vK h2)
 ·have hz:sc.names.lookup z=some .cell∨sc.names.lookup z=some .free:=hz;rcases hz with hz|hz
  ·exact absurd rfl (S.nocell _ (QK hz))
  ·exact WS (S.free _ (QK hz) rfl)
 ·cases hf
 ·match i,h1,h2 with
  |0,h1,h2=>
   cases h1
   cases h2;refine⟨u,ru,.inl ⟨S.par,?_⟩⟩;show([(x,u)]:List (Str×pB)).reverse.lookup x=some u
   simp
  |i+1,h1,h2=>
   have h1:(clos.map UG)[i]?=some z:=h1;have h2:(vys.map some)[i]?=some (some v'):=h2;rw[pQ] at h1 h2;obtain⟨⟨y,c⟩,e1,e2⟩:=Qh.mp h1;obtain⟨vy,e3,e4⟩:=Qh.mp h2
   cases e2
   cases e4;obtain⟨uy,ry,⟨o,ho,hd'⟩,_⟩:=hc i _ _ _ e1 e3;have hm:(y,c)∈clos:=pS e1;obtain⟨d,hd⟩:=WS (uG.mpr ⟨_,hm,rfl⟩);have ed:d=c:=by
    have hm2:=vK hd;obtain⟨j,hj⟩:=uY.mp hm2;have n1:(clos.map UG)[i]?=some y:=by rw[pQ,e1];rfl
    have n2:(clos.map UG)[j]?=some y:=by rw[pQ,hj];rfl
    have ij:i=j:=by
     have i1:=(pD.mp n1).1;have j1:=(pD.mp n2).1;rcases Fn i j with z|z|z
     ·exact absurd ((pD.mp n1).2.trans (pD.mp n2).2.symm) ((Qx.mp nd) i j i1 j1 z)
     ·exact z
     ·exact absurd ((pD.mp n2).2.trans (pD.mp n1).2.symm) ((Qx.mp nd) j i j1 i1 z)
    rw[←ij,e1] at hj
    cases hj;rfl
   subst ed;exact⟨uy,ry,.inr ⟨.inr (S.cap _ (uG.mpr ⟨_,hm,rfl⟩)),d,hd,o,hk _ _ ho,hd'⟩⟩
 ·obtain⟨uy,vy,_,⟨o,ho,hd'⟩,_⟩:=at_ _ _ (vK h);exact⟨_,o,hk _ _ ho,hd'⟩
 ·obtain⟨uy,vy,_,_,hn⟩:=at_ _ _ (vK h);exact hn
variable{fa:Addr}{ctv:pB}
section
variable{X:Cx}{pins:List (Addr×Obj)}{σ:St}{H:Hp}{s:pC}
theorem zef{A:uQ}{k:Nat}{x name:Str}{params:Be}{body:Expr}{sc:Scope}{c':Addr}{clos:List (Str×Addr)}{pm u:pB}{v:V}{vys:List V}{te:TE}{Q:VK}(I:Inv X pins σ H s)
  (e0:Env0 X.prog X.w X.K X.mg X.base A X.stack s H)(hr:zX k A)(S:Yh x (clos.map UG) sc)(nd:(clos.map UG).Nodup)(inj:∀y z d,(y,d)∈clos->(z,d)∈clos->y=z)(hlen:vys.length=clos.length)
  (ho:s.heap.get? fa=some (kla_obj name qual params body sc clos pm c' ctv))(hcd:s.heap.CodeRec (.ref c') qual)
  (hb:AF (kla_fn name qual params body sc clos pm (.ref c') ctv) ⟨[u],[]⟩=pure [(x,u)])(ru:zm v u)(hc:Cells H s.heap clos vys)
  (hbody:PE (qk X.prog X.w X.K X.mg X.base x qual sc fa (.ref c') clos A X.stack s H) body te)(q:te (some v::vys.map some) H Q):
  wpAny (model X.prog X.w) A (call (.ref fa) [u]) (EP X pins σ Q) (λ_ _=>False) s:=by
 refine Gr (Bk (R:=CR CX0 X.stack X.prog X.w H s Q E0) ?_ λr s' hq=>?_)
 ·refine Ej hr.depth ho rfl S.co S.gen rfl hcd ?_;rw[hb];refine pK (CS S.nocell (λz hz=>?_) (λh₁ hns hsb=>⟨I.nolimit.fresh _ hsb,?_⟩) S.kind)
  ·rw[pN] at hz;rw[hz];exact S.par
  ·show BN _ _ (.expr body (envX qual sc s.heap.objs.size fa (.ref c') clos)) _ _
   have kp:∀d u,s.heap.get? d=some u->h₁.get? d=some u:=λd u z=>hsb.extBut d u (uF (pb z)) (pH _ z);have J:=zel (tk:=s.toks+1) (f:=fa) (qual:=qual) (cd:=.ref c') S nd inj hlen hr.hd e0 ru hc hns kp;refine Ek (Qe (hbody [] _ _ H Q J q) (λr s' hs=>?_) λe s' hs=>hs.elim);obtain⟨v',H',J',r',q'⟩:=hs;exact⟨v',H',J'.os,J'.bare,J'.base,J'.hok,r',q'⟩
 ·cases r with
  |error e=>exact hq.elim
  |ok fl=>
   cases fl with
   |ret u=>exact I.after hq
   |next=>exact UH hq
   |brk=>exact UH hq
   |cont=>exact UH hq
inductive Capt (X:Cx):List (Str×Addr)->List Nat->Prop
 |nil:Capt X [] []
 |cons {y c j cl js}:X.N[j]?=some y->X.env.scope.names.lookup y=some .cell->X.env.cells.lookup y=some c->Capt X cl js->Capt X ((y,c)::cl) (j::js)
variable{cl:List (Str×Addr)}{js:List Nat}
theorem Capt.mem(h:Capt X cl js):∀{y c},(y,c)∈cl->X.env.cells.lookup y=some c:=by
 induction h with
 |nil=>intro y c h;cases h
 |cons a b d t ih=>
  intro y' c' h;rcases pR.mp h with e|e
  ·cases e;exact d
  ·exact ih e
theorem Capt.cells(h:Capt X cl js)(I:Inv X pins σ H s):∀{vys:List V},js.map (λj=>σ[j]?)=vys.map (λv=>some (some v))->Cells H s.heap cl vys/\vys.length=cl.length:=by
 induction h with
 |nil=>
  intro vys e
  cases vys with
  |nil=>exact⟨λi y c vy h=>(by cases h),rfl⟩
  |cons _ _=>cases e
 |cons a b d t ih=>
  intro vys e
  cases vys with
  |nil=>cases e
  |cons vy vys=>
   rw[pj,pj] at e
   injection e with e1 e2
   obtain⟨i1,i2⟩:=ih e2;refine⟨λi y c v h h'=>?_,by rw[uZ,uZ,i2]⟩
   cases i with
   |zero=>
    cases h
    cases h';obtain⟨uy,ry,hcell⟩:=V6 I a e1 b d;exact⟨uy,ry,hcell,I.freeC _ _ d⟩
   |succ i=>exact i1 i y c v h h'
end
open PySem.W (kla_fn kla_obj envX tabObj CodeHd KasT kas_sort kas_ask)
variable{r:Addr}
section
variable{prog:pi}{w:uR}{A:uQ}{E:pB->pC->Prop}{s:pC}
theorem zcc(hh:A.handled=none){a b c:Int}{t u v:Tok}{n:Nat}(hr:IsRange s.heap r a b c t u v)(hsmall:Builtin.Range.small a b c=true)(hn:Dk a b c=n)(hlen:n<=2^24){Q:List pB->pC->Prop}
  (h:∀vs h' tk,vs.length=n->(∀(i:Nat) v,vs[i]?=some v->∃t,v=.int (a+i*c) t)->yN s.heap h'->s.heap.objs.size<=h'.objs.size->Q vs {s with heap:=h',toks:=tk}):wpAny (model prog w) A (collect (.ref r)) Q E s:=by
 unfold collect;refine pA (wpAny_runValue (Bk (AA (R:=wants (λv s'=>∃h' tk acc c',v=.ref s.heap.objs.size/\s'={s with heap:=h',toks:=tk}/\yN s.heap h'/\h'.get? s.heap.objs.size=some {cls:=.type "list",dict:=none,data:=.seq acc c',slots:=#[]}/\Hd (λi v=>∃t,v=.int (a+i*c) t) acc n) E) entry_proto_collect' ?_) λr s1 hr=>?_))
 rotate_left
 ·cases r with
  |error e=>exact hr
  |ok fl=>
   cases fl with
   |ret v=>
    obtain⟨h',tk,acc,c',rfl,rfl,k,hS,ea⟩:=hr;show wpAny (model prog w) A (load s.heap.objs.size>>=_) Q E _;refine pA (wpAny_load hS ?_);dsimp only;exact pK (h acc.toList h' tk (by rw[pT];exact ea.1) (λi v hv=>ea.2 i v (by rw[←ui];exact hv)) k (uq (pb hS)))
   |_=>exact hr.elim
 show wpAny _ _ (do again (.builtin "list.__iadd__" ⟨[←newList [],.ref r],[]⟩)) _ _ s
 refine pA (BI (pK ⟨Code.quiet_builtin _ (by decide+kernel),AA entry_list_iadd' ?_⟩))
 show wpAny _ _ (Uk (.ref s.heap.objs.size) (.ref r) (.ref s.heap.objs.size)) _ _ {s with heap:=s.heap.push (uC "list" #[] 0)}
 rw[gF (by decide+kernel) _]
 have hS0:(s.heap.push (uC "list" #[] 0)).get? s.heap.objs.size=some {cls:=.type "list",data:=.seq #[] 0}:=pd _ rfl;refine wpAny_extend_range (s:={s with heap:=s.heap.push (uC "list" #[] 0)}) hh (pH _ hr) hsmall hn hlen _ _ 0 hS0 (λh' tk acc c' kp hS hacc=>?_);have k:yN s.heap h':=λb o e=>kp b o (uF (pb e)) (pH _ e);exact⟨h',tk,acc,c',rfl,rfl,k,hS,hacc⟩
theorem zb7{n:Nat}{t u v:Tok}{Q:pB->pC->Prop}(hh:A.handled=none)(hr:IsRange s.heap r 0 n 1 t u v)(h64:n<64)
  (h:∀vs D kS e1 h' tk,vs.length=n->(∀(i:Nat) v,vs[i]?=some v->∃t,v=.int i t)->s.heap.objs.size<=D->yN s.heap h'->D<kS->h'.get? D=some (uC "list" #[] e1)->h'.get? kS=some (uC "list" #[] 0)->∃J,Yy prog w A.in1.in1 D kS e1 (.ref fa) vs (λr s'=>r=.done (.ret .none)->Q (.ref D) s') J/\J 0 [] 0 {s with heap:=h',toks:=tk}):
  wpAny (model prog w) A (call (.builtin "sorted") [.ref r] [(uT "key",.ref fa)]) Q E s:=by
 have e62:(2:Int)^62=4611686018427387904:=rfl;refine EK kind_sorted plain_sorted entry_sorted (ksk_s1 _ _) ?_;unfold Av.«sorted»;refine pA (m:=checkCount _ _ _ _) (pK (pA (zcc (A:=A.in1) (n:=n) (show A.in1.handled=none from hh) hr (small_one (by decide) (by decide) (by lia) (by lia)) (by rw[rangeSize_one];split<;>lia) (by lia) λvs h1 tk ln hv k1 sz1=>?_)))
 have zl:vs.length<=sizeLine:=uK (uq (by lia:vs.length<64)) (by decide)
 refine pA (BI ?_ zl);have o2:(h1.push (uC "list" vs.toArray 0)).get? h1.objs.size=some (uC "list" vs.toArray 0):=pd _ rfl;refine pA (UR (FC slot_list_sort ⟨_,o2,rfl⟩ Gd ?body (ksk_l1 _ _)))
 case body=>
  show wpAny (model prog w) A.in1.in1 (Av.«list.sort» ⟨[.ref h1.objs.size],[(uT "key",.ref fa)]⟩) _ _ _
  rw[ksk_t1];refine Qe (zdb (s:={s with heap:=h1.push (uC "list" vs.toArray 0),toks:=tk}) (P:=λr s'=>r=.done (.ret .none)/\(r=.done (.ret .none)->Q (.ref h1.objs.size) s')) (k1.push _) sz1 o2 (by lia) λkS e1 h' kk lt ha hk=>?_) (λr s' hq=>?_) λ_ _ z=>z
  ·obtain⟨J,R,h0⟩:=h vs h1.objs.size kS e1 h' tk ln (λi v e=>by obtain⟨t,q⟩:=hv i v e;exact⟨t,by rw[q];simp⟩) sz1 kk lt ha hk
   refine⟨J,⟨R.store,R.turn,λks e s' hJ=>?_⟩,h0⟩;obtain⟨f1,κ,ans,f2,f3,f4⟩:=R.fin ks e s' hJ;exact⟨f1,κ,ans,f2,f3,λp or ep=>⟨rfl,f4 p or ep⟩⟩
  ·obtain⟨rfl,hq⟩:=hq;exact⟨_,rfl,pK ⟨_,rfl,hq rfl⟩⟩
end
structure KeyRG(KP:KPT)(te:TE)(vys:List V)(c':Addr)(q:Str)(vs:List V)(H:Hp)(Q:VK)(Pv:Nat->List V->Hp->Prop):Prop where
 start:Pv 0 [] H
 code:∀i zs H',Pv i zs H'->H' c'=some (xB c' q)
 len:∀i zs H',Pv i zs H'->zs.length=i
 turn:∀i zs H' v,vs[i]?=some v->Pv i zs H'->te (some v::vys.map some) H' λk H''=>Pv (i+1) (zs++[k]) H''
 fin:∀zs H',Pv vs.length zs H'->∃ans,KP H' zs ans/\∀D p,H' D=none->Ord vs.length p->(2<=vs.length->p=ansT ans (kas_sort vs.length))->Q (.ref D) (upd H' D (.lst (p.toList.map λi=>vs.getD i .non)))
noncomputable def xc(n:Nat):List V:=(Qd n).map λi:Nat=>V.int (i:Int)
theorem zb9{n:Nat}(hl:its.length=n)(hv:∀(i:Nat) v,its[i]?=some v->∃t,v=.int i t):zn (xc n) its:=by
 induction n generalizing its with
 |zero=>
  have:its=[]:=CU hl;subst this;exact .nil
 |succ n ih=>
  have ne:its≠[]:=λz=>by rw[z] at hl;cases hl
  have e:=(List.dropLast_concat_getLast ne).symm;have ld:its.dropLast.length=n:=by rw[List.length_dropLast];lia
  have h1:=ih (its:=its.dropLast) ld λi v hi=>hv i v (by rw[e,Qf (pD.mp hi).1];exact hi)
  obtain⟨t,ht⟩:=hv n (its.getLast ne) (by rw[List.getLast_eq_getElem,pG (by lia)];simp[hl])
  unfold xc;rw[Ge,ug,e];exact YA h1 ⟨t,by simpa using ht⟩
section
variable{X:Cx}{pins:List (Addr×Obj)}{σ:St}{H:Hp}{s:pC}
theorem zav{KP:KPT}{k n:Nat}{x ql:Str}{params:Be}{body:Expr}{sc:Scope}{c':Addr}{clos:List (Str×Addr)}{js:List Nat}{pm:pB}{vys:List V}{te:TE}{Q:VK}{Pv:Nat->List V->Hp->Prop}{t u v:Tok}(I:Inv X pins σ H s)(hKP:vm X KP)(hr:zX (k+2) X.A)(S:Yh x (clos.map UG) sc)
  (nd:(clos.map UG).Nodup)(hcap:Capt X clos js)(hσ:js.map (λj=>σ[j]?)=vys.map (λv=>some (some v)))(hfa:yY X pins H fa)(hfo:s.heap.get? fa=some (kla_obj "<lambda>" ql params body sc clos pm c' ctv))
  (hbind:∀u,AF (kla_fn "<lambda>" ql params body sc clos pm (.ref c') ctv) ⟨[u],[]⟩=pure [(x,u)])(hbody:∀(A:uQ)(s:pC)(H:Hp),A.units+64<cLine->PE (qk X.prog X.w X.K X.mg X.base x ql sc fa (.ref c') clos A X.stack s H) body te)
  (hrg:IsRange s.heap r 0 n 1 t u v)(h64:n<64)(R:KeyRG KP te vys c' ql (xc n) H Q Pv):wpAny (model X.prog X.w) X.A (call (.builtin "sorted") [.ref r] [(uT "key",.ref fa)]) (EP X pins σ Q) X.xe s:=by
 have un:=hr.un;have inj:∀y z d,(y,d)∈clos->(z,d)∈clos->y=z:=λy z d h1 h2=>I.ok.inj _ _ d (hcap.mem h1) (hcap.mem h2);have lv:(xc n).length=n:=by unfold xc;rw[pL,QM]
 refine zb7 hr.hd hrg h64 λits D kS e1 h' tk ln hits sD kk lt hD hkS=>?_;have rv:=zb9 ln hits;have len:(xc n).length=its.length:=by lia
 have sK:s.heap.objs.size<=kS:=by lia
 have fD:=I.fpOk sD (I.hok.fresh sD);have fK:=I.fpOk sK (I.hok.fresh sK);have faD:fa≠D:=uF (po (pb hfo) sD);have faK:fa≠kS:=uF (po (pb hfo) sK);have DK:D≠kS:=uF lt;have nseq:∀(b:Array pB)(m:Nat)(v:Option pB),(uC "list" b m).data≠.cell v:=λb m v z=>nomatch (show Ho b m=Dj v from z);have nfun:∀v,(kla_obj "<lambda>" ql params body sc clos pm c' ctv).data≠.cell v:=λv z=>nomatch (show Data.func _=Dj v from z);have pin3:∀{ks:List pB}{e:Nat}{H':Hp}{s':pC},Inv X pins σ H' s'->H' fa=none->H' D=none->H' kS=none->s'.heap.get? fa=some (kla_obj "<lambda>" ql params body sc clos pm c' ctv)->s'.heap.get? D=some (uC "list" #[] e1)->s'.heap.get? kS=some (uC "list" ks.toArray e)->
   Inv X (pins++[(fa,kla_obj "<lambda>" ql params body sc clos pm c' ctv),(D,uC "list" #[] e1),(kS,uC "list" ks.toArray e)]) σ H' s':=λ{ks e H' s'} J n1 n2 n3 o1 o2 o3=>by
  refine J.pins_of λp hp=>?_;rcases pP.mp hp with hp|hp
  ·exact J.pin p (pI _ hp)
  ·simp only[pR,QJ,or_false] at hp;rcases hp with rfl|rfl|rfl
   ·exact⟨o1,n1,hfa.2.1,hfa.2.2.1,nfun⟩
   ·exact⟨o2,n2,fD.2.1,fD.2.2.1,nseq _ _⟩
   ·exact⟨o3,n3,fK.2.1,fK.2.2.1,nseq _ _⟩
 have of3:∀{ks:List pB}{e:Nat}{H':Hp}{s':pC},Inv X (pins++[(fa,kla_obj "<lambda>" ql params body sc clos pm c' ctv),(D,uC "list" #[] e1),(kS,uC "list" ks.toArray e)]) σ H' s'->
   Inv X pins σ H' s'/\(H' fa=none/\H' D=none/\H' kS=none)/\s'.heap.get? fa=some (kla_obj "<lambda>" ql params body sc clos pm c' ctv)/\s'.heap.get? D=some (uC "list" #[] e1)/\s'.heap.get? kS=some (uC "list" ks.toArray e):=λ{ks e H' s'} J=>by
  have p1:=J.pin (fa,kla_obj "<lambda>" ql params body sc clos pm c' ctv) (pI _ (pI _ (by simp)))
  have p2:=J.pin (D,uC "list" #[] e1) (pI _ (pI _ (by simp)))
  have p3:=J.pin (kS,uC "list" ks.toArray e) (pI _ (pI _ (by simp)))
  exact⟨J.unpinned,⟨p1.2.1,p2.2.1,p3.2.1⟩,p1.1,p2.1,p3.1⟩
 refine⟨λi ks e s'=>∃H' zs,Inv X (pins++[(fa,kla_obj "<lambda>" ql params body sc clos pm c' ctv),(D,uC "list" #[] e1),(kS,uC "list" ks.toArray e)]) σ H' s'/\zn zs ks/\Pv i zs H',⟨λi ks e s' hJ=>?_,λi u ks e s' hu hJ=>?_,λks e s' hJ=>?_⟩,H,[],?_,.nil,R.start⟩
 ·obtain⟨H',zs,J,r,p⟩:=hJ;exact⟨(of3 J).2.2.2.2,by rw[←r.length];exact R.len _ _ _ p⟩
 ·obtain⟨H',zs,J,r,p⟩:=hJ;obtain⟨J0,⟨n1,n2,n3⟩,o1,o2,o3⟩:=of3 J;obtain⟨v,hv,ru⟩:=vals_get? rv hu;obtain⟨hcells,hlv⟩:=hcap.cells J hσ;have hcd:s'.heap.CodeRec (.ref c') ql:=(J.hok c' _ (R.code _ _ _ p)).1;refine Qe (zef J J.env0.in1.in1 (hr.in1.in1) S nd inj hlv o1 hcd (hbind u) ru hcells (hbody _ s' H' (by show X.A.units+1+1+64<cLine;lia)) (R.turn i zs H' v hv p)) (λu' s'' hs=>?_) λ_ _ z=>z
  obtain⟨kv,H'',J',rk,p'⟩:=hs;obtain⟨J1,⟨m1,m2,m3⟩,q1,q2,q3⟩:=of3 J';refine⟨q3,λc2 hc2=>⟨H'',zs++[kv],?_,YA r rk,p'⟩⟩;have J2:Inv X pins σ H'' {s'' with heap:=s''.heap.update kS (uB (·.push u')),toks:=s''.toks}:=J1.turned (it:=kS) (λb o hb e=>by rw[uv _ _ _ _ hb];exact e) m3 fK.2.1 fK.2.2.2.1 fK.2.2.2.2.1 fK.2.2.2.2.2
  exact pin3 J2 m1 m2 m3 (by show(s''.heap.update kS _).get? fa=_;rw[uv _ _ _ _ faK];exact q1) (by show(s''.heap.update kS _).get? D=_;rw[uv _ _ _ _ DK];exact q2) hc2
 ·obtain⟨H',zs,J,r,p⟩:=hJ;obtain⟨J0,⟨n1,n2,n3⟩,o1,o2,o3⟩:=of3 J;rw[←len] at p;obtain⟨ans,ok,q⟩:=R.fin zs H' p;have zl:=R.len _ _ _ p;have kl:ks.length=its.length:=by rw[←r.length,zl,len]
  obtain⟨κ,k1,k2⟩:=hKP _ _ _ _ _ _ _ J0 r ok;rw[kl] at k1 k2;refine⟨o2,κ,ans,k1,k2,λpm' or ep _=>?_⟩
  ·have J2:Inv X pins σ H' {s' with heap:=s'.heap.update kS (uB λ_=>(#[]:Array pB)),toks:=s'.toks}:=J0.turned (it:=kS) (λb o hb e=>by rw[uv _ _ _ _ hb];exact e) n3 fK.2.1 fK.2.2.2.1 fK.2.2.2.2.1 fK.2.2.2.2.2
   have o4:(s'.heap.update kS (uB λ_=>(#[]:Array pB))).get? D=some (uC "list" #[] e1):=by rw[uv _ _ _ _ DK];exact o2
   rw[←len] at or ep;have lo:pm'.toList.length=(xc n).length:=by rw[or.length_eq,QM]
   obtain⟨c5,o5⟩:∃c5,((s'.heap.update kS (uB λ_=>(#[]:Array pB))).update D (uB λ_=>UC (pm'.toList.map λi=>its.getD i ut))).get? D=some (uC "list" (UC (pm'.toList.map λi=>its.getD i ut)) c5):=⟨_,gP o4 _⟩;refine⟨.ref D,upd H' D (.lst (pm'.toList.map λi=>(xc n).getD i .non)),J2.track (t':=s'.toks) ⟨n2,fD.2⟩ (λb o hb e=>by rw[uv _ _ _ _ hb];exact e) ?_ (ZS _ λi hi=>jU rv i ?_) o5,rfl,q D pm' n2 or ep⟩
   ·rw[pL,lo,lv];exact uK (uq h64) (by decide)
   ·exact Qr.mp (or.mem_iff.mp hi)
 ·have J0:Inv X pins σ H {s with heap:=h',toks:=tk}:=I.kept kk;exact pin3 J0 hfa.1 (I.hok.fresh sD) (I.hok.fresh sK) (kk _ _ hfo) hD hkS
end
section
variable{X:Cx}{p p2 pos pos2 lpos kpos:Pos}{a body:Expr}{params:Be}{sc:Scope}{x:Str}{clos:List (Str×Addr)}{js:List Nat}{c0 P:Addr}{k:Nat}{te:TE}{ta:TA}
def Zu(KP:KPT)(P:Addr)(lpos:Pos)(ql:Str)(js:List Nat)(te:TE)(ta:TA):TE:=λσ H Q=>ta σ H λxs H1=>∃(n:Nat)(vys:List V),xs=[.int (n:Int)]/\n<64/\js.map (λj=>σ[j]?)=vys.map (λv=>some (some v))/\zE H1 P lpos ql/\
 ∀c' H2,ym P H1 H2->zE H2 P lpos ql->H2 c'=some (xB c' ql)->∃Pv,KeyRG KP te vys c' ql (xc n) H2 Q Pv
def zc3{KP:KPT}(hKP:vm X KP)(hr:zX (k+2) X.A)(hg:Gl X "sorted")(hm:X.mg "sorted"=none)(hg2:Gl X "range")(hm2:X.mg "range"=none)(ha:PA X [a] ta)(S:Yh x (clos.map UG) sc)(nd:(clos.map UG).Nodup)(hcap:Capt X clos js)
  (hclos:ED sc X.env=pure clos)(hdef:Gx params X.env=([],[]))(hcode:X.env.code=.ref c0)(C:CodeHd X.base c0 P)(hB:X.base.BuiltinsAt X.mg P)
  (hbind:∀(pm cd ctv u:pB),AF (kla_fn "<lambda>" (X.env.qual++"<lambda>") params body sc clos pm cd ctv) ⟨[u],[]⟩=pure [(x,u)])
  (hbody:∀(fa c':Addr)(A:uQ)(s:pC)(H:Hp),A.units+64<cLine->PE (qk X.prog X.w X.K X.mg X.base x (X.env.qual++"<lambda>") sc fa (.ref c') clos A X.stack s H) body te)
  (hs:ur [a] X.env=[(false,eval a X.env)]:=by rfl)
  (he:Ad pos (ur [.Call (.Name "range" p2) [a] [] pos2] X.env)=(false,eval (.Call (.Name "range" p2) [a] [] pos2) X.env)::Ad pos (ur [] X.env):=by rfl) (hpl:(Ad pos (ur [.Call (.Name "range" p2) [a] [] pos2] X.env)).any (·.1)=false:=by rfl):
  PE X (.Call (.Name "sorted" p) [.Call (.Name "range" p2) [a] [] pos2] [⟨some "key",.Lambda params body sc lpos,kpos⟩] pos) (Zu KP P lpos (X.env.qual++"<lambda>") js te ta):=by
 intro pins s σ H Q I h;refine gX (xG I hg hm YH ?_);refine GV ?_ he hpl rfl rfl;rw[he];refine BW ?_;refine Call_ (xG I hg2 hm2 Gp (Ql (thn (ha pos2 pins s σ H _ I h) λus s1⟨vs,H1,I1,r1,q1⟩=>?_) hs rfl));obtain⟨n,vys,ev,h64,hσ,ht,q⟩:=q1;subst ev;obtain⟨u,rfl,ru⟩:=vals1 r1;obtain⟨t,rfl⟩:=ru;refine call_range_1 ?_;have I2:Inv X pins σ H1 {s1 with heap:=s1.heap.push {cls:=.type "range",data:=.fields #[.int 0 s1.toks,.int (n:Int) t,.int 1 (s1.toks+1)]},toks:=s1.toks+1+1}:=I1.kept λb o e=>pH _ e;have o2:(s1.heap.push {cls:=.type "range",data:=.fields #[.int 0 s1.toks,.int (n:Int) t,.int 1 (s1.toks+1)]}).get? s1.heap.objs.size=some {cls:=.type "range",data:=.fields #[.int 0 s1.toks,.int (n:Int) t,.int 1 (s1.toks+1)]}:=pd _ rfl;have fR:=I1.fpOk (pJ _) (I1.hok.fresh (pJ _));have I3:Inv X (pins++[(s1.heap.objs.size,{cls:=.type "range",data:=.fields #[.int 0 s1.toks,.int (n:Int) t,.int 1 (s1.toks+1)]})]) σ H1 {s1 with heap:=s1.heap.push {cls:=.type "range",data:=.fields #[.int 0 s1.toks,.int (n:Int) t,.int 1 (s1.toks+1)]},toks:=s1.toks+1+1}:=by
  refine I2.pins_of λp hp=>?_;rcases pP.mp hp with hp|hp
  ·exact I2.pin p (pI _ hp)
  ·have e:=pN.mp hp;subst e;exact⟨o2,fR.1,fR.2.1,fR.2.2.1,λv z=>nomatch (show GQ _=Dj v from z)⟩
 refine DT ?_;refine kws_cons (V7 (C:=C) I3 hcode hB hclos hdef ht λfa c' ctv H2 s2 I4 st lt hfo hc' ffa=>kws_nil ?_);obtain⟨Pv,R⟩:=q c' H2 st lt hc';have pr:=I4.pin _ (pI _ (pI _ (pN.mpr rfl)));refine zav (r:=s1.heap.objs.size) (n:=n) I4.unpinned hKP hr S nd hcap hσ ⟨ffa.1,ffa.2.1,ffa.2.2.1,ffa.2.2.2.1,ffa.2.2.2.2.1,λp hp=>?_⟩ hfo (λu=>hbind _ _ _ u) (hbody fa c') pr.1 h64 R;refine ffa.2.2.2.2.2 p ?_;rcases pP.mp hp with hp|hp
 ·exact uD _ hp
 ·exact pI _ (uD _ hp)
end
section
open PySem.SeqAt
open PySem.AutoSeq1 (wpAny_loadPart')
open PySem.MeetsSeq PySem.MeetsSeq2 PySem.MeetsSeq3
def geRc{A:uQ}{s:pC}{a c:Int}{t u:Tok}(prog:pi)(w:uR)(E:pB->pC->Prop)(Q:pB->pC->Prop)(h:Q (.bool (decide (c<=a))) s):wpAny (model prog w) A (Ei .GtE (.int a t) (.int c u)) Q E s:=
 (PyProof.Rows.ge_int h:wpAny (model prog w) A (UZ .GtE (.int a t) (.int c u)) Q E s)
theorem tupleGe(l b:Addr)(items items2:Array pB)(n n2:Nat)(dd dd2:Option Addr)(sl sl2:Array (Option pB))(ns ms:List Int)(hlen:ns.length=ms.length)(hi:gq items.toList ns)(hj:gq items2.toList ms):
  Meets (Av.«tuple.__ge__» ⟨[.ref l,.ref b],[]⟩)
   (λ_ R s=>s.heap.get? l=some {cls:=.type "tuple",dict:=dd,data:=.seq items n,slots:=sl}/\s.heap.get? b=some {cls:=.type "tuple",dict:=dd2,data:=.seq items2 n2,slots:=sl2}/\R (.ok (.ret (.bool (!HT.lexLt ns ms)))) s):=
 .of_wp λprog w A R s h=>by
  obtain⟨hp,g,d,tk,os⟩:=s;obtain⟨hl,hb,h⟩:=h;have f2:=Db;have z1:items.size=ns.length:=by rw[←hi.length];simp
  have z2:items2.size=ms.length:=by rw[←hj.length];simp
  wp_walk using Us hl,Us hb,AR _ (λrest b s'=>b.1=none/\s'=⟨hp,g,d,tk,os⟩/\∃(vs ws:List pB)(ns' ms':List Int),rest=vs.zip ws/\gq vs ns'/\gq ws ms'/\ns'.length=ms'.length/\R (.ok (.ret (.bool (!HT.lexLt ns' ms')))) ⟨hp,g,d,tk,os⟩) _
  case turn=>
   rintro⟨y,x⟩ rest b s' ⟨hb',rfl,vs,ws,ns',ms',hz,hvi,hwi,hln,hR⟩
   cases hvi with
   |nil=>rw[Ff] at hz;cases hz
   |cons a t hv=>
    cases hwi with
    |nil=>rw[FM] at hz;cases hz
    |cons c u hw=>
     rw[Ag] at hz
     injection hz with q1 q2
     injection q1 with q3 q4
     subst q3 q4;rw[HT.lexLt_cons] at hR;simp only[uZ] at hln;obtain⟨e,he,hiff⟩:=HT.eqAt_int A.in1 ⟨hp,g,d,tk,os⟩ a t c u;refine pA (he prog w _ _ ?_)
     cases e with
     |true=>
      rw[if_pos (hiff.mp rfl)] at hR
      wp_walk
      exact⟨rfl,rfl,_,_,_,_,q2,hv,hw,by lia,hR⟩
     |false=>
      have ac:¬a=c:=λq=>absurd (hiff.mpr q) uH;rw[if_neg ac] at hR;have hR:R (.ok (.ret (.bool (decide (c<=a))))) ⟨hp,g,d,tk,os⟩:=by
       have e2:(!decide (a<c))=decide (c<=a):=by rw[gO];simp
       rw[←e2];exact hR
      have hri:=geRc (A:=A.in1) (s:=⟨hp,g,d,tk,os⟩) (a:=a) (c:=c) (t:=t) (u:=u) prog w
      wp_walk using hri
      exact⟨_,rfl,by simpa using hR⟩
  case fin=>
   rintro⟨b1,b2⟩ s' ⟨hb',rfl,vs,ws,ns',ms',hz,hvi,hwi,hln,hR⟩
   simp only at hb'
   subst hb';have hv:(!HT.lexLt ns' ms')=decide (items2.size<=items.size):=by
    rw[decide_eq_true (by lia)]
    cases hvi with
    |nil=>
     cases hwi with
     |nil=>rfl
     |cons c u hw=>cases hln
    |cons a t hv=>
     cases hwi with
     |nil=>cases hln
     |cons c u hw=>rw[Ag] at hz;cases hz
   rw[hv] at hR
   wp_walk
   exact⟨_,rfl,by simpa[CF] using hR⟩
  case h=>
   exact⟨rfl,rfl,items.toList,items2.toList,ns,ms,rfl,hi,hj,hlen,h⟩
end
section
variable{X:Cx}
def rGe2:R2:=λx y H Q=>∃a b i1 i2 j1 j2,x=.ref a/\y=.ref b/\H a=some (.tup [.int i1,.int i2])/\H b=some (.tup [.int j1,.int j2])/\Q (.bl (!lt2 (i1,i2) (j1,j2))) H
theorem op_ge2(hu:X.A.units+64<cLine):OpR X (UZ .GtE) rGe2:=by
 intro pins s σ H x y v u Q I rx ry h;obtain⟨a,b,i1,i2,j1,j2,rfl,rfl,ha,hb,q⟩:=h
 cases rx
 cases ry;have sa:SqT X.K H a ([i1,i2].map V.int):=.of ha;have sb:SqT X.K H b ([j1,j2].map V.int):=.of hb;obtain⟨its,r1,p1,_⟩:=I.tuple sa;obtain⟨its2,r2,p2,_⟩:=I.tuple sb;have e1:gq its.toArray.toList [i1,i2]:=qd r1;have e2:gq its2.toArray.toList [j1,j2]:=qd r2;obtain⟨⟨cls,dd,data,sl⟩,ho,hc,n,hd⟩:=id p1;obtain⟨⟨cls2,dd2,data2,sl2⟩,ho2,hc2,n2,hd2⟩:=id p2
 simp only at hc hd hc2 hd2
 subst hc hd hc2 hd2;have ev:HT.lexLt [i1,i2] [j1,j2]=lt2 (i1,i2) (j1,j2):=lex2 _ _ _ _;refine EH (op:=.GtE) ⟨_,ho,rfl⟩ ⟨_,ho2,rfl⟩ PySem.F.slot_tuple_ge PySem.F.entry_tuple_ge (PySem.F.args_tuple_ge_2 _ _) (tupleGe a b its.toArray its2.toArray n n2 dd dd2 sl sl2 [i1,i2] [j1,j2] rfl e1 e2) ⟨ho,ho2,(λz=>nomatch z),?_⟩ (by lia)
 rw[ev];exact⟨.bl _,H,I,rfl,q⟩
end
open PySem.W (kla_fn kla_obj envX tabObj CodeHd KasT kas_sort kas_ask kas_item)
section
variable{prog:pi}{w:uR}{A:uQ}{E:pB->pC->Prop}{s:pC}{vs ks:List pB}{g:Heap}{a kS:Addr}{e e1:Nat}{f:pB}
def W5{x:pW}(h:x∈ks.toArray.zip vs.toArray):x.1∈ks:=by
 have h:x∈(ks.toArray.zip vs.toArray).toList:=Eo.mpr h;rw[GJ] at h;exact(Ca h).1
theorem Z5{st:QF}{ys:List pB}{P:gJ->pC->Prop}(hs:(arrOf st).map (·.2)=ys.toArray)(hf:BG st=none)(hz:ys.length=vs.length)(zl:vs.length<=sizeLine)(hkl:ks.length<=sizeLine)(nak:a≠kS)
  (hk:s.heap.get? kS=some (uC "list" ks.toArray e))(ha:s.heap.get? a=some (uC "list" #[] e1))
  (q:P (.done (.ret .none)) {s with heap:=(s.heap.update kS (uB λ_=>(#[]:Array pB))).update a (uB λ_=>ys.toArray)}):
  wpAny (model prog w) A (Gy a false e1 (.ref kS) st) P E s:=by
 have ha2:(s.heap.update kS (uB λ_=>(#[]:Array pB))).get? a=some (uC "list" #[] e1):=by rw[uv _ _ _ _ nak];exact ha
 unfold Gy;dsimp only;rw[hs];refine pA (AJ hk rfl ?_ (by rw[pe];exact hkl) (uJ _))
 refine pA (Aa ?_);refine pA (El ha2 rfl ?_);refine pA (AJ ha2 rfl ?_ (uJ _) (by simp only[uI,if_false];rw[pe,hz];lia))
 rw[hf];simp only[bne_self_eq_false,uI,if_false];exact pK q
end
section
variable{X:Cx}
def zem{k:Key}{v:pB}(h:vB k v):zm (kV k) v:=by
 rcases wg h with⟨i,t,rfl,rfl⟩|⟨x,t,rfl,rfl⟩
 ·exact⟨t,rfl⟩
 ·exact⟨t,rfl⟩
theorem zdu{P:pi}{w:uR}:∀{es:List Bg}{vs:List (Key×pB)},Pairs (yG P w) es vs->zn (vs.map λkv=>kV kv.1) (es.map (·.key)):=by
 intro es vs h
 induction h with
 |nil=>exact .nil
 |cons h1 h2 h3 ih=>exact .cons (zem h1) ih
def ZN:List V->Hp->VK->Prop:=λxs H Q=>∃d kvs,xs=[.ref d]/\H d=some (.dK kvs)/\∀l,H l=none->Q (.ref l) (upd H l (.lst (kvs.map λkv=>kV kv.1)))
theorem zfc(hc:X.calm=true):yC X (.type "list") ZN:=by
 intro pins s σ H xs us Q I r h;obtain⟨d,kvs,rfl,e,q⟩:=h;obtain⟨u,rfl,rx⟩:=vals1 r
 cases rx;obtain⟨z,hd,vs,rel,o,es,ep,ho,hx,hdat,_,hp,_⟩:=I.hok d _ e;have kv:zn (kvs.map λkv=>kV kv.1) (es.toList.map (·.key)):=by
  have e1:(kvs.map λkv=>kV kv.1)=vs.map λkv=>kV kv.1:=by
   clear hp e q z
   rename_i nodup_
   clear nodup_
   induction rel with
   |nil=>rfl
   |cons h1 h2 ih=>rw[pj,pj,ih,h1.1]
  rw[e1];exact zdu hp
 have ls:es.size=kvs.length:=by
  have:=kv.length;rw[pL,pL] at this
  simpa using this.symm
 refine Ww (I.ok.hd hc) hd ho hx.1 hdat (λh' tk acc' c' kp hS hacc=>?_) (by lia)
 have ea:acc'.toList=es.toList.map (·.key):=by
  refine Aq λj=>?_;rw[pQ,ui,ui];have ha:acc'.size=es.size:=hacc.1
  by_cases hj:j<es.size
  ·have hj':j<acc'.size:=by lia
   obtain⟨e,e1,e2⟩:=hacc.2 j acc'[j] (uM hj');rw[uM hj',e1,e2];rfl
  ·rw[UT (by lia),UT (by lia)]
   rfl
 refine⟨.ref s.heap.objs.size,_,I.laid (t':=tk) kp (pJ _) (o:=.lst (kvs.map λkv=>kV kv.1)) ⟨by rw[pL];exact z,acc'.toList,c',by rw[ea];exact kv,by simpa using hS⟩,rfl,q _ (I.hok.fresh (pJ _))⟩
def XD:List V->Hp->VK->Prop:=λxs H Q=>∃l ns,xs=[.ref l]/\H l=some (.lst (ns.map V.int))/\ns.length<64/\∀D(ms:List Int),H D=none->ms.Perm ns->ms.Pairwise (·<=·)->Q (.ref D) (upd H D (.lst (ms.map V.int)))
theorem VS(hu:X.A.units+100<cLine):yC X (.builtin "sorted") XD:=by
 intro pins s σ H xs us Q I r h;obtain⟨l,ns,rfl,hl,h64,q⟩:=h;obtain⟨u,rfl,ru⟩:=vals1 r
 cases ru;obtain⟨its,rv,pl,hz⟩:=I.list (.of hl);have len:ns.length=its.length:=by have:=rv.length;rw[pL] at this;exact this
 refine sorted_ints pl.isList (qd rv) (by lia) λout ms a1 a2 a3=>?_
 have k0:yN s.heap s.heap:=λ_ _ e=>e;have k2:=((k0.push (uC "list" #[] 0)).upd (a:=s.heap.objs.size) (f:=uB (·++its.toArray)) (pJ _)).push (uC "list" its.toArray 0);have z2:((s.heap.push (uC "list" #[] 0)).update s.heap.objs.size (uB (·++its.toArray))).objs.size=s.heap.objs.size+1:=by
  rw[GK,size_push']
 have o2:(((s.heap.push (uC "list" #[] 0)).update s.heap.objs.size (uB (·++its.toArray))).push (uC "list" its.toArray 0)).get? (s.heap.objs.size+1)=some (uC "list" its.toArray 0):=
  z2▸pd _ rfl
 have o3:=gP o2 λ_=>(#[]:Array pB);have o5:=gP (pH (uC "list" #[] 0) (pH (uC "tuple" its.toArray 0) o3)) λ_=>out;have k5:yN s.heap (sortedAll s.heap its out):=(((k2.upd (a:=s.heap.objs.size+1) (f:=uB λ_=>(#[]:Array pB)) (gS _)).push (uC "tuple" its.toArray 0)).push (uC "list" #[] 0)).upd (a:=s.heap.objs.size+1) (f:=uB λ_=>out) (gS _);refine⟨.ref _,upd H (s.heap.objs.size+1) (.lst (ms.map V.int)),I.laid (t':=s.toks) k5 (gS _) ⟨?_,out.toList,_,XW a1,o5⟩,rfl,q _ _ (I.hok.fresh (gS _)) a2 a3⟩;rw[pL,a2.length_eq];exact uK (uq h64) (by decide)
end
noncomputable def Ite(K:pF)(l:Addr):It:=
 ⟨λi H=>∃xs x,SqL K H l xs/\xs[i]?=some x,
  λi H v H'=>∃T x,H T=none/\v=.ref T/\H'=upd H T (.tup [.int (i:Int),x])/\(∀xs,SqL K H l xs->xs[i]?=some x),
  λi H=>∃xs,SqL K H l xs/\xs.length<=i⟩
def EnuSt(e it l:Addr)(i:Nat)(h:Heap):Prop:=∃old,IsEnum h e it (i:Int) old/\h.IsListIter it l i
variable{elts:List Expr}
theorem zbd{P:pi}{w:uR}{K:pF}{x1:Nat}{pos:Pos}{e it l:Addr}(ne:e≠it):
  Turn P w K (.Tuple elts x1 pos) (Ite K l) [e,it] e (EnuSt e it l) where
 mem:=by simp
 obj:=λi h st b hb=>by
  obtain⟨old,he,h1⟩:=st;simp only[pR,QJ,or_false] at hb;rcases hb with rfl|rfl
  ·exact⟨_,he,λv q=>by cases q⟩
  ·obtain⟨o,q,c,d⟩:=h1;exact⟨o,q,λv r=>by rw[d] at r;cases r⟩
 keep:=λi h h' st k=>by
  obtain⟨old,he,h1⟩:=st;exact⟨old,k e (by simp) _ he,h1.at λo q=>k it (by simp) o q⟩
 item:=by
  intro X hP hw hK hc i pins s σ H E I hf st hg;subst hP hw hK;obtain⟨xs,x,hq1,hx⟩:=hg;obtain⟨old,he,h1⟩:=st;obtain⟨its1,rv1,p1,_⟩:=I.list hq1;obtain⟨u1,hu1,ru1⟩:=rv1.get hx;refine wpAny_pyNext_enum_item he h1 p1.isList (x:=u1) (by simpa using hu1) ne λh₁ z1 j1 pr sz kk=>⟨_,rfl,?_⟩
  refine wpAny_letOwnedTupleGo_enum z1 λh₂ z2 sb=>?_;have lt:∀b∈[e,it],b≠s.heap.objs.size:=λb hb z=>by
   have:∃o,s.heap.get? b=some o:=by
    simp only[pR,QJ,or_false] at hb;rcases hb with rfl|rfl
    ·exact⟨_,he⟩
    ·obtain⟨o,q,_⟩:=h1;exact⟨o,q⟩
   obtain⟨o,q⟩:=this;exact absurd (pb q) (by rw[z];exact Ul _)
  have nz:∀{b:Addr},b≠e->∀{o},h₁.get? b=some o->h₂.get? b=some o:=λ{b} hb{o} q=>(sb.2 b hb).trans q;have zT:s.heap.objs.size≠e:=(lt e (by simp)).symm
  have hnT:H s.heap.objs.size=none:=I.hok.fresh (pJ _);have new:yf X.prog X.w (upd H s.heap.objs.size (.tup [.int (i:Int),x])) h₂ s.heap.objs.size (.tup [.int (i:Int),x]):=
   ⟨by show 2<=sizeLine;decide,[.int i s.toks,u1],.cons ⟨_,rfl⟩ (.cons ru1 .nil),⟨_,nz zT pr,rfl,_,rfl⟩⟩
  have I1:=Inv.turnedNew (h':=h₂) (t':=s.toks+1) (ch:=[e,it]) I hf (λb o hb q=>nz (by simp at hb;exact hb.1) (kk b o (by simp at hb;exact hb.1) (by simp at hb;exact hb.2) q)) (pJ _) new
  refine⟨.ref s.heap.objs.size,_,I1,rfl,⟨_,x,hnT,rfl,rfl,λys' hy'=>by rw[I.list_inj hy' hq1];exact hx⟩,⟨u1,?_,?_⟩,λb hb=>by rw[zh (lt b hb)];exact(hf b hb).1⟩
  ·exact z2
  ·exact j1.at λo q=>nz (gQ ne) q
 done:=by
  intro X hP hw hK hc i pins s σ H E I hf st hg;subst hP hw hK;obtain⟨xs,hq1,hl⟩:=hg;obtain⟨old,he,h1⟩:=st;obtain⟨its1,rv1,p1,_⟩:=I.list hq1;have e1:=rv1.length;refine wpAny_pyNext_enum_end (I.ok.hd hc) he h1 p1.isList (by simp;lia) λh₁ kk=>⟨rfl,?_⟩
  exact I.turnedL (t':=s.toks) (ch:=[e,it]) hf (λb o hb q=>kk b o (by simp at hb;exact hb.2) q)
 self:=λ_ _ _ _ _ st h=>by
  obtain⟨old,he,_⟩:=st;exact Fo he h
section
variable{X:Cx}
def iEnu(ta:TA):TI:=λσ H R=>ta σ H λvs H1=>∃l xs,vs=[.ref l]/\H1 l=some (.lst xs)/\∀K,R (Ite K l) H1
def ze2:Qc "enumerate"=some (.type "enumerate"):=by decide+kernel
theorem pi_enu{a:Expr}{ta:TA}{p pos tpos:Pos}{x1:Nat}(hg:Gl X "enumerate")(hm:X.mg "enumerate"=none)(ha:PA X [a] ta)(hs:ur [a] X.env=[(false,eval a X.env)]:=by rfl):PI X (.Tuple elts x1 tpos) (.Call (.Name "enumerate" p) [a] [] pos) (iEnu ta):=by
 intro pins s σ H R I h;refine Call_ (xG I hg hm ze2 (Ql (thn (ha pos pins s σ H _ I h) λus s1⟨vs,H1,I1,r1,q1⟩=>?_) (by rw[hs];rfl) rfl))
 obtain⟨l,xs,e,e1,q⟩:=q1;subst e;obtain⟨u,rfl,ru⟩:=vals1 r1
 cases ru;obtain⟨its1,rv1,p1,_⟩:=I1.list (.of e1);refine call_enumerate_list p1.isList λh' he hi sz kk=>?_;refine Fo he ?_;have I2:Inv X pins σ H1 {s1 with heap:=h'}:=I1.kept (t':=s1.toks) kk;refine⟨_,_,_,_,H1,rfl,I2,zbd (l:=l) (by show s1.heap.objs.size+1≠s1.heap.objs.size;lia),⟨_,he,hi⟩,λb hb=>?_,q _⟩
 have hb':s1.heap.objs.size<=b:=by
  simp only[pR,QJ,or_false] at hb;rcases hb with rfl|rfl
  ·exact gU _ _
  ·exact pJ _
 exact I1.fpOk hb' (I1.hok.fresh hb')
end
theorem for_enu{K:pF}{l:Addr}{xs:List V}{g:TG}{tb:TS}{D:Ends}{σ:St}{H:Hp}(Pv:Nat->St->Hp->Prop)(h0:Pv 0 σ H)(hl:∀i σ H,Pv i σ H->H l=some (.lst xs))
  (hs:∀i x T σ H,xs[i]?=some x->Pv i σ H->H T=none->g (.ref T) σ (upd H T (.tup [.int (i:Int),x])) λσ2 H2=>tb {D with nx:=Pv (i+1),ct:=Pv (i+1),bk:=D.nx} σ2 H2)(hd:∀σ H,Pv xs.length σ H->D.nx σ H):
  ∃W:Nat->Nat->St->Hp->Prop,(∃m,W 0 m σ H)/\∀i m σ H,W i m σ H->
   ((Ite K l).stop i H/\D.nx σ H)∨((Ite K l).go i H/\∃N:St->Hp->Prop,(∀σ' H',N σ' H'->∃m',m'<m/\W (i+1) m' σ' H')/\∀x H',(Ite K l).yld i H x H'->g x σ H' λσ2 H2=>tb {D with nx:=N,ct:=N,bk:=D.nx} σ2 H2):=by
 refine⟨λi m σ H=>m=xs.length-i/\i<=xs.length/\Pv i σ H,⟨xs.length,by simp,uJ _,h0⟩,?_⟩
 rintro i m σ H ⟨rfl,hi,p⟩;have q1:=hl i σ H p
 by_cases hlt:i<xs.length
 ·refine .inr ⟨⟨xs,xs[i],.of q1,by simp[hlt]⟩,Pv (i+1),λσ' H' p'=>⟨xs.length-(i+1),by lia,rfl,hlt,p'⟩,λv H' y=>?_⟩
  obtain⟨T,x,hT,rfl,rfl,y1⟩:=y;exact hs i x T σ H (y1 xs (.of q1)) p hT
 ·have e:i=xs.length:=by lia
  subst e;exact .inl ⟨⟨xs,.of q1,pJ _⟩,hd σ H p⟩
section
variable{X:Cx}
def rNotInT(K:pF):R2:=λx y H Q=>∃d es,RdD K H d x/\RdD K H (.tuple es) y/\d.canLay0=true/\uX es=true/\d.depth<=60/\Q (.bl (!es.any λe=>uj e d)) H
theorem zds{K':pF}(hK:X.K=K')(hu:X.A.units+64<cLine):OpR X (UZ .NotIn) (rNotInT K'):=by
 subst hK;intro pins s σ H x y v u Q I rx ry h;obtain⟨d,es,hd,he,c1,c2,c3,q⟩:=h;obtain⟨as,ra⟩:=wB I d x v hd rx;obtain⟨bs,rb⟩:=wB I _ y u he ry;exact SeqAt.notIn_tuple_reads rb ra c2 c1 (by lia) ⟨.bl _,H,I,rfl,q⟩
end
structure WkT{α:Type}(an:α->α->Bool):Prop where
 irr:∀i,an i i=false
 tr:∀i j k,an i j=true->an j k=true->an i k=true
 cut:∀i j k,an i j=false->an j k=false->an i k=false
variable{α:Type}
theorem WkT.asymm{an:α->α->Bool}(T:WkT an){a b:α}(h:an a b=true):an b a=false:=by
 cases e:an b a with
 |false=>rfl
 |true=>have:=T.tr _ _ _ h e;rw[T.irr] at this;cases this
def UpL(an:α->α->Bool)(l:List α):Prop:=l.Pairwise λx y=>an y x=false
variable{base hint:Nat}{key:pW}
section
variable{prog:pi}{w:uR}{A:uQ}{E:pB->pC->Prop}{s:pC}{a₀:Array pW}{κ:UM}{an:pW->pW->Bool}
def QR(prog:pi)(w:uR)(A:uQ)(E:pB->pC->Prop)(s:pC)(κ:UM)(a₀:Array pW)(an:pW->pW->Bool):Prop:=
 ∀(x y:pW)(st:QF)(Q:Option Bool->QF->Prop),x∈a₀->y∈a₀->kindOf st=κ->Q (some (an x y)) st->wpS (model prog w) A E s (lt' x y) Q st
theorem Zq(hq:QR prog w A E s κ a₀ an){left:Bool}{arr:Array pW}{n:Nat}{st:QF}{Q:Option Nat->QF->Prop}(hk:key∈a₀)(ha:∀x,x∈arr->x∈a₀)(hb:base+n<=arr.size)(hh:hint<n)(hκ:kindOf st=κ)
  (be:Nat->Bool)(hbe:∀i(h:base+i<arr.size),i<n->be i=if left=true then an arr[base+i] key else !an key arr[base+i])(mono:∀i j,i<j->j<n->be j=true->be i=true)
  (h:∀k,k<=n->(∀i,i<k->be i=true)->(∀i,k<=i->i<n->be i=false)->Q (some k) st):
  wpS (model prog w) A E s (gallop' left key arr base n hint) Q st:=by
 have bey:∀(i:Nat)(Q:Option Bool->QF->Prop),i<n->Q (some (be i)) st->wpS (model prog w) A E s ((do let x ←elem' arr (base+i);if left then lt' x key else return(←lt' key x).map (!·)):StateT QF Sem (Option Bool)) Q st:=by
  intro i Q hi hQ;refine pO (yz (by lia) ?_)
  have hx:arr[base+i]∈a₀:=ha _ (UY _);have e:=hbe i (by lia) hi
  cases left with
  |true=>
   rw[if_pos rfl] at e;exact hq _ _ _ _ hx hk hκ (by rw[←e];exact hQ)
  |false=>
   rw[if_neg (by decide)] at e
   exact pO (hq _ _ _ _ hk hx hκ (pU (by show Q (some (!an key arr[base+i])) st;rw[←e];exact hQ)))
 have mono':∀i j,i<=j->j<n->be i=false->be j=false:=λi j hij hj hi=>by
  cases e:be j with
  |false=>rfl
  |true=>
   rcases gc hij with z|z
   ·rw[mono i j z hj e] at hi;cases hi
   ·rw[z,e] at hi;cases hi
 have monoT:∀i j,i<=j->j<n->be j=true->be i=true:=λi j hij hj hi=>by
  rcases gc hij with z|z
  ·exact mono i j z hj hi
  ·rw[z];exact hi
 refine pO (bey hint _ hh ?_)
 cases er:be hint with
 |true=>
  show wpS _ _ _ _ (_>>=_) _ _
  refine pO (UW (QD (I:=λx(c:Option (Option Nat)×Nat×Nat) st'=>st=st'/\c.1=none/\c.2.1<c.2.2/\hint+c.2.1<n/\be (hint+c.2.1)=true/\x+1<=c.2.2) (Q:=λc st'=>st=st'/\c.1=none/\c.2.1<c.2.2/\hint+c.2.1<n/\be (hint+c.2.1)=true/\(n-hint<=c.2.2∨(hint+c.2.2<n/\be (hint+c.2.2)=false))) ?_ ?_ ⟨rfl,rfl,Gf,hh,er,pJ _⟩) ?_)
  ·rintro x ⟨r,lastofs,ofs⟩ st' _ hx ⟨rfl,e,q1,q2,q3,q4⟩;dsimp only at e q1 q2 q3 q4⊢
   by_cases c:ofs≥n-hint
   ·rw[if_pos c];exact pU ⟨rfl,rfl,q1,q2,q3,.inl c⟩
   ·rw[if_neg c];refine pO (bey (hint+ofs) _ (by lia) ?_)
    cases eb:be (hint+ofs) with
    |true=>exact pU ⟨rfl,rfl,(by show ofs<2*ofs+1;lia),(by show hint+ofs<n;lia),eb,(by show x+1+1<=2*ofs+1;lia)⟩
    |false=>exact pU ⟨rfl,rfl,q1,q2,q3,.inr ⟨(by show hint+ofs<n;lia),eb⟩⟩
  ·rintro⟨r,lastofs,ofs⟩ st' ⟨rfl,e,q1,q2,q3,q4⟩;dsimp only at e q1 q2 q3 q4⊢;exact⟨rfl,e,q1,q2,q3,.inl (by lia)⟩
  ·rintro⟨r,lastofs,ofs⟩ st' ⟨rfl,e,q1,q2,q3,q4⟩;dsimp only at e q1 q2 q3 q4⊢;subst e;have h3:∀i,i<hint+lastofs+1->be i=true:=λi hi=>monoT i _ (by lia) q2 q3
   have h4:∀i,hint+min ofs (n-hint)<=i->i<n->be i=false:=λi hi hn=>by
       rcases q4 with z|⟨z1,z2⟩
       ·lia
       ·exact mono' (hint+ofs) i (by lia) hn z2
   have h1:hint+lastofs+1<=hint+min ofs (n-hint):=by lia
   have h2:hint+min ofs (n-hint)<=n:=by lia
   show wpS _ _ _ _ (_>>=_) _ _
   refine pO (UW (QD (I:=λx(c:Option (Option Nat)×Nat×Nat) st'=>st=st'/\c.1=none/\c.2.1<=c.2.2/\c.2.2<=n/\(∀i,i<c.2.1->be i=true)/\(∀i,c.2.2<=i->i<n->be i=false)/\c.2.2-c.2.1<=n-x) (Q:=λc st'=>st=st'/\c.1=none/\c.2.2<=n/\(∀i,i<c.2.2->be i=true)/\(∀i,c.2.2<=i->i<n->be i=false)) ?_ ?_ ⟨rfl,rfl,h1,h2,h3,h4,by show hint+min ofs (n-hint)-(hint+lastofs+1)<=n-0;lia⟩) ?_)
   ·rintro x ⟨r,lo,hi⟩ st' _ hx ⟨rfl,e,q1,q2,q3,q4,q5⟩;dsimp only at e q1 q2 q3 q4 q5⊢
    by_cases c:lo≥hi
    ·rw[if_pos c];have el:lo=hi:=by lia
     subst el;exact pU ⟨rfl,rfl,q2,q3,q4⟩
    ·rw[if_neg c];refine pO (bey (lo+(hi-lo)/2) _ (by lia) ?_)
     cases eb:be (lo+(hi-lo)/2) with
     |true=>exact pU ⟨rfl,rfl,(by show lo+(hi-lo)/2+1<=hi;lia),q2,λi hi'=>monoT i _ (by have:i<lo+(hi-lo)/2+1:=hi';lia) (by lia) eb,q4,(by show hi-(lo+(hi-lo)/2+1)<=n-(x+1);lia)⟩
     |false=>exact pU ⟨rfl,rfl,(by show lo<=lo+(hi-lo)/2;lia),(by show lo+(hi-lo)/2<=n;lia),q3,λi hi' hn=>mono' _ i hi' hn eb,(by show lo+(hi-lo)/2-lo<=n-(x+1);lia)⟩
   ·rintro⟨r,lo,hi⟩ st' ⟨rfl,e,q1,q2,q3,q4,q5⟩;dsimp only at e q1 q2 q3 q4 q5⊢;have el:lo=hi:=by lia
    subst el;exact⟨rfl,e,q2,q3,q4⟩
   ·rintro⟨r,lo,hi⟩ st' ⟨rfl,e,q2,q3,q4⟩;dsimp only at e q2 q3 q4⊢;subst e;exact pU (h hi q2 q3 q4)
 |false=>
  show wpS _ _ _ _ (_>>=_) _ _
  refine pO (UW (QD (I:=λx(c:Option (Option Nat)×Nat×Nat) st'=>st=st'/\c.1=none/\c.2.1<c.2.2/\c.2.1<=hint/\be (hint-c.2.1)=false/\x+1<=c.2.2) (Q:=λc st'=>st=st'/\c.1=none/\c.2.1<c.2.2/\c.2.1<=hint/\be (hint-c.2.1)=false/\(hint+1<=c.2.2∨(c.2.2<=hint/\be (hint-c.2.2)=true))) ?_ ?_ ⟨rfl,rfl,Gf,uJ _,er,pJ _⟩) ?_)
  ·rintro x ⟨r,lastofs,ofs⟩ st' _ hx ⟨rfl,e,q1,q2,q3,q4⟩;dsimp only at e q1 q2 q3 q4⊢
   by_cases c:ofs≥hint+1
   ·rw[if_pos c];exact pU ⟨rfl,rfl,q1,q2,q3,.inl c⟩
   ·rw[if_neg c];refine pO (bey (hint-ofs) _ (by lia) ?_)
    cases eb:be (hint-ofs) with
    |true=>exact pU ⟨rfl,rfl,q1,q2,q3,.inr ⟨(by show ofs<=hint;lia),eb⟩⟩
    |false=>exact pU ⟨rfl,rfl,(by show ofs<2*ofs+1;lia),(by show ofs<=hint;lia),eb,(by show x+1+1<=2*ofs+1;lia)⟩
  ·rintro⟨r,lastofs,ofs⟩ st' ⟨rfl,e,q1,q2,q3,q4⟩;dsimp only at e q1 q2 q3 q4⊢;exact⟨rfl,e,q1,q2,q3,.inl (by lia)⟩
  ·rintro⟨r,lastofs,ofs⟩ st' ⟨rfl,e,q1,q2,q3,q4⟩;dsimp only at e q1 q2 q3 q4⊢;subst e;have h3:∀i,i<hint+1-min ofs (hint+1)->be i=true:=λi hi=>by
       rcases q4 with z|⟨z1,z2⟩
       ·lia
       ·exact monoT i (hint-ofs) (by lia) (by lia) z2
   have h4:∀i,hint-lastofs<=i->i<n->be i=false:=λi hi hn=>mono' (hint-lastofs) i hi hn q3;have h1:hint+1-min ofs (hint+1)<=hint-lastofs:=by lia
   have h2:hint-lastofs<=n:=by lia
   show wpS _ _ _ _ (_>>=_) _ _
   refine pO (UW (QD (I:=λx(c:Option (Option Nat)×Nat×Nat) st'=>st=st'/\c.1=none/\c.2.1<=c.2.2/\c.2.2<=n/\(∀i,i<c.2.1->be i=true)/\(∀i,c.2.2<=i->i<n->be i=false)/\c.2.2-c.2.1<=n-x) (Q:=λc st'=>st=st'/\c.1=none/\c.2.2<=n/\(∀i,i<c.2.2->be i=true)/\(∀i,c.2.2<=i->i<n->be i=false)) ?_ ?_ ⟨rfl,rfl,h1,h2,h3,h4,by show hint-lastofs-(hint+1-min ofs (hint+1))<=n-0;lia⟩) ?_)
   ·rintro x ⟨r,lo,hi⟩ st' _ hx ⟨rfl,e,q1,q2,q3,q4,q5⟩;dsimp only at e q1 q2 q3 q4 q5⊢
    by_cases c:lo≥hi
    ·rw[if_pos c];have el:lo=hi:=by lia
     subst el;exact pU ⟨rfl,rfl,q2,q3,q4⟩
    ·rw[if_neg c];refine pO (bey (lo+(hi-lo)/2) _ (by lia) ?_)
     cases eb:be (lo+(hi-lo)/2) with
     |true=>exact pU ⟨rfl,rfl,(by show lo+(hi-lo)/2+1<=hi;lia),q2,λi hi'=>monoT i _ (by have:i<lo+(hi-lo)/2+1:=hi';lia) (by lia) eb,q4,(by show hi-(lo+(hi-lo)/2+1)<=n-(x+1);lia)⟩
     |false=>exact pU ⟨rfl,rfl,(by show lo<=lo+(hi-lo)/2;lia),(by show lo+(hi-lo)/2<=n;lia),q3,λi hi' hn=>mono' _ i hi' hn eb,(by show lo+(hi-lo)/2-lo<=n-(x+1);lia)⟩
   ·rintro⟨r,lo,hi⟩ st' ⟨rfl,e,q1,q2,q3,q4,q5⟩;dsimp only at e q1 q2 q3 q4 q5⊢;have el:lo=hi:=by lia
    subst el;exact⟨rfl,e,q2,q3,q4⟩
   ·rintro⟨r,lo,hi⟩ st' ⟨rfl,e,q2,q3,q4⟩;dsimp only at e q2 q3 q4⊢;subst e;exact pU (h hi q2 q3 q4)
end
def yR{σ:Type}{M:Model}{A:uQ}{E:pB->pC->Prop}{s:pC}{p q:StateT σ Sem α}{Q:α->σ->Prop}{st:σ}{x y:Nat}(h1:x=y->wpS M A E s p Q st)(h2:x≠y->wpS M A E s q Q st):wpS M A E s (if(x==y)=true then p else q) Q st:=by
 by_cases d:(x==y)=true
 ·rw[if_pos d];exact h1 (GH d)
 ·rw[if_neg d];exact h2 λz=>d (by rw[z];exact beq_self_eq_true _)
theorem wifC{σ:Type}{M:Model}{A:uQ}{E:pB->pC->Prop}{s:pC}{p q:StateT σ Sem α}{Q:α->σ->Prop}{st:σ}{c:Prop}{_:Decidable c}(h1:c->wpS M A E s p Q st)(h2:¬c->wpS M A E s q Q st):wpS M A E s (if c then p else q) Q st:=by split<;>(first|exact h1 ‹_›|exact h2 ‹_›)
variable{m:Nat}
section
variable{prog:pi}{w:uR}{A:uQ}{E:pB->pC->Prop}{s:pC}{a₀:Array pW}{κ:UM}{an:pW->pW->Bool}
def we(an:pW->pW->Bool)(arr:Array pW)(base n:Nat):Prop:=∀i j(_:i<j)(_:j<n)(hi:base+i<arr.size)(hj:base+j<arr.size),an arr[base+j] arr[base+i]=false
variable{arr:Array pW}{n:Nat}{st:QF}{Q:Option Nat->QF->Prop}
theorem galR(T:WkT an)(hq:QR prog w A E s κ a₀ an)(hk:key∈a₀)(ha:∀x,x∈arr->x∈a₀)(hb:base+n<=arr.size)(hh:hint<n)(hκ:kindOf st=κ)(so:we an arr base n)
  (h:∀k,k<=n->(∀i,i<k->∀(h:base+i<arr.size),an key arr[base+i]=false)->(∀i,k<=i->i<n->∀(h:base+i<arr.size),an key arr[base+i]=true)->Q (some k) st):
  wpS (model prog w) A E s (gallop' false key arr base n hint) Q st:=by
 refine Zq hq hk ha hb hh hκ (λi=> !an key (arr.getD (base+i) key)) (λi hi hn=>?_) (λi j hij hj e=>?_) λk hk' h1 h2=>h k hk' (λi hi hb'=>?_) λi hi hn hb'=>?_
 ·rw[if_neg (by decide)]
  simp only[Af,hi,dite_true];rfl
 ·have bi:base+i<arr.size:=by lia
  have bj:base+j<arr.size:=by lia
  simp only[Af,bi,bj,dite_true,Bx] at e⊢;exact T.cut _ _ _ e (so i j hij hj bi bj)
 ·have:=h1 i hi;simp only[Af,hb',dite_true,Bx] at this;exact this
 ·have:=h2 i hi hn;simp only[Af,hb',dite_true,FS] at this;exact this
theorem galL(T:WkT an)(hq:QR prog w A E s κ a₀ an)(hk:key∈a₀)(ha:∀x,x∈arr->x∈a₀)(hb:base+n<=arr.size)(hh:hint<n)(hκ:kindOf st=κ)(so:we an arr base n)
  (h:∀k,k<=n->(∀i,i<k->∀(h:base+i<arr.size),an arr[base+i] key=true)->(∀i,k<=i->i<n->∀(h:base+i<arr.size),an arr[base+i] key=false)->Q (some k) st):
  wpS (model prog w) A E s (gallop' true key arr base n hint) Q st:=by
 refine Zq hq hk ha hb hh hκ (λi=>an (arr.getD (base+i) key) key) (λi hi hn=>?_) (λi j hij hj e=>?_) λk hk' h1 h2=>h k hk' (λi hi hb'=>?_) λi hi hn hb'=>?_
 ·rw[if_pos rfl];simp only[Af,hi,dite_true];rfl
 ·have bi:base+i<arr.size:=by lia
  have bj:base+j<arr.size:=by lia
  simp only[Af,bi,bj,dite_true] at e⊢
  cases z:an (arr.getInternal (base+i) bi) key with
  |true=>rfl
  |false=>
   have:=T.cut _ _ _ (so i j hij hj bi bj) z;rw[show an arr[base+j] key=true from e] at this
   cases this
 ·have:=h1 i hi;simp only[Af,hb',dite_true] at this;exact this
 ·have:=h2 i hi hn;simp only[Af,hb',dite_true] at this;exact this
structure LoIv(an:pW->pW->Bool)(a b:Array pW)(J:Array pW->Nat->Nat->Prop)(R:Array pW->Prop):Prop where
 z:∀h:0<b.size,J #[b[0]] 0 1
 done:∀{out ia ib},J out ia ib->ib=b.size∨ia=a.size->R (out++a.extract ia++b.extract ib)
 last:∀{out ia ib},J out ia ib->ia+1=a.size->R (out++b.extract ib++a.extract ia)
 b1:∀{out ia ib},J out ia ib->∀(ha:ia<a.size)(hb:ib<b.size),an b[ib] a[ia]=true->J (out.push b[ib]) ia (ib+1)
 a1:∀{out ia ib},J out ia ib->∀(ha:ia<a.size)(hb:ib<b.size),an b[ib] a[ia]=false->J (out.push a[ia]) (ia+1) ib
 ak:∀{out ia ib k},J out ia ib->∀hb:ib<b.size,ia+k<=a.size->(∀i,i<k->∀(h:ia+i<a.size),an b[ib] a[ia+i]=false)->J (out++a.extract ia (ia+k)) (ia+k) ib
 bk:∀{out ia ib k},J out ia ib->∀ha:ia<a.size,ib+k<=b.size->(∀i,i<k->∀(h:ib+i<b.size),an b[ib+i] a[ia]=true)->J (out++b.extract ib (ib+k)) ia (ib+k)
theorem Yt{an:pW->pW->Bool}(h:we an arr 0 n)(hb:base+m<=n):we an arr base m:=λi j hij hj hi hj'=>by
 have e:∀{k:Nat}(h1:base+k<arr.size)(h2:0+(base+k)<arr.size),arr[base+k]=arr[0+(base+k)]:=λh1 h2=>by congr 1;lia
 rw[e hi (by lia),e hj' (by lia)]
 exact h (base+i) (base+j) (by lia) (by lia) (by lia) (by lia)
theorem loG(T:WkT an)(hq:QR prog w A E s κ a₀ an){J:Array pW->Nat->Nat->Prop}{R:Array pW->Prop}{a b:Array pW}{Q:Array pW->QF->Prop}(ha:∀x,x∈a->x∈a₀)(hb:∀x,x∈b->x∈a₀)(a1:0<a.size)(b1:0<b.size)(hκ:kindOf st=κ)(L:LoIv an a b J R)(sa:we an a 0 a.size)(sb:we an b 0 b.size)
  (h:∀r g,R r->Q r (gSt st g)):wpS (model prog w) A E s (mergeLo' a b) Q st:=by
 have ea:∀{i:Nat}(h:i<a.size),a[i]∈a₀:=λh=>ha _ (UY h);have eb:∀{i:Nat}(h:i<b.size),b[i]∈a₀:=λh=>hb _ (UY h);refine pO (DG (UI ⟨rfl,pO (yz b1 ?_)⟩));refine yR (λc1=>pU (h _ (Ep st) (L.done (L.z b1) (.inl c1)))) λc1=>yR (λc2=>pU (h _ (Ep st) (L.last (L.z b1) c2))) λc2=>pO (BU ?_);refine pO (UW (QD (I:=λx=>LI st (λ(o:Array pW)(i j:Nat)=>J o i j/\i+1<a.size/\j<b.size/\x+1<=i+j)) (Q:=LQ st R λ_ _ _=>False) (ent λx out ia ib mg g hx p=>?_) (λc t z=>?_) ⟨⟨rfl,L.z b1,?_⟩,Ep st,rfl⟩) (aft (λr o i j q g hr=>pU (h r g hr)) λo i j q g z=>z.elim))
 ·have pl:=p.2.2.2
  extract_lets s1 o1 s2 i1 s3 i2 m0 z0 m1
  dsimp-zeta only[s1,o1,s2,i1,s3,i2,m0,z0,m1]
  refine pO (UW (QD (I:=λy=>LI st (λ(o:Array pW)(i j:Nat)=>J o i j/\i+1<a.size/\j<b.size/\ia+ib+min y 1<=i+j)) (Q:=LQ st R λ(o:Array pW)(i j:Nat)=>J o i j/\i+1<a.size/\j<b.size/\ia+ib+1<=i+j) (ent λy out ja jb q g hy p=>?_) (λc t z=>⟨.inr ⟨z.1.1,z.1.2.1,z.1.2.2.1,z.1.2.2.2.1,?_⟩,z.2⟩) ⟨⟨rfl,p.1,p.2.1,p.2.2.1,by show ia+ib+min 0 1<=ia+ib;lia⟩,_,rfl⟩) (aft (λr o i j q g hr=>pU ⟨.inl ⟨_,rfl,hr⟩,_,rfl⟩) λout ja jb q g p=>?_))
  ·have hja:=p.2.1;have hjb:=p.2.2.1;have hl:=p.2.2.2;have hj:ja<a.size:=by lia
   clear pl c1 c2 hx;dsimp only;refine pO (yz hjb (pO (yz hj (pO (hq _ _ _ _ (eb hjb) (ea hj) hκ ?_)))))
   cases ebw:an b[jb] a[ja] with
   |true=>
    refine pO (yz hjb ?_);have hp1:=L.b1 p.1 hj hjb ebw;refine yR (λd=>pU ⟨.inl ⟨_,rfl,L.done hp1 (.inl d)⟩,_,rfl⟩) λd=>?_;have l1:jb+1<b.size:=by lia
    exact vc (pU ⟨.inr ⟨rfl,hp1,hja,l1,(by show ia+ib+1<=ja+(jb+1);lia)⟩,_,rfl⟩) (pU ⟨⟨rfl,hp1,hja,l1,(by show ia+ib+min (y+1) 1<=ja+(jb+1);lia)⟩,_,rfl⟩)
   |false=>
    refine pO (yz hj ?_);have hp1:=L.a1 p.1 hj hjb ebw;refine yR (λd=>pU ⟨.inl ⟨_,rfl,L.last hp1 d⟩,_,rfl⟩) λd=>?_;have l1:ja+1+1<a.size:=by lia
    exact vc (pU ⟨.inr ⟨rfl,hp1,l1,hjb,(by show ia+ib+1<=ja+1+jb;lia)⟩,_,rfl⟩) (pU ⟨⟨rfl,hp1,l1,hjb,(by show ia+ib+min (y+1) 1<=ja+1+jb;lia)⟩,_,rfl⟩)
  ·have:=z.1.2.2.2.2;lia
  refine pO (DG (UI ⟨rfl,?_⟩));refine pO (UW (QD (I:=λy=>LI st (λ(o:Array pW)(i j:Nat)=>J o i j/\i+1<a.size/\j<b.size/\ia+ib+1<=i+j)) (Q:=LQ st R λ(o:Array pW)(i j:Nat)=>J o i j/\i+1<a.size/\j<b.size/\ia+ib+1<=i+j) (ent λy out ka kb q g hy p=>?_) (λc t z=>⟨.inr z.1,z.2⟩) ⟨⟨rfl,p⟩,_,rfl⟩) (aft (λr o i j q g hr=>pU ⟨.inl ⟨_,rfl,hr⟩,_,rfl⟩) λout ka kb q g p=>?_))
  ·have hka:=p.2.1;have hkb:=p.2.2.1;have hl2:=p.2.2.2;have hp:=p.1;clear pl c1 c2 hx hy
   extract_lets s1 o1 s2 i1 s3 i2 s4 m1 s5 c1 c2 i3 jp
   refine wjp jp (λ_=>True) (λm _=>?_) λhj=>vc (hj _ trivial) (hj _ trivial)
   dsimp-zeta only[jp,s1,o1,s2,i1,s3,i2,s4,m1,s5,c1,c2,i3]
   refine pO (Qk (pO (yz hkb (pO (galR T hq (eb hkb) ha (by lia) (by lia) hκ (Yt sa (by lia)) λk hk t1 t2=>?_)))))
   dsimp-zeta only
   extract_lets ac jq
   refine wjq jq (λo z=>(J o z kb/\∀hz:z<a.size,an b[kb] a[z]=true)/\z+1<a.size/\ia+ib+1<=z+kb) (λo z p=>?_) λhj=>?_
   ·have hz:=p.2.1;have hl:=p.2.2;have hz1:z<a.size:=by lia
    clear hl2 hka hk t1 t2 hp
    dsimp-zeta only[jq]
    refine pO (yz hkb ?_);have hp2:=L.b1 p.1.1 hz1 hkb (p.1.2 hz1);refine yR (λd3=>pU ⟨.inl ⟨_,rfl,L.done hp2 (.inl d3)⟩,_,rfl⟩) λd3=>?_;refine pO (yz hz1 (pO (galL T hq (ea hz1) hb (by lia) (by lia) hκ (Yt sb (by lia)) λk2 hk2 u1 u2=>?_)))
    dsimp-zeta only
    extract_lets bc i5 jr
    refine wjq jr (λo y=>(J o z y/\∀hy:y<b.size,an b[y] a[z]=false)/\y<b.size/\ia+ib+1<=z+y) (λo y p=>?_) λhj=>?_
    ·refine pO (yz hz1 ?_);have hp4:=L.a1 p.1.1 hz1 p.2.1 (p.1.2 p.2.1);refine yR (λd5=>pU ⟨.inl ⟨_,rfl,L.last hp4 d5⟩,_,rfl⟩) λd5=>?_;have l1:z+1+1<a.size:=by lia
     have l2:ia+ib+1<=z+1+y:=by have:=p.2.2;lia
     exact vc (pU ⟨.inr ⟨rfl,hp4,l1,p.2.1,l2⟩,_,rfl⟩) (pU ⟨⟨rfl,hp4,l1,p.2.1,l2⟩,_,rfl⟩)
    ·have l3:kb+1+k2<=b.size:=by lia
     have hp3:=L.bk hp2 hz1 l3 u1;exact wifC (λ_=>yR (λd4=>pU ⟨.inl ⟨_,rfl,L.done hp3 (.inl d4)⟩,_,rfl⟩) λd4=>hj _ _ ⟨⟨hp3,λhy=>u2 k2 (pJ _) (by lia) hy⟩,by lia,by lia⟩) λz0=>hj _ _ ⟨⟨hp2,λhy=>u2 0 (Nat.not_lt.mp z0) (by lia) hy⟩,by lia,by lia⟩
   ·have l3:ka+k<=a.size:=by lia
    have hp1:=L.ak hp hkb l3 t1;exact wifC (λ_=>yR (λd1=>pU ⟨.inl ⟨_,rfl,L.last hp1 d1⟩,_,rfl⟩) λd1=>yR (λd2=>pU ⟨.inl ⟨_,rfl,L.done hp1 (.inr d2)⟩,_,rfl⟩) λd2=>hj _ _ ⟨⟨hp1,λhz=>t2 k (pJ _) (by lia) hz⟩,by lia,by lia⟩) λz0=>hj _ _ ⟨⟨hp,λhz=>t2 0 (Nat.not_lt.mp z0) (by lia) hz⟩,hka,hl2⟩
  ·exact pO (Qk (pU ⟨⟨rfl,p.1,p.2.1,p.2.2.1,(by have:=p.2.2.2;show x+1+1<=ka+kb;lia)⟩,_,rfl⟩))
 ·have:=z.1.2.2.2.2;have:=z.1.2.2.1;have:=z.1.2.2.2.1;lia
 ·show 0+1<a.size/\1<b.size/\0+1<=0+1
  lia
end
section
variable{prog:pi}{w:uR}{A:uQ}{E:pB->pC->Prop}{s:pC}{a₀:Array pW}{κ:UM}{an:pW->pW->Bool}
structure HiIv(an:pW->pW->Bool)(a b:Array pW)(J:Array pW->Nat->Nat->Prop)(R:Array pW->Prop):Prop where
 z:∀h:0<a.size,J #[a[a.size-1]] (a.size-1) b.size
 le:∀{out na nb},J out na nb->na<=a.size/\nb<=b.size
 done:∀{out na nb},J out na nb->na=0∨nb=0->R (a.extract 0 na++b.extract 0 nb++out.reverse)
 first:∀{out na nb},J out na nb->nb=1->R (b.extract 0 nb++a.extract 0 na++out.reverse)
 a1:∀{out na nb},J out na nb->∀(_:0<na)(_:0<nb)(ha:na-1<a.size)(hb:nb-1<b.size),an b[nb-1] a[na-1]=true->J (out.push a[na-1]) (na-1) nb
 b1:∀{out na nb},J out na nb->∀(_:0<na)(_:0<nb)(ha:na-1<a.size)(hb:nb-1<b.size),an b[nb-1] a[na-1]=false->J (out.push b[nb-1]) na (nb-1)
 ak:∀{out na nb k},J out na nb->∀(_:0<nb)(hb:nb-1<b.size),k<=na->(∀i,k<=i->i<na->∀(h:0+i<a.size),an b[nb-1] a[0+i]=true)->J (out++(a.extract k na).reverse) k nb
 bk:∀{out na nb k},J out na nb->∀(_:0<na)(ha:na-1<a.size),k<=nb->(∀i,k<=i->i<nb->∀(h:0+i<b.size),an b[0+i] a[na-1]=false)->J (out++(b.extract k nb).reverse) na k
theorem hiG(T:WkT an)(hq:QR prog w A E s κ a₀ an){J:Array pW->Nat->Nat->Prop}{R:Array pW->Prop}{a b:Array pW}{st:QF}{Q:Array pW->QF->Prop}(ha:∀x,x∈a->x∈a₀)(hb:∀x,x∈b->x∈a₀)(a1:0<a.size)(b1:0<b.size)(hκ:kindOf st=κ)(L:HiIv an a b J R)(sa:we an a 0 a.size)(sb:we an b 0 b.size)
  (h:∀r g,R r->Q r (gSt st g)):wpS (model prog w) A E s (mergeHi' a b) Q st:=by
 have ea:∀{i:Nat}(h:i<a.size),a[i]∈a₀:=λh=>ha _ (UY h);have eb:∀{i:Nat}(h:i<b.size),b[i]∈a₀:=λh=>hb _ (UY h);refine pO (DG (UI ⟨rfl,pO (yz (show a.size-1<a.size by lia) ?_)⟩))
 refine yR (λc1=>pU (h _ (Ep st) (L.done (L.z a1) (.inl c1)))) λc1=>yR (λc2=>pU (h _ (Ep st) (L.first (L.z a1) c2))) λc2=>pO (BU ?_)
 refine pO (UW (QD (I:=λx=>LI st (λ(i j:Nat)(o:Array pW)=>J o i j/\0<i/\1<j/\i+j+x+1<=a.size+b.size)) (Q:=LQ st R λ_ _ _=>False) (ent λx na nb out mg g hx p=>?_) (λc t z=>?_) ⟨⟨rfl,L.z a1,?_⟩,Ep st,rfl⟩) (aft (λr o i j q g hr=>pU (h r g hr)) λo i j q g z=>z.elim))
 ·have pl:=p.2.2.2
  extract_lets s1 o1 s2 i1 s3 i2 m0 z0 m1
  dsimp-zeta only[s1,o1,s2,i1,s3,i2,m0,z0,m1]
  refine pO (UW (QD (I:=λy=>LI st (λ(i j:Nat)(o:Array pW)=>J o i j/\0<i/\1<j/\i+j+min y 1<=na+nb)) (Q:=LQ st R λ(i j:Nat)(o:Array pW)=>J o i j/\0<i/\1<j/\i+j+1<=na+nb) (ent λy ja jb out q g hy p=>?_) (λc t z=>⟨.inr ⟨z.1.1,z.1.2.1,z.1.2.2.1,z.1.2.2.2.1,?_⟩,z.2⟩) ⟨⟨rfl,p.1,p.2.1,p.2.2.1,by show na+nb+min 0 1<=na+nb;lia⟩,_,rfl⟩) (aft (λr o i j q g hr=>pU ⟨.inl ⟨_,rfl,hr⟩,_,rfl⟩) λja jb out q g p=>?_))
  ·have hja:=p.2.1;have hjb:=p.2.2.1;have hl:=p.2.2.2;have la:ja-1<a.size:=by have:=(L.le p.1).1;lia
   have lb:jb-1<b.size:=by have:=(L.le p.1).2;lia
   clear pl c1 c2 hx;dsimp only;refine pO (yz lb (pO (yz la (pO (hq _ _ _ _ (eb lb) (ea la) hκ ?_)))))
   cases ebw:an b[jb-1] a[ja-1] with
   |true=>
    refine pO (yz la ?_);have hp1:=L.a1 p.1 hja (by lia) la lb ebw
    refine yR (λd=>pU ⟨.inl ⟨_,rfl,L.done hp1 (.inl d)⟩,_,rfl⟩) λd=>?_;have l1:0<ja-1:=by lia
    exact vc (pU ⟨.inr ⟨rfl,hp1,l1,hjb,(by show ja-1+jb+1<=na+nb;lia)⟩,_,rfl⟩) (pU ⟨⟨rfl,hp1,l1,hjb,(by show ja-1+jb+min (y+1) 1<=na+nb;lia)⟩,_,rfl⟩)
   |false=>
    refine pO (yz lb ?_);have hp1:=L.b1 p.1 hja (by lia) la lb ebw
    refine yR (λd=>pU ⟨.inl ⟨_,rfl,L.first hp1 d⟩,_,rfl⟩) λd=>?_
    have l1:1<jb-1:=by lia
    exact vc (pU ⟨.inr ⟨rfl,hp1,hja,l1,(by show ja+(jb-1)+1<=na+nb;lia)⟩,_,rfl⟩) (pU ⟨⟨rfl,hp1,hja,l1,(by show ja+(jb-1)+min (y+1) 1<=na+nb;lia)⟩,_,rfl⟩)
  ·have:=z.1.2.2.2.2;lia
  refine pO (DG (UI ⟨rfl,?_⟩));refine pO (UW (QD (I:=λy=>LI st (λ(i j:Nat)(o:Array pW)=>J o i j/\0<i/\1<j/\i+j+1<=na+nb)) (Q:=LQ st R λ(i j:Nat)(o:Array pW)=>J o i j/\0<i/\1<j/\i+j+1<=na+nb) (ent λy ka kb out q g hy p=>?_) (λc t z=>⟨.inr z.1,z.2⟩) ⟨⟨rfl,p⟩,_,rfl⟩) (aft (λr o i j q g hr=>pU ⟨.inl ⟨_,rfl,hr⟩,_,rfl⟩) λka kb out q g p=>?_))
  ·have hka:=p.2.1;have hkb:=p.2.2.1;have hl2:=p.2.2.2;have hp:=p.1;have lka:=(L.le p.1).1;have lkb:=(L.le p.1).2;have lb:kb-1<b.size:=by lia
   clear pl c1 c2 hx hy
   extract_lets s1 o1 s2 i1 s3 i2 s4 m1 s5 c1 c2 i3 jp
   refine wjp jp (λ_=>True) (λm _=>?_) λhj=>vc (hj _ trivial) (hj _ trivial)
   dsimp-zeta only[jp,s1,o1,s2,i1,s3,i2,s4,m1,s5,c1,c2,i3]
   refine pO (Qk (pO (yz lb (pO (galR T hq (eb lb) ha (by lia) (by lia) hκ (Yt sa (by lia)) λk hk t1 t2=>?_)))))
   dsimp-zeta only
   extract_lets kk ac jq
   refine wjq jq (λz o=>(J o z kb/\∀hz:z-1<a.size,an b[kb-1] a[z-1]=false)/\0<z/\z+kb+1<=na+nb) (λz o p=>?_) λhj=>?_
   ·have hz:=p.2.1;have hl:=p.2.2;have la:z-1<a.size:=by have:=(L.le p.1.1).1;lia
    clear hl2 hka hk lka t1 t2 hp
    dsimp-zeta only[jq]
    refine pO (yz lb ?_);have hp2:=L.b1 p.1.1 hz (by lia) la lb (p.1.2 la)
    refine yR (λd3=>pU ⟨.inl ⟨_,rfl,L.first hp2 d3⟩,_,rfl⟩) λd3=>?_
    refine pO (yz la (pO (galL T hq (ea la) hb (by lia) (by lia) hκ (Yt sb (by lia)) λk2 hk2 u1 u2=>?_)))
    dsimp-zeta only
    extract_lets k5 bc i5 jr
    refine wjq jr (λy o=>(J o z y/\∀hy:y-1<b.size,an b[y-1] a[z-1]=true)/\1<y/\z+y+1<=na+nb) (λy o p=>?_) λhj=>?_
    ·have ly:y-1<b.size:=by have:=(L.le p.1.1).2;have:=p.2.1;lia
     refine pO (yz la ?_);have hp4:=L.a1 p.1.1 hz (by have:=p.2.1;lia) la ly (p.1.2 ly)
     refine yR (λd5=>pU ⟨.inl ⟨_,rfl,L.done hp4 (.inl d5)⟩,_,rfl⟩) λd5=>?_;have l1:0<z-1:=by lia
     have l2:z-1+y+1<=na+nb:=by have:=p.2.2;lia
     exact vc (pU ⟨.inr ⟨rfl,hp4,l1,p.2.1,l2⟩,_,rfl⟩) (pU ⟨⟨rfl,hp4,l1,p.2.1,l2⟩,_,rfl⟩)
    ·have hp3:=L.bk hp2 hz la hk2 u2
     exact wifC (λ_=>yR (λd4=>pU ⟨.inl ⟨_,rfl,L.first hp3 d4⟩,_,rfl⟩) λd4=>yR (λd7=>pU ⟨.inl ⟨_,rfl,L.done hp3 (.inr d7)⟩,_,rfl⟩) λd7=>hj _ _ ⟨⟨hp3,λhy=>by simpa using u1 (k2-1) (by lia) (by lia)⟩,by lia,by lia⟩) λz0=>hj _ _ ⟨⟨hp2,λhy=>by simpa using u1 (kb-1-1) (by lia) (by lia)⟩,by lia,by lia⟩
   ·have hp1:=L.ak hp (by lia) lb hk t2
    exact wifC (λ_=>yR (λd1=>pU ⟨.inl ⟨_,rfl,L.done hp1 (.inl d1)⟩,_,rfl⟩) λd1=>hj _ _ ⟨⟨hp1,λhz=>by simpa using t1 (k-1) (by lia) (by lia)⟩,by lia,by lia⟩) λz0=>hj _ _ ⟨⟨hp,λhz=>by simpa using t1 (ka-1) (by lia) (by lia)⟩,hka,hl2⟩
  ·exact pO (Qk (pU ⟨⟨rfl,p.1,p.2.1,p.2.2.1,(by have:=p.2.2.2;show ka+kb+(x+1)+1<=a.size+b.size;lia)⟩,_,rfl⟩))
 ·have:=z.1.2.2.2.2;have:=z.1.2.2.1;have:=z.1.2.2.2.1;lia
 ·show 0<a.size-1/\1<b.size/\a.size-1+b.size+0+1<=a.size+b.size
  lia
end
section
variable{an:pW->pW->Bool}{a b:Array pW}
variable{l:List pW}
def yA{m:List pW}:UpL an (l++m)↔UpL an l/\UpL an m/\∀x,x∈l->∀y,y∈m->an y x=false:=by
 unfold UpL;rw[Er]
def vk(h:UpL an l)(n:Nat):UpL an (l.drop n):=EZ (Fp n l) h
def vv(h:UpL an l)(n:Nat):UpL an (l.take n):=EZ (Bl n l) h
def WW(T:WkT an){a:Array pW}(h:UpL an a.toList){i:Nat}(hi:i<a.size):∀y,y∈a.toList.drop i->an y a[i]=false:=λy hy=>by
 have hi':i<a.toList.length:=by simpa using hi
 have e:a.toList[i]=a[i]:=by simp
 have d:=vk h i;rw[Qg hi',e] at d hy;rcases pR.mp hy with z|z
 ·rw[z];exact T.irr _
 ·exact(UP.mp d).1 y z
theorem Wo(T:WkT an){a:Array pW}(h:UpL an a.toList){n:Nat}(h0:0<n)(hn:n-1<a.size):∀y,y∈a.toList.take n->an a[n-1] y=false:=λy hy=>by
 have hn':n-1<a.toList.length:=by simpa using hn
 have e:a.toList[n-1]=a[n-1]:=by simp
 have d:=vv h n;have en:n=n-1+1:=by lia
 rw[en,By hn',e] at d hy;rcases pP.mp hy with z|z
 ·exact(yA.mp d).2.2 y z _ (pN.mpr rfl)
 ·rw[pN.mp z];exact T.irr _
def LoJ(an:pW->pW->Bool)(a b out:Array pW)(ia ib:Nat):Prop:=Prm a b out ia ib/\UpL an out.toList/\(∀x,x∈out.toList->∀y,y∈a.toList.drop ia->an y x=false)/\∀x,x∈out.toList->∀y,y∈b.toList.drop ib->an y x=false
def MgR(an:pW->pW->Bool)(a b r:Array pW):Prop:=r.toList.Perm (a.toList++b.toList)/\UpL an r.toList
def qO(l:List pW)(i k:Nat):l.drop i=(l.drop i).take k++l.drop (i+k):=by rw[←gE,QN]
theorem loIv(T:WkT an)(ua:UpL an a.toList)(ub:UpL an b.toList)(a1:0<a.size)(b1:0<b.size)(hz:∀y,y∈a.toList->an y b[0]=false)(hl:∀y,y∈b.toList->an a[a.size-1] y=false):LoIv an a b (LoJ an a b) (MgR an a b):=by
 have ak:∀{out:Array pW}{ia ib k:Nat},LoJ an a b out ia ib->∀hb:ib<b.size,ia+k<=a.size->(∀i,i<k->∀(h:ia+i<a.size),an b[ib] a[ia+i]=false)->LoJ an a b (out++a.extract ia (ia+k)) (ia+k) ib:=λ{out ia ib k} J hb hk h=>by
  obtain⟨p,u,ja,jb⟩:=J;have et:(out++a.extract ia (ia+k)).toList=out.toList++(a.toList.drop ia).take k:=by rw[uA,wd]
  have cut:=vk ua ia;rw[qO a.toList ia k,yA] at cut;have sub:∀y,y∈(a.toList.drop ia).take k->y∈a.toList.drop ia:=λy hy=>Uj hy;have subd:∀y,y∈a.toList.drop (ia+k)->y∈a.toList.drop ia:=λy hy=>by rw[qO a.toList ia k];exact pI _ hy
  have hx:∀x,x∈(a.toList.drop ia).take k->an b[ib] x=false:=λx hx=>by
   obtain⟨i,hi,e⟩:=QB.mp hx;rw[pV,pg,pT] at hi;rw[←e,Qv,Qi,QC];exact h i (by lia) (by lia)
  refine⟨prm_a p k hk,?_,?_,?_⟩
  ·rw[et,yA];exact⟨u,cut.1,λx hx y hy=>ja x hx y (sub y hy)⟩
  ·rw[et];intro x hx' y hy;rcases pP.mp hx' with z|z
   ·exact ja x z y (subd y hy)
   ·exact cut.2.2 x z y hy
  ·rw[et];intro x hx' y hy;rcases pP.mp hx' with z|z
   ·exact jb x z y hy
   ·exact T.cut _ _ _ (WW T ub hb y hy) (hx x z)
 have bk:∀{out:Array pW}{ia ib k:Nat},LoJ an a b out ia ib->∀ha:ia<a.size,ib+k<=b.size->(∀i,i<k->∀(h:ib+i<b.size),an b[ib+i] a[ia]=true)->LoJ an a b (out++b.extract ib (ib+k)) ia (ib+k):=λ{out ia ib k} J ha hk h=>by
  obtain⟨p,u,ja,jb⟩:=J;have et:(out++b.extract ib (ib+k)).toList=out.toList++(b.toList.drop ib).take k:=by rw[uA,wd]
  have cut:=vk ub ib;rw[qO b.toList ib k,yA] at cut;have sub:∀y,y∈(b.toList.drop ib).take k->y∈b.toList.drop ib:=λy hy=>Uj hy;have subd:∀y,y∈b.toList.drop (ib+k)->y∈b.toList.drop ib:=λy hy=>by rw[qO b.toList ib k];exact pI _ hy
  have hx:∀x,x∈(b.toList.drop ib).take k->an x a[ia]=true:=λx hx=>by
   obtain⟨i,hi,e⟩:=QB.mp hx;rw[pV,pg,pT] at hi;rw[←e,Qv,Qi,QC];exact h i (by lia) (by lia)
  refine⟨prm_b p k hk,?_,?_,?_⟩
  ·rw[et,yA];exact⟨u,cut.1,λx hx y hy=>jb x hx y (sub y hy)⟩
  ·rw[et];intro x hx' y hy;rcases pP.mp hx' with z|z
   ·exact ja x z y hy
   ·exact T.cut _ _ _ (WW T ua ha y hy) (T.asymm (hx x z))
  ·rw[et];intro x hx' y hy;rcases pP.mp hx' with z|z
   ·exact jb x z y (subd y hy)
   ·exact cut.2.2 x z y hy
 refine⟨λh=>?_,λ{out ia ib} J h=>?_,λ{out ia ib} J h=>?_,λ{out ia ib} J ha hb e=>?_,λ{out ia ib} J ha hb e=>?_,ak,bk⟩
 ·refine⟨prm_0 h,Ui _ _,λx hx y hy=>?_,λx hx y hy=>?_⟩
  ·rw[show x=b[0] by simpa using hx]
   exact hz y (by simpa using hy)
  ·rw[show x=b[0] by simpa using hx]
   exact WW T ub h y (gH (i:=1) (by simpa using hy))
 ·obtain⟨p,u,ja,jb⟩:=J;refine⟨zch p,?_⟩;rw[uA,uA,wV,wV];rcases h with h|h
  ·have e:b.toList.drop ib=[]:=Bz (by rw[pT];lia)
   rw[e,UF,yA];exact⟨u,vk ua _,ja⟩
  ·have e:a.toList.drop ia=[]:=Bz (by rw[pT];lia)
   rw[e,UF,yA];exact⟨u,vk ub _,jb⟩
 ·obtain⟨p,u,ja,jb⟩:=J;refine⟨zar p,?_⟩;rw[uA,uA,wV,wV,yA,yA];refine⟨⟨u,vk ub _,jb⟩,vk ua _,λx hx y hy=>?_⟩;have hi:ia<a.toList.length:=by rw[pT];lia
  have ey:y=a[a.size-1]:=by
   rw[Qg hi,Bz (by rw[pT];lia),pN] at hy
   rw[hy,QC]
   congr 1
   lia
  rcases pP.mp hx with z|z
  ·exact ja x z y hy
  ·rw[ey];exact hl x (gH z)
 ·rw[qC _ _ _ hb];refine bk J ha (by lia) λi hi h=>?_
  have e0:i=0:=by lia
  subst e0;exact e
 ·rw[qC _ _ _ ha];refine ak J hb (by lia) λi hi h=>?_
  have e0:i=0:=by lia
  subst e0;exact e
def HiJ(an:pW->pW->Bool)(a b out:Array pW)(na nb:Nat):Prop:=xS a b out na nb/\UpL an out.toList.reverse/\(∀x,x∈out.toList->∀y,y∈a.toList.take na->an x y=false)/\∀x,x∈out.toList->∀y,y∈b.toList.take nb->an x y=false
def YG(l:List pW){k n:Nat}(h:k<=n):l.take n=l.take k++(l.take n).drop k:=by
 have:=QN k (l.take n);rw[DF,AC h] at this;exact this.symm
def Jy(a:Array pW)(k n:Nat):(a.extract k n).reverse.toList=((a.toList.take n).drop k).reverse:=by
 rw[UO,y7,Bw]
theorem hiIv(T:WkT an)(ua:UpL an a.toList)(ub:UpL an b.toList)(a1:0<a.size)(b1:0<b.size)(hz:∀y,y∈a.toList->an y b[0]=false)(hl:∀y,y∈b.toList->an a[a.size-1] y=false):HiIv an a b (HiJ an a b) (MgR an a b):=by
 have ak:∀{out:Array pW}{na nb k:Nat},HiJ an a b out na nb->∀(_:0<nb)(hb:nb-1<b.size),k<=na->(∀i,k<=i->i<na->∀(h:0+i<a.size),an b[nb-1] a[0+i]=true)->HiJ an a b (out++(a.extract k na).reverse) k nb:=λ{out na nb k} J h0 hb hk h=>by
  obtain⟨p,u,ja,jb⟩:=J;have lna:=p.2.1;have et:(out++(a.extract k na).reverse).toList=out.toList++((a.toList.take na).drop k).reverse:=by rw[uA,Jy]
  have cut:=vv ua na;rw[YG a.toList hk,yA] at cut;have sub:∀y,y∈(a.toList.take na).drop k->y∈a.toList.take na:=λy hy=>gH hy;have subd:∀y,y∈a.toList.take k->y∈a.toList.take na:=λy hy=>by rw[YG a.toList hk];exact uD _ hy
  have hx:∀x,x∈(a.toList.take na).drop k->an b[nb-1] x=true:=λx hx=>by
   obtain⟨i,hi,e⟩:=QB.mp hx;rw[pg,pV,pT] at hi;rw[←e,Qi,Qv,QC];have:=h (k+i) (by lia) (by lia) (by lia)
   simpa using this
  refine⟨J9 p k hk,?_,?_,?_⟩
  ·rw[et,FD,Es,yA];exact⟨cut.2.1,u,λx hx y hy=>ja y (UU.mp hy) x (sub x hx)⟩
  ·rw[et];intro x hx' y hy;rcases pP.mp hx' with z|z
   ·exact ja x z y (subd y hy)
   ·exact cut.2.2 y hy x (UU.mp z)
  ·rw[et];intro x hx' y hy;rcases pP.mp hx' with z|z
   ·exact jb x z y hy
   ·exact T.cut _ _ _ (T.asymm (hx x (UU.mp z))) (Wo T ub h0 hb y hy)
 have bk:∀{out:Array pW}{na nb k:Nat},HiJ an a b out na nb->∀(_:0<na)(ha:na-1<a.size),k<=nb->(∀i,k<=i->i<nb->∀(h:0+i<b.size),an b[0+i] a[na-1]=false)->HiJ an a b (out++(b.extract k nb).reverse) na k:=λ{out na nb k} J h0 ha hk h=>by
  obtain⟨p,u,ja,jb⟩:=J;have lnb:=p.2.2;have et:(out++(b.extract k nb).reverse).toList=out.toList++((b.toList.take nb).drop k).reverse:=by rw[uA,Jy]
  have cut:=vv ub nb;rw[YG b.toList hk,yA] at cut;have sub:∀y,y∈(b.toList.take nb).drop k->y∈b.toList.take nb:=λy hy=>gH hy;have subd:∀y,y∈b.toList.take k->y∈b.toList.take nb:=λy hy=>by rw[YG b.toList hk];exact uD _ hy
  have hx:∀x,x∈(b.toList.take nb).drop k->an x a[na-1]=false:=λx hx=>by
   obtain⟨i,hi,e⟩:=QB.mp hx;rw[pg,pV,pT] at hi;rw[←e,Qi,Qv,QC];have:=h (k+i) (by lia) (by lia) (by lia)
   simpa using this
  refine⟨prmh_b p k hk,?_,?_,?_⟩
  ·rw[et,FD,Es,yA];exact⟨cut.2.1,u,λx hx y hy=>jb y (UU.mp hy) x (sub x hx)⟩
  ·rw[et];intro x hx' y hy;rcases pP.mp hx' with z|z
   ·exact ja x z y hy
   ·exact T.cut _ _ _ (hx x (UU.mp z)) (Wo T ua h0 ha y hy)
  ·rw[et];intro x hx' y hy;rcases pP.mp hx' with z|z
   ·exact jb x z y (subd y hy)
   ·exact cut.2.2 y hy x (UU.mp z)
 refine⟨λh=>?_,λ{out na nb} J=>J.1.2,λ{out na nb} J h=>?_,λ{out na nb} J h=>?_,λ{out na nb} J h0 h1 ha hb e=>?_,λ{out na nb} J h0 h1 ha hb e=>?_,ak,bk⟩
 ·refine⟨prmh_0 h,Ui _ _,λx hx y hy=>?_,λx hx y hy=>?_⟩
  ·rw[show x=a[a.size-1] by simpa using hx]
   exact Wo T ua h (by lia) y (by rw[pz (by rw[pT];exact pJ _)];exact Uj hy)
  ·rw[show x=a[a.size-1] by simpa using hx]
   exact hl y (Uj hy)
 ·obtain⟨p,u,ja,jb⟩:=J;refine⟨zd7 p,?_⟩;rw[uA,uA,wU,wU,UO];have ju:∀x,x∈a.toList.take na->∀y,y∈out.toList.reverse->an y x=false:=λx hx y hy=>ja y (UU.mp hy) x hx;have jv:∀x,x∈b.toList.take nb->∀y,y∈out.toList.reverse->an y x=false:=λx hx y hy=>jb y (UU.mp hy) x hx;rcases h with h|h
  ·subst h;rw[ul,Al,yA];exact⟨vv ub _,u,jv⟩
  ·subst h;rw[ul,UF,yA];exact⟨vv ua _,u,ju⟩
 ·obtain⟨p,u,ja,jb⟩:=J;refine⟨ze7 p,?_⟩;rw[uA,uA,wU,wU,UO,yA,yA];subst h;refine⟨⟨vv ub _,vv ua _,λx hx y hy=>?_⟩,u,λx hx y hy=>?_⟩
  ·have hb':0<b.toList.length:=by rw[pT];exact b1
   have ex:x=b[0]:=by
    rw[show(1:Nat)=0+1 from rfl,By hb',ul,Al,pN] at hx;rw[hx,QC]
   rw[ex];exact hz y (Uj hy)
  ·rcases pP.mp hx with z|z
   ·exact jb y (UU.mp hy) x z
   ·exact ja y (UU.mp hy) x z
 ·rw[Xv _ _ _ h0 ha];refine ak J h1 hb (by lia) λi hi hi' h=>?_
  have e0:i=na-1:=by lia
  subst e0
  simpa using e
 ·rw[Xv _ _ _ h1 hb];refine bk J h0 ha (by lia) λi hi hi' h=>?_
  have e0:i=nb-1:=by lia
  subst e0
  simpa using e
end
section
variable{prog:pi}{w:uR}{A:uQ}{E:pB->pC->Prop}{s:pC}{a₀:Array pW}{κ:UM}{an:pW->pW->Bool}
abbrev gK(xs:Array pW)(lo k:Nat):pW:=xs.getD (lo+k) (.none,.none)
def UpF(an:pW->pW->Bool)(f:Nat->pW)(m:Nat):Prop:=∀i j,i<j->j<m->an (f j) (f i)=false
def DnF(an:pW->pW->Bool)(f:Nat->pW)(m:Nat):Prop:=∀i j,i<j->j<m->an (f i) (f j)=false
def EqF(an:pW->pW->Bool)(f:Nat->pW)(m q:Nat):Prop:=∀i j,m<=i+q+1->i<m->m<=j+q+1->j<m->an (f i) (f j)=false
def FrL(xs ys:Array pW)(lo:Nat):Prop:=∀k,k<lo->xs[k]?=ys[k]?
variable{f:Nat->pW}
theorem UpF.step(T:WkT an)(u:UpF an f m)(h:1<=m->an (f m) (f (m-1))=false):UpF an f (m+1):=λi j hij hj=>by
 by_cases e:j=m
 ·subst e;have h':=h (by lia)
  by_cases e2:i=j-1
  ·rw[e2];exact h'
  ·exact T.cut _ _ _ h' (u i (j-1) (by lia) (by lia))
 ·exact u i j hij (by lia)
theorem DnF.step(T:WkT an)(u:DnF an f m)(h:1<=m->an (f (m-1)) (f m)=false):DnF an f (m+1):=λi j hij hj=>by
 by_cases e:j=m
 ·subst e;have h':=h (by lia)
  by_cases e2:i=j-1
  ·rw[e2];exact h'
  ·exact T.cut _ _ _ (u i (j-1) (by lia) (by lia)) h'
 ·exact u i j hij (by lia)
variable{xs:Array pW}{lo:Nat}
theorem wb{a:Nat}(hm:lo+m<=xs.size)(k:Nat):gK (mirror xs (lo+a) (lo+m) ((lo+m-(lo+a))/2)) lo k=if a<=k/\k<m then gK xs lo (a+m-1-k) else gK xs lo k:=by
 unfold gK;rw[pZ,BB hm]
 by_cases c:a<=k/\k<m
 ·rw[if_pos c,if_pos (by lia),pZ]
  congr 2
  lia
 ·rw[if_neg c,if_neg (by lia),pZ]
theorem wz{ys:Array pW}{a:Nat}(hm:lo+m<=xs.size)(h:FrL xs ys lo):FrL (mirror xs (lo+a) (lo+m) ((lo+m-(lo+a))/2)) ys lo:=λk hk=>by
 rw[BB hm,if_neg (by lia)]
 exact h k hk
variable{q:Nat}
theorem Wd(T:WkT an)(hm:lo+m<=xs.size)(d:DnF an (gK xs lo) m)(e:EqF an (gK xs lo) m q):DnF an (gK (mirror xs (lo+(m-(q+1))) (lo+m) ((lo+m-(lo+(m-(q+1))))/2)) lo) m:=λi j hij hj=>by
 rw[wb hm,wb hm]
 by_cases c1:m-(q+1)<=i/\i<m
 ·rw[if_pos c1,if_pos (by lia)]
  exact e _ _ (by lia) (by lia) (by lia) (by lia)
 ·rw[if_neg c1]
  by_cases c2:m-(q+1)<=j/\j<m
  ·rw[if_pos c2];exact d _ _ (by lia) (by lia)
  ·rw[if_neg c2];exact d _ _ hij hj
theorem Yp(hm:lo+m<=xs.size)(d:DnF an (gK xs lo) m):UpF an (gK (mirror xs (lo+0) (lo+m) ((lo+m-(lo+0))/2)) lo) m:=λi j hij hj=>by
 rw[wb hm,wb hm,if_pos (by lia),if_pos (by lia)]
 exact d _ _ (by lia) (by lia)
theorem ZG(T:WkT an)(hm:lo+m<xs.size)(h1:q+1<=m)(d:DnF an (gK xs lo) m)(e:EqF an (gK xs lo) m q)(c:an (gK xs lo m) (gK xs lo (m-1))=true):DnF an (gK (mirror xs (lo+(m-(q+1))) (lo+m) ((lo+m-(lo+(m-(q+1))))/2)) lo) (m+1):=by
 refine(Wd T (by lia) d e).step T λh1=>?_
 rw[wb (by lia),wb (by lia),if_pos (by lia),if_neg (by lia)]
 refine T.asymm ?_
 cases y:an (gK xs lo m) (gK xs lo (m-(q+1)+m-1-(m-1))) with
 |true=>rfl
 |false=>
  have:=T.cut _ _ _ y (e (m-(q+1)+m-1-(m-1)) (m-1) (by lia) (by lia) (by lia) (by lia))
  rw[c] at this
  cases this
theorem vS(T:WkT an)(m:Nat):EqF an f (m+1) 0:=λi j a b a' b'=>by
 have e1:i=m:=by lia
 have e2:j=m:=by lia
 rw[e1,e2];exact T.irr _
theorem za5(T:WkT an)(h1:1<=m)(e:EqF an f m q)(c:an (f m) (f (m-1))=false)(y:an (f (m-1)) (f m)=false):EqF an f (m+1) (q+1):=λi j i1 i2 j1 j2=>by
 by_cases ei:i=m
 ·subst ei
  by_cases ej:j=i
  ·rw[ej];exact T.irr _
  ·exact T.cut _ _ _ c (e (i-1) j (by lia) (by lia) (by lia) (by lia))
 ·by_cases ej:j=m
  ·subst ej;exact T.cut _ _ _ (e i (j-1) (by lia) (by lia) (by lia) (by lia)) y
  ·exact e i j (by lia) (by lia) (by lia) (by lia)
theorem all_eq(T:WkT an)(u:UpF an f m)(c:an (f 0) (f (m-1))=false):∀i j,i<m->j<m->an (f i) (f j)=false:=λi j hi hj=>by
 have le:∀a b,a<=b->b<m->an (f b) (f a)=false:=λa b hab hb=>by
  rcases gc hab with z|z
  ·exact u a b z hb
  ·rw[z];exact T.irr _
 exact T.cut _ _ _ (T.cut _ _ _ (le 0 i (by lia) hi) c) (le j (m-1) (by lia) (by lia))
theorem ltG(hq:QR prog w A E s κ a₀ an){i j i' j':Nat}{st:QF}{Q:Option Bool->QF->Prop}(hp:(arrOf st).Perm a₀)(ei:i'=lo+i)(ej:j'=lo+j)(hi:lo+i<a₀.size)(hj:lo+j<a₀.size)(hκ:kindOf st=κ)(h:Q (some (an (gK (arrOf st) lo i) (gK (arrOf st) lo j))) st):wpS (model prog w) A E s (ltAt' i' j') Q st:=by
 have sz:(arrOf st).size=a₀.size:=hp.size_eq;subst ei ej;rw[ltAt'_eq];refine pO (BU ?_);refine pO (yz (show lo+i<(arrOf st).size by lia) (pO (yz (show lo+j<(arrOf st).size by lia) ?_)))
 refine hq _ _ _ _ (hp.mem_iff.mp (UY _)) (hp.mem_iff.mp (UY _)) hκ ?_;have e:∀{k:Nat}(h:lo+k<(arrOf st).size),gK (arrOf st) lo k=(arrOf st)[lo+k]:=λ{k} h=>by
  unfold gK;rw[pZ,uM h];rfl
 rw[e (by lia),e (by lia)] at h
 exact h
theorem countG(T:WkT an)(hq:QR prog w A E s κ a₀ an){nrem:Nat}{st:QF}{Q:Option Nat->QF->Prop}(hp:(arrOf st).Perm a₀)(h1:1<=nrem)(hz:lo+nrem<=a₀.size)(hκ:kindOf st=κ)
  (h:∀m xs,1<=m->m<=nrem->xs.Perm a₀->FrL xs (arrOf st) lo->UpF an (gK xs lo) m->Q (some m) (Qm st xs)):wpS (model prog w) A E s (countRun' lo nrem) Q st:=by
 have sz:(arrOf st).size=a₀.size:=hp.size_eq;have f0:FrL (arrOf st) (arrOf st) lo:=λ_ _=>rfl;refine pO (UW (QD (I:=λx(c:Option (Option Nat)×Nat) st'=>st=st'/\c.1=none/\1<=c.2/\c.2=x/\UpF an (gK (arrOf st) lo) c.2) (Q:=λc st'=>st=st'/\c.1=none/\1<=c.2/\c.2<=nrem/\UpF an (gK (arrOf st) lo) c.2/\(c.2<nrem->an (gK (arrOf st) lo c.2) (gK (arrOf st) lo (c.2-1))=true)) ?_ ?_ ⟨rfl,rfl,pJ _,rfl,λi j _ hj=>(by have:j<1:=hj;lia)⟩) ?_)
 ·rintro x ⟨r,n⟩ st' hx1 hx ⟨rfl,e,hn1,hn2,u⟩;dsimp only at e hn1 hn2 u⊢;refine pO (ltG hq hp (i:=n) (j:=n-1) rfl (by lia) (by lia) (by lia) hκ ?_)
  cases eb:an (gK (arrOf st) lo n) (gK (arrOf st) lo (n-1)) with
  |true=>exact pU ⟨rfl,rfl,hn1,(by show n<=nrem;lia),u,λ_=>eb⟩
  |false=>exact pU ⟨rfl,rfl,(by show 1<=n+1;lia),(by show n+1=x+1;lia),u.step T λ_=>eb⟩
 ·rintro⟨r,n⟩ st' ⟨e,e1,hn1,hn2,u⟩;dsimp only at e e1 hn1 hn2 u⊢;exact⟨e,e1,hn1,by show n<=nrem;lia,u,λz=>by have:n<nrem:=z;lia⟩
 rintro⟨r,n⟩ st' ⟨rfl,e,hn1,hn2,u,us⟩;dsimp only at e hn1 hn2 u us⊢;subst e;dsimp only
 by_cases c1:(n==nrem)=true
 ·rw[if_pos c1];exact pU (h n (arrOf st) hn1 hn2 hp f0 u)
 rw[if_neg c1];have c1':n≠nrem:=λz=>c1 (by rw[z];exact beq_self_eq_true _)
 have us':=us (by lia)
 by_cases c2:n>1
 ·rw[if_pos c2];refine pO (ltG hq hp (i:=0) (j:=n-1) rfl (by lia) (by lia) (by lia) hκ ?_)
  cases er:an (gK (arrOf st) lo 0) (gK (arrOf st) lo (n-1)) with
  |true=>exact pU (h n (arrOf st) hn1 hn2 hp f0 u)
  |false=>
   have al:=all_eq T u er;have d1:DnF an (gK (mirror (arrOf st) (lo+0) (lo+n) ((lo+n-(lo+0))/2)) lo) (n+1):=by
    refine DnF.step T (λi j hij hj=>?_) λ_=>?_
    ·rw[wb (by lia),wb (by lia),if_pos (by lia),if_pos (by lia)]
     exact al _ _ (by lia) (by lia)
    ·rw[wb (by lia),wb (by lia),if_pos (by lia),if_neg (by lia)]
     refine T.asymm ?_
     cases y:an (gK (arrOf st) lo n) (gK (arrOf st) lo (0+n-1-(n-1))) with
     |true=>rfl
     |false=>
      have:=T.cut _ _ _ y (al (0+n-1-(n-1)) (n-1) (by lia) (by lia))
      rw[us'] at this
      cases this
   refine pO (Qk ?_);refine pO (DG (UI ⟨rfl,?_⟩));refine pO (UW (QD (I:=λx(c:Option (Option Nat)×Nat×Nat) st'=>(c.1=none/\1<=c.2.1/\c.2.1=x/\c.2.2+1<=c.2.1)/\∃xs,xs.Perm a₀/\FrL xs (arrOf st) lo/\DnF an (gK xs lo) c.2.1/\EqF an (gK xs lo) c.2.1 c.2.2/\st'=Qm st xs) (Q:=λc st'=>(c.1=none/\1<=c.2.1/\c.2.1<=nrem/\c.2.2+1<=c.2.1)/\∃xs,xs.Perm a₀/\FrL xs (arrOf st) lo/\DnF an (gK xs lo) c.2.1/\EqF an (gK xs lo) c.2.1 c.2.2/\st'=Qm st xs) ?_ ?_ ⟨⟨rfl,(by show 1<=n+1;lia),rfl,(by show 0+1<=n+1;lia)⟩,_,(AH _ _ _ _).trans hp,wz (a:=0) (by lia) f0,d1,vS T n,rfl⟩) ?_)
   ·rintro x ⟨r,n2,q2⟩ st' hx1 hx ⟨⟨e,hn1,hn2,hq2⟩,xs,px,fx,dx,ex,rfl⟩;dsimp only at e hn1 hn2 hq2 dx ex⊢;have sx:xs.size=a₀.size:=px.size_eq;refine pO (ltG hq px (i:=n2) (j:=n2-1) rfl (by lia) (by lia) (by lia) hκ ?_)
    cases eb:an (gK (arrOf (Qm st xs)) lo n2) (gK (arrOf (Qm st xs)) lo (n2-1)) with
    |true=>
     try dsimp only
     rw[if_pos rfl]
     by_cases qq:q2>0
     ·rw[if_pos qq];refine pO (Qk (pU ⟨⟨rfl,(by show 1<=n2+1;lia),(by show n2+1=x+1;lia),(by show 0+1<=n2+1;lia)⟩,mirror xs (lo+(n2-(q2+1))) (lo+n2) ((lo+n2-(lo+(n2-(q2+1))))/2),(AH _ _ _ _).trans px,wz (by lia) fx,ZG T (by lia) hq2 dx ex eb,vS T n2,?_⟩))
      rw[show lo+n2-(q2+1)=lo+(n2-(q2+1)) by lia];rfl
     ·rw[if_neg qq];exact pU ⟨⟨rfl,(by show 1<=n2+1;lia),(by show n2+1=x+1;lia),(by show 0+1<=n2+1;lia)⟩,_,px,fx,dx.step T λ_=>T.asymm eb,vS T n2,rfl⟩
    |false=>
     refine pO (ltG hq px (i:=n2-1) (j:=n2) (by lia) rfl (by lia) (by lia) hκ ?_)
     cases ec:an (gK (arrOf (Qm st xs)) lo (n2-1)) (gK (arrOf (Qm st xs)) lo n2) with
     |true=>exact pU ⟨⟨rfl,hn1,(by show n2<=nrem;lia),hq2⟩,_,px,fx,dx,ex,rfl⟩
     |false=>exact pU ⟨⟨rfl,(by show 1<=n2+1;lia),(by show n2+1=x+1;lia),(by show q2+1+1<=n2+1;lia)⟩,_,px,fx,dx.step T λ_=>ec,za5 T hn1 ex eb ec,rfl⟩
   ·rintro⟨r,n2,q2⟩ st' ⟨⟨e,hn1,hn2,hq2⟩,z⟩;dsimp only at e hn1 hn2 hq2 z⊢;exact⟨⟨e,hn1,by show n2<=nrem;lia,hq2⟩,z⟩
   ·rintro⟨r,n2,q2⟩ st' ⟨⟨e,hn1,hn2,hq2⟩,xs2,px2,fx2,dx2,ex2,rfl⟩;dsimp only at e hn1 hn2 hq2 dx2 ex2⊢;subst e;dsimp only;have sx:xs2.size=a₀.size:=px2.size_eq
    by_cases qq:q2>0
    ·rw[if_pos qq];have dr:=Wd T (by lia) dx2 ex2
     have er:lo+n2-(q2+1)=lo+(n2-(q2+1)):=by lia
     refine pO (Qk ?_);refine pO (Qk ?_);rw[er];have pr:(mirror xs2 (lo+(n2-(q2+1))) (lo+n2) ((lo+n2-(lo+(n2-(q2+1))))/2)).Perm a₀:=(AH _ _ _ _).trans px2;have fr:FrL (mirror xs2 (lo+(n2-(q2+1))) (lo+n2) ((lo+n2-(lo+(n2-(q2+1))))/2)) (arrOf st) lo:=wz (by lia) fx2
     have sx3:(mirror xs2 (lo+(n2-(q2+1))) (lo+n2) ((lo+n2-(lo+(n2-(q2+1))))/2)).size=a₀.size:=pr.size_eq;refine pO (UW (QD (I:=λx(c:Option (Option Nat)×Nat) st'=>(c.1=none/\1<=c.2/\c.2=x)/\∃xs,xs.Perm a₀/\FrL xs (arrOf st) lo/\UpF an (gK xs lo) c.2/\st'=Qm st xs) (Q:=λc st'=>(c.1=none/\1<=c.2/\c.2<=nrem)/\∃xs,xs.Perm a₀/\FrL xs (arrOf st) lo/\UpF an (gK xs lo) c.2/\st'=Qm st xs) ?_ ?_ ⟨⟨rfl,(by show 1<=n2;lia),rfl⟩,_,(AH _ _ _ _).trans pr,wz (a:=0) (by lia) fr,Yp (by lia) dr,rfl⟩) ?_)
     ·rintro x ⟨r,n3⟩ st' hx1 hx ⟨⟨e,hn1,hn2'⟩,xs,px,fx,ux,rfl⟩;dsimp only at e hn1 hn2' ux⊢;refine pO (ltG hq px (i:=n3) (j:=n3-1) rfl (by lia) (by lia) (by lia) hκ ?_)
      cases eb:an (gK (arrOf (Qm st xs)) lo n3) (gK (arrOf (Qm st xs)) lo (n3-1)) with
      |true=>exact pU ⟨⟨rfl,hn1,(by show n3<=nrem;lia)⟩,_,px,fx,ux,rfl⟩
      |false=>exact pU ⟨⟨rfl,(by show 1<=n3+1;lia),(by show n3+1=x+1;lia)⟩,_,px,fx,ux.step T λ_=>eb,rfl⟩
     ·rintro⟨r,n3⟩ st' ⟨⟨e,hn1,hn2'⟩,z⟩;dsimp only at e hn1 hn2' z⊢;exact⟨⟨e,hn1,by show n3<=nrem;lia⟩,z⟩
     ·rintro⟨r,n3⟩ st' ⟨⟨e,hn1,hn2'⟩,xs,px,fx,ux,rfl⟩;dsimp only at e hn1 hn2' ux⊢;subst e;exact pU (h n3 xs hn1 hn2' px fx ux)
    ·rw[if_neg qq];refine pO (Qk ?_);refine pO (UW (QD (I:=λx(c:Option (Option Nat)×Nat) st'=>(c.1=none/\1<=c.2/\c.2=x)/\∃xs,xs.Perm a₀/\FrL xs (arrOf st) lo/\UpF an (gK xs lo) c.2/\st'=Qm st xs) (Q:=λc st'=>(c.1=none/\1<=c.2/\c.2<=nrem)/\∃xs,xs.Perm a₀/\FrL xs (arrOf st) lo/\UpF an (gK xs lo) c.2/\st'=Qm st xs) ?_ ?_ ⟨⟨rfl,(by show 1<=n2;lia),rfl⟩,_,(AH _ _ _ _).trans px2,wz (a:=0) (by lia) fx2,Yp (by lia) dx2,rfl⟩) ?_)
     ·rintro x ⟨r,n3⟩ st' hx1 hx ⟨⟨e,hn1,hn2'⟩,xs,px,fx,ux,rfl⟩;dsimp only at e hn1 hn2' ux⊢;refine pO (ltG hq px (i:=n3) (j:=n3-1) rfl (by lia) (by lia) (by lia) hκ ?_)
      cases eb:an (gK (arrOf (Qm st xs)) lo n3) (gK (arrOf (Qm st xs)) lo (n3-1)) with
      |true=>exact pU ⟨⟨rfl,hn1,(by show n3<=nrem;lia)⟩,_,px,fx,ux,rfl⟩
      |false=>exact pU ⟨⟨rfl,(by show 1<=n3+1;lia),(by show n3+1=x+1;lia)⟩,_,px,fx,ux.step T λ_=>eb,rfl⟩
     ·rintro⟨r,n3⟩ st' ⟨⟨e,hn1,hn2'⟩,z⟩;dsimp only at e hn1 hn2' z⊢;exact⟨⟨e,hn1,by show n3<=nrem;lia⟩,z⟩
     ·rintro⟨r,n3⟩ st' ⟨⟨e,hn1,hn2'⟩,xs,px,fx,ux,rfl⟩;dsimp only at e hn1 hn2' ux⊢;subst e;exact pU (h n3 xs hn1 hn2' px fx ux)
 ·rw[if_neg c2];have n1:n=1:=by lia
  have d1:DnF an (gK (arrOf st) lo) (n+1):=DnF.step T (λi j hij hj=>by lia) λ_=>T.asymm us'
  refine pO (DG (UI ⟨rfl,?_⟩));refine pO (UW (QD (I:=λx(c:Option (Option Nat)×Nat×Nat) st'=>(c.1=none/\1<=c.2.1/\c.2.1=x/\c.2.2+1<=c.2.1)/\∃xs,xs.Perm a₀/\FrL xs (arrOf st) lo/\DnF an (gK xs lo) c.2.1/\EqF an (gK xs lo) c.2.1 c.2.2/\st'=Qm st xs) (Q:=λc st'=>(c.1=none/\1<=c.2.1/\c.2.1<=nrem/\c.2.2+1<=c.2.1)/\∃xs,xs.Perm a₀/\FrL xs (arrOf st) lo/\DnF an (gK xs lo) c.2.1/\EqF an (gK xs lo) c.2.1 c.2.2/\st'=Qm st xs) ?_ ?_ ⟨⟨rfl,(by show 1<=n+1;lia),rfl,(by show 0+1<=n+1;lia)⟩,_,hp,f0,d1,vS T n,rfl⟩) ?_)
  ·rintro x ⟨r,n2,q2⟩ st' hx1 hx ⟨⟨e,hn1,hn2,hq2⟩,xs,px,fx,dx,ex,rfl⟩;dsimp only at e hn1 hn2 hq2 dx ex⊢;have sx:xs.size=a₀.size:=px.size_eq;refine pO (ltG hq px (i:=n2) (j:=n2-1) rfl (by lia) (by lia) (by lia) hκ ?_)
   cases eb:an (gK (arrOf (Qm st xs)) lo n2) (gK (arrOf (Qm st xs)) lo (n2-1)) with
   |true=>
    try dsimp only
    rw[if_pos rfl]
    by_cases qq:q2>0
    ·rw[if_pos qq];refine pO (Qk (pU ⟨⟨rfl,(by show 1<=n2+1;lia),(by show n2+1=x+1;lia),(by show 0+1<=n2+1;lia)⟩,mirror xs (lo+(n2-(q2+1))) (lo+n2) ((lo+n2-(lo+(n2-(q2+1))))/2),(AH _ _ _ _).trans px,wz (by lia) fx,ZG T (by lia) hq2 dx ex eb,vS T n2,?_⟩))
     rw[show lo+n2-(q2+1)=lo+(n2-(q2+1)) by lia];rfl
    ·rw[if_neg qq];exact pU ⟨⟨rfl,(by show 1<=n2+1;lia),(by show n2+1=x+1;lia),(by show 0+1<=n2+1;lia)⟩,_,px,fx,dx.step T λ_=>T.asymm eb,vS T n2,rfl⟩
   |false=>
    refine pO (ltG hq px (i:=n2-1) (j:=n2) (by lia) rfl (by lia) (by lia) hκ ?_)
    cases ec:an (gK (arrOf (Qm st xs)) lo (n2-1)) (gK (arrOf (Qm st xs)) lo n2) with
    |true=>exact pU ⟨⟨rfl,hn1,(by show n2<=nrem;lia),hq2⟩,_,px,fx,dx,ex,rfl⟩
    |false=>exact pU ⟨⟨rfl,(by show 1<=n2+1;lia),(by show n2+1=x+1;lia),(by show q2+1+1<=n2+1;lia)⟩,_,px,fx,dx.step T λ_=>ec,za5 T hn1 ex eb ec,rfl⟩
  ·rintro⟨r,n2,q2⟩ st' ⟨⟨e,hn1,hn2,hq2⟩,z⟩;dsimp only at e hn1 hn2 hq2 z⊢;exact⟨⟨e,hn1,by show n2<=nrem;lia,hq2⟩,z⟩
  ·rintro⟨r,n2,q2⟩ st' ⟨⟨e,hn1,hn2,hq2⟩,xs2,px2,fx2,dx2,ex2,rfl⟩;dsimp only at e hn1 hn2 hq2 dx2 ex2⊢;subst e;dsimp only;have sx:xs2.size=a₀.size:=px2.size_eq
   by_cases qq:q2>0
   ·rw[if_pos qq];have dr:=Wd T (by lia) dx2 ex2
    have er:lo+n2-(q2+1)=lo+(n2-(q2+1)):=by lia
    refine pO (Qk ?_);refine pO (Qk ?_);rw[er];have pr:(mirror xs2 (lo+(n2-(q2+1))) (lo+n2) ((lo+n2-(lo+(n2-(q2+1))))/2)).Perm a₀:=(AH _ _ _ _).trans px2;have fr:FrL (mirror xs2 (lo+(n2-(q2+1))) (lo+n2) ((lo+n2-(lo+(n2-(q2+1))))/2)) (arrOf st) lo:=wz (by lia) fx2
    have sx3:(mirror xs2 (lo+(n2-(q2+1))) (lo+n2) ((lo+n2-(lo+(n2-(q2+1))))/2)).size=a₀.size:=pr.size_eq;refine pO (UW (QD (I:=λx(c:Option (Option Nat)×Nat) st'=>(c.1=none/\1<=c.2/\c.2=x)/\∃xs,xs.Perm a₀/\FrL xs (arrOf st) lo/\UpF an (gK xs lo) c.2/\st'=Qm st xs) (Q:=λc st'=>(c.1=none/\1<=c.2/\c.2<=nrem)/\∃xs,xs.Perm a₀/\FrL xs (arrOf st) lo/\UpF an (gK xs lo) c.2/\st'=Qm st xs) ?_ ?_ ⟨⟨rfl,(by show 1<=n2;lia),rfl⟩,_,(AH _ _ _ _).trans pr,wz (a:=0) (by lia) fr,Yp (by lia) dr,rfl⟩) ?_)
    ·rintro x ⟨r,n3⟩ st' hx1 hx ⟨⟨e,hn1,hn2'⟩,xs,px,fx,ux,rfl⟩;dsimp only at e hn1 hn2' ux⊢;refine pO (ltG hq px (i:=n3) (j:=n3-1) rfl (by lia) (by lia) (by lia) hκ ?_)
     cases eb:an (gK (arrOf (Qm st xs)) lo n3) (gK (arrOf (Qm st xs)) lo (n3-1)) with
     |true=>exact pU ⟨⟨rfl,hn1,(by show n3<=nrem;lia)⟩,_,px,fx,ux,rfl⟩
     |false=>exact pU ⟨⟨rfl,(by show 1<=n3+1;lia),(by show n3+1=x+1;lia)⟩,_,px,fx,ux.step T λ_=>eb,rfl⟩
    ·rintro⟨r,n3⟩ st' ⟨⟨e,hn1,hn2'⟩,z⟩;dsimp only at e hn1 hn2' z⊢;exact⟨⟨e,hn1,by show n3<=nrem;lia⟩,z⟩
    ·rintro⟨r,n3⟩ st' ⟨⟨e,hn1,hn2'⟩,xs,px,fx,ux,rfl⟩;dsimp only at e hn1 hn2' ux⊢;subst e;exact pU (h n3 xs hn1 hn2' px fx ux)
   ·rw[if_neg qq];refine pO (Qk ?_);refine pO (UW (QD (I:=λx(c:Option (Option Nat)×Nat) st'=>(c.1=none/\1<=c.2/\c.2=x)/\∃xs,xs.Perm a₀/\FrL xs (arrOf st) lo/\UpF an (gK xs lo) c.2/\st'=Qm st xs) (Q:=λc st'=>(c.1=none/\1<=c.2/\c.2<=nrem)/\∃xs,xs.Perm a₀/\FrL xs (arrOf st) lo/\UpF an (gK xs lo) c.2/\st'=Qm st xs) ?_ ?_ ⟨⟨rfl,(by show 1<=n2;lia),rfl⟩,_,(AH _ _ _ _).trans px2,wz (a:=0) (by lia) fx2,Yp (by lia) dx2,rfl⟩) ?_)
    ·rintro x ⟨r,n3⟩ st' hx1 hx ⟨⟨e,hn1,hn2'⟩,xs,px,fx,ux,rfl⟩;dsimp only at e hn1 hn2' ux⊢;refine pO (ltG hq px (i:=n3) (j:=n3-1) rfl (by lia) (by lia) (by lia) hκ ?_)
     cases eb:an (gK (arrOf (Qm st xs)) lo n3) (gK (arrOf (Qm st xs)) lo (n3-1)) with
     |true=>exact pU ⟨⟨rfl,hn1,(by show n3<=nrem;lia)⟩,_,px,fx,ux,rfl⟩
     |false=>exact pU ⟨⟨rfl,(by show 1<=n3+1;lia),(by show n3+1=x+1;lia)⟩,_,px,fx,ux.step T λ_=>eb,rfl⟩
    ·rintro⟨r,n3⟩ st' ⟨⟨e,hn1,hn2'⟩,z⟩;dsimp only at e hn1 hn2' z⊢;exact⟨⟨e,hn1,by show n3<=nrem;lia⟩,z⟩
    ·rintro⟨r,n3⟩ st' ⟨⟨e,hn1,hn2'⟩,xs,px,fx,ux,rfl⟩;dsimp only at e hn1 hn2' ux⊢;subst e;exact pU (h n3 xs hn1 hn2' px fx ux)
end
section
variable{prog:pi}{w:uR}{A:uQ}{E:pB->pC->Prop}{s:pC}{a₀:Array pW}{κ:UM}{an:pW->pW->Bool}
variable{xs:Array pW}{lo l k:Nat}
theorem Z6(hk:lo+k<xs.size)(hl:l<=k)(j:Nat):gK (bubble xs (lo+k) (lo+k-(lo+l))) lo j=if j=l then gK xs lo k else if l<j/\j<=k then gK xs lo (j-1) else gK xs lo j:=by
 unfold gK;rw[pZ,ES hk _ (by lia)]
 by_cases c1:j=l
 ·rw[if_pos c1,if_pos (by lia),pZ]
 ·rw[if_neg c1,if_neg (by lia)]
  by_cases c2:l<j/\j<=k
  ·rw[if_pos c2,if_pos (by lia),pZ]
   congr 2
   lia
  ·rw[if_neg c2,if_neg (by lia),pZ]
theorem frL_bub{ys:Array pW}(hk:lo+k<xs.size)(hl:l<=k)(h:FrL xs ys lo):FrL (bubble xs (lo+k) (lo+k-(lo+l))) ys lo:=λj hj=>by
 rw[ES hk _ (by lia),if_neg (by lia),if_neg (by lia)]
 exact h j hj
theorem up_bub(T:WkT an)(hk:lo+k<xs.size)(hl:l<=k)(u:UpF an (gK xs lo) k)(h1:∀i,i<l->an (gK xs lo k) (gK xs lo i)=false)(h2:∀i,l<=i->i<k->an (gK xs lo k) (gK xs lo i)=true):UpF an (gK (bubble xs (lo+k) (lo+k-(lo+l))) lo) (k+1):=λi j hij hj=>by
 rw[Z6 hk hl,Z6 hk hl]
 by_cases a1:j=l
 ·rw[if_pos a1,if_neg (by lia),if_neg (by lia)]
  exact h1 i (by lia)
 ·rw[if_neg a1]
  by_cases a2:l<j/\j<=k
  ·rw[if_pos a2]
   by_cases b1:i=l
   ·rw[if_pos b1];exact T.asymm (h2 (j-1) (by lia) (by lia))
   ·rw[if_neg b1]
    by_cases b2:l<i/\i<=k
    ·rw[if_pos b2];exact u (i-1) (j-1) (by lia) (by lia)
    ·rw[if_neg b2];exact u i (j-1) (by lia) (by lia)
  ·rw[if_neg a2,if_neg (by lia),if_neg (by lia)]
   exact u i j hij (by lia)
theorem binG(T:WkT an)(hq:QR prog w A E s κ a₀ an){n ok:Nat}{st:QF}{Q:Bool->QF->Prop}(hp:(arrOf st).Perm a₀)(hz:lo+n<=a₀.size)(hκ:kindOf st=κ)(u:UpF an (gK (arrOf st) lo) ok)
  (h:∀xs,xs.Perm a₀->FrL xs (arrOf st) lo->UpF an (gK xs lo) n->Q true (Qm st xs)):wpS (model prog w) A E s (binarySort' lo n ok) Q st:=by
 refine pO (UW (QD (I:=λx(c:Option Bool×Unit) st'=>c.1=none/\∃xs,xs.Perm a₀/\FrL xs (arrOf st) lo/\UpF an (gK xs lo) x/\st'=Qm st xs) (Q:=λc st'=>c.1=none/\∃xs,xs.Perm a₀/\FrL xs (arrOf st) lo/\UpF an (gK xs lo) n/\st'=Qm st xs) ?_ ?_ ⟨rfl,_,hp,λ_ _=>rfl,λi j hij hj=>?_,rfl⟩) ?_)
 ·rintro x ⟨r,un⟩ st' hx1 hx ⟨e,xs,px,fx,ux,rfl⟩;dsimp only at e⊢;have sx:xs.size=a₀.size:=px.size_eq;refine pO (UW (QD (I:=λy(c:Option Bool×Nat×Nat) st'=>c.1=none/\(c.2.1<=c.2.2/\c.2.2<=x/\c.2.2-c.2.1<=x-y)/\(∀i,i<c.2.1->an (gK xs lo x) (gK xs lo i)=false)/\(∀i,c.2.2<=i->i<x->an (gK xs lo x) (gK xs lo i)=true)/\st'=Qm st xs) (Q:=λc st'=>c.1=none/\c.2.1<=x/\(∀i,i<c.2.1->an (gK xs lo x) (gK xs lo i)=false)/\(∀i,c.2.1<=i->i<x->an (gK xs lo x) (gK xs lo i)=true)/\st'=Qm st xs) ?_ ?_ ⟨rfl,⟨uJ _,pJ _,(by show x-0<=x-0;lia)⟩,λi hi=>absurd hi (Gg _),λi hi hi'=>(by have:x<=i:=hi;lia),rfl⟩) ?_)
  ·rintro y ⟨r1,l,r⟩ st' _ hy ⟨e1,⟨q1,q2,q3⟩,q4,q5,rfl⟩;dsimp only at e1 q1 q2 q3 q4 q5⊢
   by_cases c:l≥r
   ·rw[if_pos c];have el:l=r:=by lia
    subst el;exact pU ⟨rfl,q2,q4,q5,rfl⟩
   ·rw[if_neg c];refine pO (ltG hq px (i:=x) (j:=(l+r)/2) rfl rfl (by lia) (by lia) hκ ?_)
    cases eb:an (gK (arrOf (Qm st xs)) lo x) (gK (arrOf (Qm st xs)) lo ((l+r)/2)) with
    |true=>
     refine pU ⟨rfl,⟨(by show l<=(l+r)/2;lia),(by show(l+r)/2<=x;lia),(by show(l+r)/2-l<=x-(y+1);lia)⟩,q4,λi hi hi'=>?_,rfl⟩
     have hi2:(l+r)/2<=i:=hi
     cases z:an (gK xs lo x) (gK xs lo i) with
     |true=>rfl
     |false=>
      rcases gc hi2 with y1|y1
      ·have:=T.cut _ _ _ z (ux _ i y1 hi');rw[show an (gK xs lo x) (gK xs lo ((l+r)/2))=true from eb] at this
       cases this
      ·rw[←y1] at z;rw[show an (gK xs lo x) (gK xs lo ((l+r)/2))=true from eb] at z
       cases z
    |false=>
     refine pU ⟨rfl,⟨(by show(l+r)/2+1<=r;lia),q2,(by show r-((l+r)/2+1)<=x-(y+1);lia)⟩,λi hi=>?_,q5,rfl⟩
     have hi2:i<(l+r)/2+1:=hi;rcases gc (Fq hi2) with y1|y1
     ·exact T.cut _ _ _ eb (ux i _ y1 (by lia))
     ·rw[y1];exact eb
  ·rintro⟨r1,l,r⟩ st' ⟨e1,⟨q1,q2,q3⟩,q4,q5,rfl⟩;dsimp only at e1 q1 q2 q3 q4 q5⊢;have el:l=r:=by lia
   subst el;exact⟨e1,q2,q4,q5,rfl⟩
  ·rintro⟨r1,l,r⟩ st' ⟨e1,q2,q4,q5,rfl⟩;dsimp only at e1 q2 q4 q5⊢;subst e1;exact pO (Qk (pU ⟨rfl,_,(GT _ _ _).trans px,frL_bub (by lia) q2 fx,up_bub T (by lia) q2 ux q4 q5,rfl⟩))
 ·rintro⟨r,un⟩ st' ⟨e,xs,px,fx,ux,rfl⟩;exact⟨e,xs,px,fx,λi j hij hj=>ux i j hij (by lia),rfl⟩
 ·by_cases o:ok=0
  ·have:j<max ok 1:=hj;lia
  ·exact u i j hij (by have:j<max ok 1:=hj;lia)
 ·rintro⟨r,un⟩ st' ⟨e,xs,px,fx,ux,rfl⟩;dsimp only at e⊢;subst e;exact pU (h xs px fx ux)
end
variable{na nb:Nat}
section
variable{prog:pi}{w:uR}{A:uQ}{E:pB->pC->Prop}{s:pC}{a₀:Array pW}{κ:UM}{an:pW->pW->Bool}
variable{xs:Array pW}{lo:Nat}
def yZ{k:Nat}(h:lo+k<xs.size):gK xs lo k=xs[lo+k]:=by
 unfold gK;rw[pZ,uM h];rfl
variable{n:Nat}
theorem wL(h:lo+n<=xs.size):UpF an (gK xs lo) n↔UpL an ((xs.toList.drop lo).take n):=by
 have ln:((xs.toList.drop lo).take n).length=n:=by rw[pV,pg,pT];lia
 have at_:∀{i:Nat}(hi:i<((xs.toList.drop lo).take n).length),((xs.toList.drop lo).take n)[i]=gK xs lo i:=λ{i} hi=>by
  rw[ln] at hi;rw[Qv,Qi,QC,yZ (by lia)]
 unfold UpL;rw[List.pairwise_iff_getElem]
 constructor
 ·intro u i j hi hj hij;rw[at_ hi,at_ hj];exact u i j hij (by lia)
 ·intro u i j hij hj;have:=u i j (by lia) (by lia) hij
  rw[at_ (by lia),at_ (by lia)] at this
  exact this
def Wj(u:UpF an (gK xs lo) n):we an xs lo n:=λi j hij hj hi hj'=>by
 have:=u i j hij hj;rw[yZ hj',yZ hi] at this;exact this
theorem Yw{a:Array pW}(u:UpL an a.toList):we an a 0 a.size:=Wj ((wL (by lia)).mpr (by
 rw[AS,pz (by rw[pT];exact pJ _)]
 exact u))
def FrO(xs ys:Array pW)(lo hi:Nat):Prop:=∀k,k<lo∨hi<=k->xs[k]?=ys[k]?
theorem mergedS(T:WkT an){arr m:Array pW}{k:Nat}(hz:sa+na+nb<=arr.size)(hk:k<na)(hn:n<=nb)(ua:UpF an (gK arr sa) na)(ub:UpF an (gK arr (sa+na)) nb)
  (h1:∀i,i<k->an (gK arr (sa+na) 0) (gK arr sa i)=false)(h0:0<nb)(h2:∀i,n<=i->i<nb->an (gK arr (sa+na) i) (gK arr sa (na-1))=false)
  (hm:m.toList.Perm ((arr.extract (sa+k) (sa+na)).toList++(arr.extract (sa+na) (sa+na+n)).toList))(um:UpL an m.toList):
  UpF an (gK (m.toList.zipIdx.foldl (λa(x:pW×Nat)=>match x with|(p,j)=>a.setIfInBounds (sa+k+j) p) arr) sa) (na+nb)/\
  FrO (m.toList.zipIdx.foldl (λa(x:pW×Nat)=>match x with|(p,j)=>a.setIfInBounds (sa+k+j) p) arr) arr sa (sa+na+nb):=by
 have lm:m.toList.length=na-k+n:=by
  rw[hm.length_eq,pM,y7,y7,pV,pV,pg,pg,pT];lia
 have e:=YT (sa+k) m.toList 0 arr (by lia)
 rw[He,lm] at e;have pm:(m.toList.zipIdx.foldl (λa(x:pW×Nat)=>match x with|(p,j)=>a.setIfInBounds (sa+k+j) p) arr).Perm arr:=za6 (sa:=sa+k) (sb:=sa+na) (nb:=n) (by lia) (by lia) hm
 have sz:=pm.size_eq;generalize m.toList.zipIdx.foldl (λa(x:pW×Nat)=>match x with|(p,j)=>a.setIfInBounds (sa+k+j) p) arr=ys at*
 rw[wL (by lia)] at ua ub
 have eA:(arr.toList.drop sa).take na=(arr.toList.drop sa).take k++(arr.extract (sa+k) (sa+na)).toList:=by
  rw[y7,show sa+na-(sa+k)=na-k by lia,←gE]
  have:=QN k ((arr.toList.drop sa).take na);rw[DF,AC (by lia),Bw] at this
  exact this.symm
 have eB:(arr.toList.drop (sa+na)).take nb=(arr.extract (sa+na) (sa+na+n)).toList++((arr.toList.drop (sa+na)).take nb).drop n:=by
  rw[wd];have:=QN n ((arr.toList.drop (sa+na)).take nb);rw[DF,AC hn] at this;exact this.symm
 have ey:(ys.toList.drop sa).take (na+nb)=(arr.toList.drop sa).take k++m.toList++((arr.toList.drop (sa+na)).take nb).drop n:=by
  rw[e,uS,List.drop_append_of_le_length (by rw[pV,pT];lia),Bw,show sa+k-sa=k by lia,uS]
  rw[GL,pV,pg,pT,pz (by rw[pV];lia)]
  rw[GL,pz (l:=m.toList) (by rw[lm];lia),lm]
  congr 2
  rw[Bw,gE]
  congr 1
  ·lia
  ·congr 1
   lia
 rw[eA,yA] at ua;rw[eB,yA] at ub;have mA:∀x,x∈(arr.toList.drop sa).take k->an (gK arr (sa+na) 0) x=false:=λx hx=>by
  obtain⟨i,hi,ei⟩:=QB.mp hx;rw[pV,pg,pT] at hi;rw[←ei,Qv,Qi,QC,←yZ (by lia)]
  exact h1 i (by lia)
 have b0:∀y,y∈(arr.toList.drop (sa+na)).take nb->an y (gK arr (sa+na) 0)=false:=λy hy=>by
  have u:=(wL (an:=an) (xs:=arr) (lo:=sa+na) (n:=nb) (by lia)).mpr (by rw[eB,yA];exact ub)
  obtain⟨i,hi,ei⟩:=QB.mp hy;rw[pV,pg,pT] at hi;rw[←ei,Qv,Qi,QC,←yZ (by lia)]
  by_cases z:i=0
  ·rw[z];exact T.irr _
  ·exact u 0 i (by lia) (by lia)
 have mB:∀y,y∈((arr.toList.drop (sa+na)).take nb).drop n->an y (gK arr sa (na-1))=false:=λy hy=>by
  obtain⟨i,hi,ei⟩:=QB.mp hy;rw[pg,pV,pg,pT] at hi;rw[←ei,Qi,Qv,Qi,QC,←yZ (by lia)]
  exact h2 (n+i) (by lia) (by lia)
 have al:∀x,x∈(arr.extract (sa+k) (sa+na)).toList->an (gK arr sa (na-1)) x=false:=λx hx=>by
  have u:=(wL (an:=an) (xs:=arr) (lo:=sa) (n:=na) (by lia)).mpr (by rw[eA,yA];exact ua)
  rw[y7] at hx;obtain⟨i,hi,ei⟩:=QB.mp hx;rw[pV,pg,pT] at hi;rw[←ei,Qv,Qi,QC];have ge:arr[sa+k+i]'(by lia)=gK arr sa (k+i):=by rw[yZ (by lia)];congr 1;lia
  rw[ge]
  by_cases z:k+i=na-1
  ·rw[z];exact T.irr _
  ·exact u (k+i) (na-1) (by lia) (by lia)
 have mm:∀x,x∈m.toList->x∈(arr.extract (sa+k) (sa+na)).toList∨x∈(arr.extract (sa+na) (sa+na+n)).toList:=λx hx=>pP.mp (hm.mem_iff.mp hx);have inB:∀x,x∈(arr.extract (sa+na) (sa+na+n)).toList->x∈(arr.toList.drop (sa+na)).take nb:=λx hx=>by rw[eB];exact uD _ hx
 have inB2:∀x,x∈((arr.toList.drop (sa+na)).take nb).drop n->x∈(arr.toList.drop (sa+na)).take nb:=λx hx=>by rw[eB];exact pI _ hx
 refine⟨(wL (by lia)).mpr ?_,λj hj=>?_⟩
 ·rw[ey,yA,yA];refine⟨⟨ua.1,um,λx hx y hy=>?_⟩,ub.2.1,λx hx y hy=>?_⟩
  ·rcases mm y hy with z|z
   ·exact ua.2.2 x hx y z
   ·exact T.cut _ _ _ (b0 y (inB y z)) (mA x hx)
  ·rcases pP.mp hx with hx|hx
   ·exact T.cut _ _ _ (b0 y (inB2 y hy)) (mA x hx)
   ·rcases mm x hx with z|z
    ·exact T.cut _ _ _ (mB y hy) (al x z)
    ·exact ub.2.2 x z y hy
 ·rw[←ui,e,←ui];rcases hj with hj|hj
  ·rw[uS,Qf (by rw[pV,pT];lia),BY,if_pos (by lia)]
  ·rw[Qb (by rw[pM,pV,pT,lm];lia),pM,pV,pT,lm,Uv]
   congr 1
   lia
end
section
variable{prog:pi}{w:uR}{A:uQ}{E:pB->pC->Prop}{s:pC}{a₀:Array pW}{κ:UM}{an:pW->pW->Bool}
def jh(xs:Array pW)(a n j:Nat):gK xs a (n+j)=gK xs (a+n) j:=by unfold gK;rw[BK]
theorem upF_cat(T:WkT an){arr:Array pW}(ua:UpF an (gK arr sa) na)(ub:UpF an (gK arr (sa+na)) nb)(h:∀i,i<na->an (gK arr (sa+na) 0) (gK arr sa i)=false):UpF an (gK arr sa) (na+nb):=λi j hij hj=>by
 by_cases c1:j<na
 ·exact ua i j hij c1
 ·have ej:j=na+(j-na):=by lia
  have bj:∀x,x<nb->an (gK arr (sa+na) x) (gK arr (sa+na) 0)=false:=λx hx=>by
   by_cases z:x=0
   ·rw[z];exact T.irr _
   ·exact ub 0 x (by lia) hx
  by_cases c2:i<na
  ·rw[ej,jh];exact T.cut _ _ _ (bj _ (by lia)) (h i c2)
  ·have ei:i=na+(i-na):=by lia
   rw[ej,ei,jh,jh];exact ub _ _ (by lia) (by lia)
theorem mergeG(T:WkT an)(hq:QR prog w A E s κ a₀ an){i p1 p2:Nat}{st:QF}{Q:Bool->QF->Prop}(hp:(arrOf st).Perm a₀)(hκ:kindOf st=κ)(hf:BG st=none)(e1:(uE st)[i]?=some (sa,na,p1))(e2:(uE st)[i+1]?=some (sa+na,nb,p2))(n1:0<na)(n2:0<nb)(hz:sa+na+nb<=a₀.size)
  (ua:UpF an (gK (arrOf st) sa) na)(ub:UpF an (gK (arrOf st) (sa+na)) nb)
  (h:∀xs g,xs.Perm a₀->FrO xs (arrOf st) sa (sa+na+nb)->UpF an (gK xs sa) (na+nb)->Q true (pSt st xs (((uE st).setIfInBounds i (sa,na+nb,p1)).eraseIdxIfInBounds (i+1)) g)):wpS (model prog w) A E s (mergeAt' i) Q st:=by
 have sz:(arrOf st).size=a₀.size:=hp.size_eq;have mem:∀x,x∈arrOf st->x∈a₀:=λx hx=>hp.mem_iff.mp hx;refine pO (BU ?_);show wpS _ _ _ _ (match((uE st)[i]?,(uE st)[i+1]?) with|_=>_) _ _
 rw[e1,e2];dsimp only;refine pO (wpS_set ?_);refine pO (yz (show sa+na<(arrOf st).size by lia) ?_)
 refine pO (galR T hq (mem _ (UY _)) mem (by show sa+na<=(arrOf st).size;lia) n1 hκ (Wj ua) λk hk t1 t2=>?_)
 dsimp only;have g0:gK (arrOf st) (sa+na) 0=(arrOf st)[sa+na]:=yZ (by lia)
 have r1:∀j,j<k->an (gK (arrOf st) (sa+na) 0) (gK (arrOf st) sa j)=false:=λj hj=>by
  rw[g0,yZ (by lia)]
  exact t1 j hj (show sa+j<(arrOf st).size by lia)
 have r2:∀j,k<=j->j<na->an (gK (arrOf st) (sa+na) 0) (gK (arrOf st) sa j)=true:=λj hj hj'=>by
  rw[g0,yZ (by lia)]
  exact t2 j hj hj' (show sa+j<(arrOf st).size by lia)
 by_cases c1:(na-k==0)=true
 ·rw[if_pos c1];have z:na-k=0:=GH c1;exact pU (h _ _ hp (λ_ _=>rfl) (upF_cat T ua ub λj hj=>r1 j (by lia)))
 rw[if_neg c1];have c1':na-k≠0:=λz=>c1 (by rw[z];rfl)
 refine pO (yz (show sa+k+(na-k)-1<(arrOf st).size by lia) ?_)
 refine pO (galL T hq (mem _ (UY _)) mem (by show sa+na+nb<=(arrOf st).size;lia) (by lia) hκ (Wj ub) λm hm u1 u2=>?_)
 dsimp only;have gl:(arrOf st)[sa+k+(na-k)-1]'(by lia)=gK (arrOf st) sa (na-1):=by
  rw[yZ (by lia)]
  congr 1
  lia
 have v1:∀j,j<m->an (gK (arrOf st) (sa+na) j) (gK (arrOf st) sa (na-1))=true:=λj hj=>by
  rw[yZ (by lia),←gl]
  exact u1 j hj (show sa+na+j<(arrOf st).size by lia)
 have v2:∀j,m<=j->j<nb->an (gK (arrOf st) (sa+na) j) (gK (arrOf st) sa (na-1))=false:=λj hj hj'=>by
  rw[yZ (by lia),←gl]
  exact u2 j hj hj' (show sa+na+j<(arrOf st).size by lia)
 by_cases c2:(m==0)=true
 ·exfalso
  have z:m=0:=GH c2;have x1:=v2 0 (by lia) n2
  rw[r2 (na-1) (by lia) (by lia)] at x1
  cases x1
 rw[if_neg c2];have c2':m≠0:=λz=>c2 (by rw[z];rfl)
 have s1:0<((arrOf st).extract (sa+k) (sa+na)).size:=by rw[BZ];lia
 have s2:0<((arrOf st).extract (sa+na) (sa+na+m)).size:=by rw[BZ];lia
 have z1:((arrOf st).extract (sa+k) (sa+na)).size=na-k:=by rw[BZ];lia
 have z2:((arrOf st).extract (sa+na) (sa+na+m)).size=m:=by rw[BZ];lia
 have inX:∀y,y∈((arrOf st).extract (sa+k) (sa+na)).toList->∃j,k<=j/\j<na/\y=gK (arrOf st) sa j:=λy hy=>by
  rw[y7] at hy;obtain⟨j,hj,ej⟩:=QB.mp hy;rw[pV,pg,pT] at hj;refine⟨k+j,by lia,by lia,?_⟩
  rw[←ej,Qv,Qi,QC,yZ (by lia)]
  congr 1
  lia
 have inY:∀y,y∈((arrOf st).extract (sa+na) (sa+na+m)).toList->∃j,j<m/\y=gK (arrOf st) (sa+na) j:=λy hy=>by
  rw[wd] at hy;obtain⟨j,hj,ej⟩:=QB.mp hy;rw[pV,pg,pT] at hj;exact⟨j,by lia,by rw[←ej,Qv,Qi,QC,yZ (by lia)]⟩
 have ux:UpL an ((arrOf st).extract (sa+k) (sa+na)).toList:=by
  have:UpF an (gK (arrOf st) (sa+k)) (na-k):=λa b hab hb=>by
   rw[←jh,←jh];exact ua _ _ (by lia) (by lia)
  rw[wL (by lia)] at this
  rw[y7,show sa+na-(sa+k)=na-k by lia]
  exact this
 have uy:UpL an ((arrOf st).extract (sa+na) (sa+na+m)).toList:=by
  have:UpF an (gK (arrOf st) (sa+na)) m:=λa b hab hb=>ub a b hab (by lia)
  rw[wL (by lia)] at this
  rw[wd];exact this
 have hz':∀y,y∈((arrOf st).extract (sa+k) (sa+na)).toList->an y ((arrOf st).extract (sa+na) (sa+na+m))[0]=false:=λy hy=>by
  obtain⟨j,hj,hj',ey⟩:=inX y hy;have e0:((arrOf st).extract (sa+na) (sa+na+m))[0]=gK (arrOf st) (sa+na) 0:=by rw[Ea,yZ (by lia)]
  rw[e0,ey];exact T.asymm (r2 j hj hj')
 have hl':∀y,y∈((arrOf st).extract (sa+na) (sa+na+m)).toList->an (((arrOf st).extract (sa+k) (sa+na))[((arrOf st).extract (sa+k) (sa+na)).size-1]'(by lia)) y=false:=λy hy=>by
  obtain⟨j,hj,ey⟩:=inY y hy;have e0:((arrOf st).extract (sa+k) (sa+na))[((arrOf st).extract (sa+k) (sa+na)).size-1]'(by lia)=gK (arrOf st) sa (na-1):=by
   rw[Ea,yZ (by lia)]
   congr 1
   lia
  rw[e0,ey];exact T.asymm (v1 j hj)
 have fin:∀(r:Array pW)(g:Nat),MgR an ((arrOf st).extract (sa+k) (sa+na)) ((arrOf st).extract (sa+na) (sa+na+m)) r->Q true (pSt st (r.toList.zipIdx.foldl (λa(x:pW×Nat)=>match x with|(p,j)=>a.setIfInBounds (sa+k+j) p) (arrOf st)) (((uE st).setIfInBounds i (sa,na+nb,p1)).eraseIdxIfInBounds (i+1)) g):=λr g hr=>by
  have ms:=mergedS T (by lia) (show k<na by lia) hm ua ub r1 n2 v2 hr.1 hr.2
  exact h _ g ((za6 (by lia) (show sa+na+m<=(arrOf st).size by lia) hr.1).trans hp) ms.2 ms.1
 by_cases c3:na-k<=m
 ·rw[if_pos c3];refine pO (loG T hq (λx hx=>mem x (qG hx)) (λx hx=>mem x (qG hx)) s1 s2 hκ (loIv T ux uy s1 s2 hz' hl') (Yw ux) (Yw uy) λr g hr=>?_);refine pO (Qk (pO (BU (pU ?_))));show Q (BG st).isNone _;rw[hf];exact fin r g hr
 ·rw[if_neg c3];refine pO (hiG T hq (λx hx=>mem x (qG hx)) (λx hx=>mem x (qG hx)) s1 s2 hκ (hiIv T ux uy s1 s2 hz' hl') (Yw ux) (Yw uy) λr g hr=>?_);refine pO (Qk (pO (BU (pU ?_))));show Q (BG st).isNone _;rw[hf];exact fin r g hr
end
theorem Cov.in_:∀{l:List (Nat×Nat×Nat)}{b e j a n p:Nat},Cov l b e->l[j]?=some (a,n,p)->b<=a/\a+n<=e
 |(x,m,q)::r,b,e,0,a,n,p,h,e1=>by
  cases e1;obtain⟨h1,h2,h3⟩:=h;have:=Cov.le h3;exact⟨by lia,by lia⟩
 |(x,m,q)::r,b,e,j+1,a,n,p,h,e1=>by
  obtain⟨h1,h2,h3⟩:=h;have:=Cov.in_ h3 (show r[j]?=some (a,n,p) by simpa using e1)
  exact⟨by lia,this.2⟩
 |[],b,e,j,a,n,p,h,e1=>by cases j<;>cases e1
theorem Cov.lt_:∀{l:List (Nat×Nat×Nat)}{b e i j a n p a' n' p':Nat},Cov l b e->l[i]?=some (a,n,p)->l[j]?=some (a',n',p')->i<j->a+n<=a'
 |(x,m,q)::r,b,e,0,j+1,a,n,p,a',n',p',h,e1,e2,hij=>by
  cases e1;obtain⟨h1,h2,h3⟩:=h;have:=Cov.in_ h3 (show r[j]?=some (a',n',p') by simpa using e2)
  lia
 |(x,m,q)::r,b,e,i+1,j+1,a,n,p,a',n',p',h,e1,e2,hij=>Cov.lt_ h.2.2 (show r[i]?=some (a,n,p) by simpa using e1) (show r[j]?=some (a',n',p') by simpa using e2) (by lia)
 |[],b,e,i,j,a,n,p,a',n',p',h,e1,e2,hij=>by cases i<;>cases e1
 |_::_,b,e,i,0,a,n,p,a',n',p',h,e1,e2,hij=>by lia
theorem Cov.len:∀{l:List (Nat×Nat×Nat)}{b e:Nat},Cov l b e->l.length+b<=e
 |[],b,e,h=>by
  have h:b=e:=h
  simp[h]
 |(x,m,q)::r,b,e,h=>by
  obtain⟨h1,h2,h3⟩:=h;have:=Cov.len h3;rw[uZ];lia
theorem zes{l:List α}{i:Nat}{x y:α}(h:y∈(l.set i x).eraseIdx (i+1)):y=x∨∃j,j≠i/\j≠i+1/\l[j]?=some y:=by
 obtain⟨j,hj⟩:=uY.mp h;rw[List.getElem?_eraseIdx] at hj
 by_cases c:j<i+1
 ·rw[if_pos c] at hj
  by_cases e:i=j
  ·subst e
   by_cases c2:i<l.length
   ·rw[Um c2] at hj;exact .inl (uN hj).symm
   ·rw[UJ (by rw[gv];lia)] at hj
    cases hj
  ·rw[hU e] at hj;exact .inr ⟨j,λz=>e z.symm,by lia,hj⟩
 ·rw[if_neg c,hU (by lia)] at hj
  exact .inr ⟨j+1,by lia,by lia,hj⟩
section
variable{prog:pi}{w:uR}{A:uQ}{E:pB->pC->Prop}{s:pC}{a₀:Array pW}{κ:UM}{an:pW->pW->Bool}
variable{xs:Array pW}
theorem Yq{ys:Array pW}{a n:Nat}(h:∀k,a<=k->k<a+n->xs[k]?=ys[k]?)(u:UpF an (gK ys a) n):UpF an (gK xs a) n:=λi j hij hj=>by
 have e:∀k,k<n->gK xs a k=gK ys a k:=λk hk=>by
  unfold gK;rw[pZ,pZ,h (a+k) (by lia) (by lia)]
 rw[e i (by lia),e j hj]
 exact u i j hij hj
def yK(an:pW->pW->Bool)(a₀:Array pW)(κ:UM)(lo:Nat)(st:QF):Prop:=SIv a₀ κ lo st/\∀a n p,(a,n,p)∈(uE st).toList->UpF an (gK (arrOf st) a) n
variable{lo:Nat}{st:QF}
theorem WM(T:WkT an)(hq:QR prog w A E s κ a₀ an){i:Nat}{Q:Bool->QF->Prop}(iv:yK an a₀ κ lo st)(hi:i+1<(uE st).size)(h:∀st',yK an a₀ κ lo st'->(uE st').size+1=(uE st).size->(∀k,lo<=k->(arrOf st')[k]?=(arrOf st)[k]?)->Q true st'):wpS (model prog w) A E s (mergeAt' i) Q st:=by
 obtain⟨⟨h1,h2,h3,h4,h5⟩,hr⟩:=iv;have e1:(uE st)[i]?=some (uE st)[i]:=uM (by lia)
 have e2:(uE st)[i+1]?=some (uE st)[i+1]:=uM hi;generalize (uE st)[i]=u1 at e1;generalize (uE st)[i+1]=u2 at e2;obtain⟨sa,na,p1⟩:=u1;obtain⟨sb,nb,p2⟩:=u2;have l1:(uE st).toList[i]?=some (sa,na,p1):=by rw[ui];exact e1
 have l2:(uE st).toList[i+1]?=some (sb,nb,p2):=by rw[ui];exact e2
 obtain⟨g1,g2,g3,g4,g5⟩:=h4.at l1 l2;subst g1;have ee:(((uE st).setIfInBounds i (sa,na+nb,p1)).eraseIdxIfInBounds (i+1)).toList=((uE st).toList.set i (sa,na+nb,p1)).eraseIdx (i+1):=by simp
 refine mergeG T hq h1 h2 h3 e1 e2 g2 g3 (by lia) (hr _ _ _ (pS l1)) (hr _ _ _ (pS l2)) λxs g px fo uo=>h _ ⟨⟨px,h2,h3,?_,h5⟩,λa n p hm=>?_⟩ ?_ λk hk=>fo k (.inr (by lia))
 ·show Cov (((uE st).setIfInBounds i (sa,na+nb,p1)).eraseIdxIfInBounds (i+1)).toList 0 lo
  rw[ee];exact g5
 ·have hm':(a,n,p)∈(((uE st).setIfInBounds i (sa,na+nb,p1)).eraseIdxIfInBounds (i+1)).toList:=hm;rw[ee] at hm';rcases zes hm' with z|⟨j,j1,j2,j3⟩
  ·cases z;exact uo
  ·refine Yq (λk k1 k2=>fo k ?_) (hr a n p (pS j3));rcases EI j i with z|z
   ·have:=Cov.lt_ h4 j3 l1 z;exact .inl (by lia)
   ·have:=Cov.lt_ h4 l2 j3 (by lia)
    exact .inr (by lia)
 ·show(((uE st).setIfInBounds i (sa,na+nb,p1)).eraseIdxIfInBounds (i+1)).size+1=_
  have:=congrArg AZ ee;rw[pT,List.length_eraseIdx,gv,pT,if_pos hi] at this;lia
def Yu{n:Nat}(iv:yK an a₀ κ lo st)(hn:0<n)(hz:lo+n<=a₀.size)(u:UpF an (gK (arrOf st) lo) n):yK an a₀ κ (lo+n) (FR st ((uE st).push (lo,n,0))):=by
 refine⟨push_iv iv.1 hn hz,λa m p hm=>?_⟩;have hm':(a,m,p)∈((uE st).push (lo,n,0)).toList:=hm;rw[DV] at hm';rcases pP.mp hm' with z|z
 ·exact iv.2 a m p z
 ·cases pN.mp z;exact u
theorem za4{j w:Nat}(iv:yK an a₀ κ lo st):yK an a₀ κ lo (FR st ((uE st).modify j λx=>(x.1,x.2.1,w))):=by
 refine⟨zac iv.1,λa m p hm=>?_⟩;have hm':(a,m,p)∈((uE st).modify j λx=>(x.1,x.2.1,w)).toList:=hm;rw[FB] at hm';obtain⟨k,hk⟩:=uY.mp hm';rw[List.getElem?_modify] at hk
 cases e:(uE st).toList[k]? with
 |none=>rw[e] at hk;cases hk
 |some y=>
  rw[e] at hk;obtain⟨y1,y2,y3⟩:=y
  by_cases c:j=k
  ·simp only[c,if_true,QQ,UL,FJ] at hk;obtain⟨rfl,rfl,_⟩:=hk;exact iv.2 _ _ _ (pS e)
  ·simp only[c,if_false,QQ,UL,FJ] at hk;have hk':(y1,y2,y3)=(a,m,p):=by simpa using hk
   cases hk';exact iv.2 _ _ _ (pS e)
theorem yK.arr(iv:yK an a₀ κ lo st)(px:xs.Perm a₀)(fx:FrL xs (arrOf st) lo):yK an a₀ κ lo (Qm st xs):=by
 refine⟨⟨px,iv.1.2.1,iv.1.2.2.1,iv.1.2.2.2.1,iv.1.2.2.2.2⟩,λa n p hm=>?_⟩;have hm':(a,n,p)∈(uE st).toList:=hm;obtain⟨j,hj⟩:=uY.mp hm';have:=Cov.in_ iv.1.2.2.2.1 hj;exact Yq (λk k1 k2=>fx k (by lia)) (iv.2 a n p hm')
theorem runsG(T:WkT an)(hq:QR prog w A E s κ a₀ an){Q:Unit->QF->Prop}(iv:yK an a₀ κ 0 st)(h:∀st',(arrOf st').Perm a₀->BG st'=none->UpL an (arrOf st').toList->Q () st'):wpS (model prog w) A E s sortRuns' Q st:=by
 have sz:(arrOf st).size=a₀.size:=iv.1.1.size_eq;rw[sortRuns'_eq];refine pO (BU ?_);dsimp only;rw[sz];refine pO (UW (QD (I:=λx(c:Option Unit×Nat) st'=>c.1=none/\yK an a₀ κ c.2 st'/\x<=c.2) (Q:=λc st'=>c.1=none/\yK an a₀ κ c.2 st'/\a₀.size<=c.2) ?_ (λc _ z=>⟨z.1,z.2.1,uK (GM _ _) z.2.2⟩) ⟨rfl,iv,uJ _⟩) ?_)
 ·rintro x ⟨r,lo⟩ st' _ hx ⟨e,iv,xl⟩;dsimp only at e iv xl⊢
  by_cases c1:lo≥a₀.size
  ·rw[if_pos c1];exact pU ⟨rfl,iv,c1⟩
  rw[if_neg c1];refine pO (countG T hq iv.1.1 (by lia) (by lia) iv.1.2.1 λm xs hm1 hm2 px fx ux=>?_)
  dsimp only;have iv1:yK an a₀ κ lo (Qm st' xs):=iv.arr px fx
  by_cases c2:m<minRun' a₀.size a₀.size 0
  ·rw[if_pos c2];generalize minRun' a₀.size a₀.size 0=mr at*;refine pO (DG (UI ⟨rfl,?_⟩));refine pO (binG T hq (st:=Qm st' xs) px (by lia) iv.1.2.1 ux λys py fy uy=>?_)
   rw[if_neg (by simp)]
   have iv2:yK an a₀ κ lo (Qm st' ys):=yK.arr (st:=Qm st' xs) iv1 py fy;refine pO (BU ?_)
   cases eb:(uE (Qm st' ys)).back? with
   |none=>
    dsimp only;exact pO (Qk (pU ⟨rfl,Yu iv2 (by lia) (by lia) uy,(by show x+1<=lo+_;lia)⟩))
   |some q=>
    obtain⟨s1,n1,p1⟩:=q;dsimp only;refine pO (UW (QD (I:=λ_(c:Option Unit×Unit) st2=>c.1=none/\yK an a₀ κ lo st2/\UpF an (gK (arrOf st2) lo) (min (a₀.size-lo) mr)) (Q:=λc st2=>c.1=none/\yK an a₀ κ lo st2/\UpF an (gK (arrOf st2) lo) (min (a₀.size-lo) mr)) ?_ (λ_ _ z=>z) ⟨rfl,iv2,uy⟩) ?_)
    ·rintro y ⟨r2,u⟩ st2 _ _ ⟨e2,iv2,uu⟩;dsimp only at e2 iv2 uu⊢;refine pO (BU ?_)
     by_cases c2:(uE st2).size>1
     ·rw[if_pos c2,uM (show(uE st2).size-2<(uE st2).size by lia)]
      generalize (uE st2)[(uE st2).size-2]=q3;obtain⟨q31,q32,q33⟩:=q3;dsimp only
      split
      ·exact pU ⟨rfl,iv2,uu⟩
      ·exact pO (WM T hq iv2 (by lia) λst3 iv3 _ fr3=>pU ⟨rfl,iv3,Yq (λk k1 _=>fr3 k k1) uu⟩)
     ·rw[if_neg c2];exact pU ⟨rfl,iv2,uu⟩
    ·rintro⟨r2,u⟩ st2 ⟨e2,iv2,uu⟩;dsimp only at e2 iv2 uu⊢;subst e2;exact pO (Qk (pO (Qk (pU ⟨rfl,Yu (za4 iv2) (by lia) (by lia) uu,(by show x+1<=lo+_;lia)⟩))))
  ·rw[if_neg c2];refine pO (BU ?_)
   cases eb:(uE (Qm st' xs)).back? with
   |none=>
    dsimp only;exact pO (Qk (pU ⟨rfl,Yu iv1 (by lia) (by lia) ux,(by show x+1<=lo+_;lia)⟩))
   |some q=>
    obtain⟨s1,n1,p1⟩:=q;dsimp only;refine pO (UW (QD (I:=λ_(c:Option Unit×Unit) st2=>c.1=none/\yK an a₀ κ lo st2/\UpF an (gK (arrOf st2) lo) (m)) (Q:=λc st2=>c.1=none/\yK an a₀ κ lo st2/\UpF an (gK (arrOf st2) lo) (m)) ?_ (λ_ _ z=>z) ⟨rfl,iv1,ux⟩) ?_)
    ·rintro y ⟨r2,u⟩ st2 _ _ ⟨e2,iv2,uu⟩;dsimp only at e2 iv2 uu⊢;refine pO (BU ?_)
     by_cases c2:(uE st2).size>1
     ·rw[if_pos c2,uM (show(uE st2).size-2<(uE st2).size by lia)]
      generalize (uE st2)[(uE st2).size-2]=q3;obtain⟨q31,q32,q33⟩:=q3;dsimp only
      split
      ·exact pU ⟨rfl,iv2,uu⟩
      ·exact pO (WM T hq iv2 (by lia) λst3 iv3 _ fr3=>pU ⟨rfl,iv3,Yq (λk k1 _=>fr3 k k1) uu⟩)
     ·rw[if_neg c2];exact pU ⟨rfl,iv2,uu⟩
    ·rintro⟨r2,u⟩ st2 ⟨e2,iv2,uu⟩;dsimp only at e2 iv2 uu⊢;subst e2;exact pO (Qk (pO (Qk (pU ⟨rfl,Yu (za4 iv2) (by lia) (by lia) uu,(by show x+1<=lo+_;lia)⟩))))
 ·rintro⟨r,lo⟩ st' ⟨e,iv,xl⟩;dsimp only at e iv xl⊢;subst e;dsimp only;have el:lo=a₀.size:=by have:=iv.1.2.2.2.2;lia
  have pl:(uE st').size<=a₀.size:=by
   have:=Cov.len iv.1.2.2.2.1;rw[pT] at this;lia
  refine pO (UW (QD (I:=λy(c:Option Unit×Unit) st2=>c.1=none/\yK an a₀ κ lo st2/\((uE st2).size<=1∨(uE st2).size+y<=a₀.size)) (Q:=λc st2=>c.1=none/\yK an a₀ κ lo st2/\(uE st2).size<=1) ?_ (λc _ z=>⟨z.1,z.2.1,z.2.2.elim id λz=>by have:=GM 0 a₀.size;lia⟩) ⟨rfl,iv,.inr pl⟩) ?_)
  ·rintro y ⟨r2,u⟩ st2 _ _ ⟨e2,iv2,ps⟩;dsimp only at e2 iv2 ps⊢;refine pO (BU ?_)
   by_cases c2:(uE st2).size<=1
   ·rw[if_pos c2];exact pU ⟨rfl,iv2,c2⟩
   ·rw[if_neg c2];exact pO (WM T hq iv2 (ite_lt (by lia) (by lia)) λst3 iv3 z3 _=>pU ⟨rfl,iv3,.inr (by lia)⟩)
  ·rintro⟨r2,u⟩ st2 ⟨e2,iv2,ps⟩;dsimp only at e2 iv2 ps⊢;subst e2;refine pU (h st2 iv2.1.1 iv2.1.2.2.1 ?_);have s2:(arrOf st2).size=a₀.size:=iv2.1.1.size_eq;have all:UpF an (gK (arrOf st2) 0) a₀.size:=by
    have cv:=iv2.1.2.2.2.1;have rr:=iv2.2;rw[el] at cv
    cases ep:(uE st2).toList with
    |nil=>
     rw[ep] at cv;have z:0=a₀.size:=cv;exact λi j hij hj=>by lia
    |cons q l=>
     obtain⟨qa,qn,qp⟩:=q;have hl:l=[]:=by
      have:=congrArg AZ ep;rw[pT,uZ] at this;exact List.length_eq_zero_iff.mp (by lia)
     subst hl;rw[ep] at cv;obtain⟨z1,z2,z3⟩:=cv;have z3':0+qn=a₀.size:=z3;have:=rr qa qn qp (by rw[ep];exact pN.mpr rfl)
     rw[z1,show qn=a₀.size by lia] at this
     exact this
   rw[wL (by lia),AS,pz (by rw[pT];lia)] at all
   exact all
end
open PySem.W (kla_fn kla_obj envX tabObj CodeHd KasT kas_sort kas_ask kas_item)
theorem zd2{β:Type}{g:α->β}:∀{l:List β}{m:List α},l.Perm (m.map g)->∃p:List α,p.Perm m/\l=p.map g:=by
 intro l m h;generalize e:m.map g=r at h
 induction h generalizing m with
 |nil=>
  cases m with
  |nil=>exact⟨[],.refl _,rfl⟩
  |cons x xs=>cases e
 |@cons x l1 l2 _ ih=>
  cases m with
  |nil=>cases e
  |cons y ys=>
   rw[pj] at e
   cases e;obtain⟨p,h1,h2⟩:=ih rfl;exact⟨y::p,h1.cons y,by rw[h2,pj]⟩
 |swap x y l=>
  cases m with
  |nil=>cases e
  |cons a as=>
   cases as with
   |nil=>cases e
   |cons b bs=>
    rw[pj,pj] at e
    cases e;exact⟨b::a::bs,.swap a b bs,rfl⟩
 |trans _ _ i1 i2=>
  obtain⟨p2,h1,h2⟩:=i2 e;obtain⟨p1,h3,h4⟩:=i1 h2.symm;exact⟨p1,h3.trans h1,h4⟩
section
variable{prog:pi}{w:uR}{A:uQ}{E:pB->pC->Prop}{s:pC}{vs ks:List pB}{g:Heap}{a kS:Addr}{e e1:Nat}{f:pB}
def za3(prog:pi)(w:uR)(A:uQ)(a kS:Addr)(e1:Nat)(vs ks:List pB)(P:gJ->pC->Prop)(s:pC):Prop:=
 s.heap.get? a=some (uC "list" #[] e1)/\∃(κ:UM)(ans:Nat->Nat->Bool),Wk ans/\(∀i j,i<ks.length->j<ks.length->ks[i]?=ks[j]?->∀k,ans i k=ans j k/\ans k i=ans k j)/\
  (2<=vs.length->∀Q':UM->pC->Prop,Q' κ s->wpAny (model prog w) A (Fh ks.toArray) Q' (λ_ _=>False) s)/\
  (2<=vs.length->∀i j,i<ks.length->j<ks.length->∀C,C (ans i j) s->wpAny (model prog w) A (keyLt' κ (ks.getD i .none) (ks.getD j .none)) C (λ_ _=>False) s)/\
  ∀p:List Nat,p.Perm (Qd vs.length)->p.Pairwise (λi j=>ans j i=false)->P (.done (.ret .none)) {s with heap:=(s.heap.update kS (uB λ_=>(#[]:Array pB))).update a (uB λ_=>(p.map λi=>vs.getD i .none).toArray)}
open Classical in
noncomputable def xo(ks:List pB)(u:pB):Nat:=if h:∃i,i<ks.length/\ks[i]?=some u then Classical.choose h else 0
def Yj{ks:List pB}{i:Nat}{u:pB}(h:ks[i]?=some u):xo ks u<ks.length/\ks[xo ks u]?=some u:=by
 have ex:∃i,i<ks.length/\ks[i]?=some u:=⟨i,(pD.mp h).1,h⟩;unfold xo;rw[dif_pos ex];exact Classical.choose_spec ex
def qr_ofK{κ:UM}{ans:Nat->Nat->Bool}(hc:∀i j,i<ks.length->j<ks.length->∀C,C (ans i j) s->wpAny (model prog w) A (keyLt' κ (ks.getD i .none) (ks.getD j .none)) C (λ_ _=>False) s):QR prog w A E s κ (ks.toArray.zip vs.toArray) (λx y=>ans (xo ks x.1) (xo ks y.1)):=by
 intro x y st Q hx hy hκ h;rw[lt'_eq];refine pO (BU ?_);rw[hκ];obtain⟨i,hi⟩:=uY.mp (W5 hx);obtain⟨j,hj⟩:=uY.mp (W5 hy);obtain⟨i1,i2⟩:=Yj hi;obtain⟨j1,j2⟩:=Yj hj;have z:=hc _ _ i1 j1 (λb s'=>b=ans (xo ks x.1) (xo ks y.1)/\s'=s) ⟨rfl,rfl⟩;rw[pE,pE,i2,j2] at z;refine pO (DG (Am (Qe z (λb s' e=>?_) λ_ _ z=>z.elim)));obtain⟨e1,e2⟩:=e;subst e1 e2;exact⟨rfl,pU h⟩
theorem zcn{P:gJ->pC->Prop}(hl:ks.length=vs.length)(zl:vs.length<=sizeLine)(nak:a≠kS)(hk:s.heap.get? kS=some (uC "list" ks.toArray e))(h:za3 prog w A a kS e1 vs ks P s):
  wpAny (model prog w) A (Hc a false vs.toArray e1 (.ref kS) ks.toArray) P E s:=by
 obtain⟨ha,κ,ans,wk,cons,hkind,hask,q⟩:=h;have z0:vs.toArray.size=vs.length:=rfl;have zz:(ks.toArray.zip vs.toArray).toList=(Qd vs.length).map λi=>(ks.getD i .none,vs.getD i .none):=by
  rw[GJ];refine Aq λi=>?_;rw[pQ]
  by_cases c:i<vs.length
  ·rw[Ci c,pG (by simp[hl,c])]
   simp[List.getElem_zip,pE,c,hl]
  ·rw[UJ (by simp;lia),UJ (by simp;lia)]
   rfl
 have tk:WkT (λx y:pW=>ans (xo ks x.1) (xo ks y.1)):=⟨λ_=>wk.irr _,λ_ _ _ h1 h2=>wk.tr _ _ _ h1 h2,λ_ _ _ h1 h2=>wk.cut _ _ _ h1 h2⟩;have fin:∀st:QF,(arrOf st).Perm (ks.toArray.zip vs.toArray)->UpL (λx y:pW=>ans (xo ks x.1) (xo ks y.1)) (arrOf st).toList->∃p:List Nat,p.Perm (Qd vs.length)/\p.Pairwise (λi j=>ans j i=false)/\(arrOf st).map (·.2)=(p.map λi=>vs.getD i .none).toArray:=λst hp hu=>by
  have h1:=Cz.mp hp;rw[zz] at h1;obtain⟨p,p1,p2⟩:=zd2 h1;refine⟨p,p1,?_,?_⟩
  ·rw[p2] at hu;have hu':=gM.mp hu;refine AM (λ{i j} hi hj z=>?_) hu';have bi:i<ks.length:=by rw[hl];exact Qr.mp (p1.mem_iff.mp hi)
   have bj:j<ks.length:=by rw[hl];exact Qr.mp (p1.mem_iff.mp hj)
   have gi:ks[i]?=some (ks.getD i .none):=by rw[pE,pG bi];rfl
   have gj:ks[j]?=some (ks.getD j .none):=by rw[pE,pG bj];rfl
   obtain⟨k1,k2⟩:=Yj gi;obtain⟨l1,l2⟩:=Yj gj;have c1:=(cons _ _ l1 bj (l2.trans gj.symm) (xo ks (ks.getD i .none))).1;have c2:=(cons _ _ k1 bi (k2.trans gi.symm) j).2;rw[←c2,←c1];exact z
  ·apply CK.mp
   rw[Array.toList_map,p2,UD];rfl
 unfold Hc;dsimp only;simp only[uI,if_false]
 by_cases h2:vs.length<2
 ·rw[z0,if_pos h2,if_pos h2,HX];rw[Ga];refine pA (pK ?_);obtain⟨p,p1,p2,p3⟩:=fin (FQ general' (ks.toArray.zip vs.toArray) #[] 7 none) (Gh _) (by
   show UpL _ (ks.toArray.zip vs.toArray).toList
   have ll:(ks.toArray.zip vs.toArray).toList.length<2:=by rw[zz,pL,QM];exact h2
   generalize (ks.toArray.zip vs.toArray).toList=l at ll
   cases l with
   |nil=>exact .nil
   |cons x l=>cases l with
    |nil=>exact Ui _ _
    |cons y l=>exact absurd ll (by simp only[uZ];lia))
  exact Z5 (ys:=p.map λi=>vs.getD i .none) p3 rfl (by rw[pL,p1.length_eq,QM]) zl (by lia) nak hk ha (q p p1 p2)
 ·have h2':2<=vs.length:=by lia
  rw[z0,if_neg h2,if_neg h2];refine pA (Qe (hkind h2' (λκ' s'=>κ'=κ/\s'=s) ⟨rfl,rfl⟩) (λκ' s' hs=>?_) λ_ _ z=>z.elim);obtain⟨rfl,rfl⟩:=hs;have run:=runsG (E:=E) tk (qr_ofK (vs:=vs) (hask h2')) (st:=FQ κ' (ks.toArray.zip vs.toArray) #[] 7 none) (Q:=λ_ st'=>(arrOf st').Perm (ks.toArray.zip vs.toArray)/\BG st'=none/\UpL (λx y:pW=>ans (xo ks x.1) (xo ks y.1)) (arrOf st').toList) ⟨⟨Gh _,rfl,rfl,rfl,uJ _⟩,λa n p hm=>by cases hm⟩ λst' x y z=>⟨x,y,z⟩
  refine pA (Qe run ?_ λ_ _ e=>e);rintro⟨⟨⟩,st⟩ s'' ⟨rfl,hp,hf,hu⟩;dsimp only at hp hf hu⊢;obtain⟨p,p1,p2,p3⟩:=fin st hp hu;exact Z5 (ys:=p.map λi=>vs.getD i .none) p3 hf (by rw[pL,p1.length_eq,QM]) zl (by lia) nak hk ha (q p p1 p2)
structure Yx(prog:pi)(w:uR)(A:uQ)(a kS:Addr)(e1:Nat)(f:pB)(vs:List pB)(P:gJ->pC->Prop)(J:Nat->List pB->Nat->pC->Prop):Prop where
 store:∀i ks e s,J i ks e s->s.heap.get? kS=some (uC "list" ks.toArray e)/\ks.length=i
 turn:∀i x ks e s,vs[i]?=some x->J i ks e s->wpAny (model prog w) A (call f [x]) (λk s'=>s'.heap.get? kS=some (uC "list" ks.toArray e)/\
  ∀c,(s'.heap.update kS (uB (·.push k))).get? kS=some (uC "list" (ks++[k]).toArray c)->J (i+1) (ks++[k]) c {s' with heap:=s'.heap.update kS (uB (·.push k))}) (λ_ _=>False) s
 fin:∀ks e s,J vs.length ks e s->za3 prog w A a kS e1 vs ks P s
theorem Zm{P:gJ->pC->Prop}{J:Nat->List pB->Nat->pC->Prop}{body:pB->PUnit->Sem (ForInStep PUnit)}(R:Yx prog w A a kS e1 f vs P J)
  (hb:∀i x ks e(s:pC),vs[i]?=some x->J i ks e s->wpAny (model prog w) A (body x ⟨⟩) (λr s'=>r=.yield ⟨⟩/\∃k c,J (i+1) (ks++[k]) c s') E s):
  ∀(r:List pB)(i:Nat)(ks:List pB)(e:Nat)(s:pC),i<=vs.length->vs.drop i=r->J i ks e s->wpAny (model prog w) A (forIn r Hx body) (λ_ s'=>∃ks e,J vs.length ks e s') E s
 |[],i,ks,e,s,hi,hr,h=>by
  rw[Cy];have e0:i=vs.length:=EQ hi (CT.mp hr);subst e0;exact pK ⟨ks,e,h⟩
 |x::r,i,ks,e,s,hi,hr,h=>by
  rw[BO];have hx:vs[i]?=some x:=by
   have z:=congrArg (λl=>l[0]?) hr
   simpa[Uv] using z
  have hr2:vs.drop (i+1)=r:=by
   have z:=congrArg (List.drop 1) hr
   simpa[gE,EE] using z
  refine pA (Qe (hb i x ks e s hx h) (λq s' hq=>?_) λ_ _ z=>z);obtain⟨rfl,k,c,h2⟩:=hq;exact Zm R hb r (i+1) (ks++[k]) c s' (pD.mp hx).1 hr2 h2
variable{P:gJ->pC->Prop}
theorem zah{J:Nat->List pB->Nat->pC->Prop}(R:Yx prog w A a kS e1 f vs P J)(zl:vs.length<=sizeLine)(nak:a≠kS)(h0:J 0 [] 0 s):
  wpAny (model prog w) A (Gz a f false vs.toArray e1 (.ref kS)) P E s:=by
 unfold Gz;refine pA (UI ?_);rw[FN];refine pA (Qe (Zm R (λi x ks e s' hx hJ=>?_) vs 0 [] 0 s (uJ _) AS h0) (λ_ s' hd=>?_) λ_ _ z=>z)
 ·have hi:=(pD.mp hx).1;have hl:=(R.store i ks e s' hJ).2;refine pA (Am (Qe (R.turn i x ks e s' hx hJ) (λk s'' hk=>?_) λ_ _ hF=>hF.elim));obtain⟨hk1,hk2⟩:=hk;have pk:(UC ks).push k=UC (ks++[k]):=by rw[Fi]
  obtain⟨c2,hc2⟩:∃c2,(s''.heap.update kS (uB (·.push k))).get? kS=some (uC "list" (UC (ks++[k])) c2):=⟨_,by rw[←pk];exact gP hk1 (·.push k)⟩
  try dsimp only
  refine pA (AJ hk1 rfl ?_ (by rw[pe];lia) (uK (Up (Gb ..)) (by rw[pe];lia)))
  exact pK ⟨rfl,k,c2,hk2 c2 hc2⟩
 ·obtain⟨ks,e,hJ⟩:=hd;obtain⟨hk,hl⟩:=R.store _ _ _ _ hJ
  try dsimp only
  refine pA (US hk rfl ?_);exact zcn hl zl nak hk (R.fin ks e s' hJ)
def zep{n:Nat}(hg:yN g s.heap)(ga:g.objs.size<=a)(ho:s.heap.get? a=some (uC "list" vs.toArray n))(zl:vs.length<=sizeLine)
  (h:∀kS e1 h',yN g h'->a<kS->h'.get? a=some (uC "list" #[] e1)->h'.get? kS=some (uC "list" #[] 0)->∃J,Yx prog w A a kS e1 f vs P J/\J 0 [] 0 {s with heap:=h'}):
  wpAny (model prog w) A (HI a f false) P E s:=by
 have k1:yN g (s.heap.update a (uB λ_=>(#[]:Array pB))):=hg.upd ga;obtain⟨c1,o1⟩:∃c1,(s.heap.update a (uB λ_=>(#[]:Array pB))).get? a=some (uC "list" #[] c1):=⟨_,gP ho _⟩;have k3:=(k1.push (uC "tuple" vs.toArray 0)).push (uC "list" #[] 0);have o3:=pH (uC "list" #[] 0) (pH (uC "tuple" vs.toArray 0) o1);have lt:a<((s.heap.update a (uB λ_=>(#[]:Array pB))).push (uC "tuple" vs.toArray 0)).objs.size:=pb (pH _ o1);obtain⟨J,R,h0⟩:=h _ c1 _ k3 lt o3 (pd _ rfl);unfold HI;refine pA (US ho rfl (pA (AJ ho rfl (pA (El o1 rfl (pA (Eh (pA (BI (UR ?_) (uJ _))) zl)))) zl (uJ _))));exact zah (s:={s with heap:=((s.heap.update a (uB λ_=>(#[]:Array pB))).push (uC "tuple" vs.toArray 0)).push (uC "list" #[] 0)}) R zl (uF lt) h0
def zab{l:Addr}{Q:pB->pC->Prop}(hl:s.heap.IsList l vs.toArray)(zl:vs.length<=sizeLine)
  (h:∀D kS e1 h',D=s.heap.objs.size+1->yN s.heap h'->D<kS->h'.get? D=some (uC "list" #[] e1)->h'.get? kS=some (uC "list" #[] 0)->∃J,Yx prog w A.in1.in1 D kS e1 (.ref fa) vs (λr s'=>r=.done (.ret .none)->Q (.ref D) s') J/\J 0 [] 0 {s with heap:=h'}):
  wpAny (model prog w) A (call (.builtin "sorted") [.ref l] [(uT "key",.ref fa)]) Q E s:=by
 have k0:yN s.heap s.heap:=λ_ _ e=>e;have k2:=((k0.push (uC "list" #[] 0)).upd (a:=s.heap.objs.size) (f:=uB (·++vs.toArray)) (pJ _)).push (uC "list" vs.toArray 0);have z2:((s.heap.push (uC "list" #[] 0)).update s.heap.objs.size (uB (·++vs.toArray))).objs.size=s.heap.objs.size+1:=by
  rw[GK,size_push']
 have o2:(((s.heap.push (uC "list" #[] 0)).update s.heap.objs.size (uB (·++vs.toArray))).push (uC "list" vs.toArray 0)).get? (s.heap.objs.size+1)=some (uC "list" vs.toArray 0):=
  z2▸pd _ rfl
 refine EK kind_sorted plain_sorted entry_sorted (ksk_s1 _ _) ?_;unfold Av.«sorted»;refine pA (m:=checkCount _ _ _ _) (pK (pA (collect_list hl (pA (BI ?_ zl)) zl)));rw[show(({s with heap:=(s.heap.push (uC "list" #[] 0)).update s.heap.objs.size (uB (·++vs.toArray))}:pC).heap.objs.size)=s.heap.objs.size+1 from z2];refine pA (UR (FC slot_list_sort ⟨_,o2,rfl⟩ Gd ?body (ksk_l1 _ _)))
 case body=>
  show wpAny (model prog w) A.in1.in1 (Av.«list.sort» ⟨[.ref (s.heap.objs.size+1)],[(uT "key",.ref fa)]⟩) _ _ _
  rw[ksk_t1];refine Qe (zep (s:={s with heap:=((s.heap.push (uC "list" #[] 0)).update s.heap.objs.size (uB (·++vs.toArray))).push (uC "list" vs.toArray 0)}) (P:=λr s'=>r=.done (.ret .none)/\(r=.done (.ret .none)->Q (.ref (s.heap.objs.size+1)) s')) k2 (gS _) o2 zl λkS e1 h' kk lt ha hk=>?_) (λr s' hq=>?_) λ_ _ z=>z
  ·obtain⟨J,R,h0⟩:=h _ kS e1 h' rfl kk lt ha hk;refine⟨J,⟨R.store,R.turn,λks e s' hJ=>?_⟩,h0⟩;obtain⟨f1,κ,ans,f0,f5,f2,f3,f4⟩:=R.fin ks e s' hJ;exact⟨f1,κ,ans,f0,f5,f2,f3,λp p1 p2=>⟨rfl,f4 p p1 p2⟩⟩
  ·obtain⟨rfl,hq⟩:=hq;exact⟨_,rfl,pK ⟨_,rfl,hq rfl⟩⟩
end
open PySem.W (kla_fn kla_obj envX tabObj CodeHd KasT kas_sort kas_ask kas_item)
structure qM(KP:KPT):Prop where
 wk:∀{H zs ans},KP H zs ans->Wk ans
 cons:∀{H zs ans},KP H zs ans->∀i j,i<zs.length->j<zs.length->zs[i]?=zs[j]?->∀k,ans i k=ans j k/\ans k i=ans k j
structure KeyRS(KP:KPT)(te:TE)(vy:V)(c':Addr)(q:Str)(vs:List V)(H:Hp)(Q:VK)(Pv:Nat->List V->Hp->Prop):Prop where
 start:Pv 0 [] H
 code:∀i zs H',Pv i zs H'->H' c'=some (xB c' q)
 len:∀i zs H',Pv i zs H'->zs.length=i
 turn:∀i zs H' v,vs[i]?=some v->Pv i zs H'->te [some v,some vy] H' λk H''=>Pv (i+1) (zs++[k]) H''
 fin:∀zs H',Pv vs.length zs H'->∃ans,KP H' zs ans/\∀D(p:List Nat),H' D=none->p.Perm (Qd vs.length)->p.Pairwise (λi j=>ans j i=false)->Q (.ref D) (upd H' D (.lst (p.map λi=>vs.getD i .non)))
theorem VO{vs:List V}{us:List pB}(r:zn vs us):∀{p:List Nat},(∀i,i∈p->i<vs.length)->zn (p.map λi=>vs.getD i .non) (p.map λi=>us.getD i .none)
 |[],_=>.nil
 |i::p,h=>by
  have hi:=h i pX;obtain⟨u,hu,ru⟩:=r.get (pG hi);refine .cons ?_ (VO r λj hj=>h j (pY _ hj));show zm (vs.getD i .non) (us.getD i .none);rw[pE,pG hi,pE,hu];exact ru
section
variable{X:Cx}{pins:List (Addr×Obj)}{σ:St}{H:Hp}{s:pC}
theorem zdl{KP:KPT}{k i0:Nat}{x y ql:Str}{params:Be}{body:Expr}{sc:Scope}{c c' l:Addr}{pm:pB}{vy:V}{vs:List V}{te:TE}{Q:VK}{Pv:Nat->List V->Hp->Prop}(I:Inv X pins σ H s)(hKP:vm X KP)(hG:qM KP)(hr:zX (k+2) X.A)(S:qH x y sc)
  (hN:X.N[i0]?=some y)(hσ:σ[i0]?=some (some vy))(hk:X.env.scope.names.lookup y=some .cell)(hcl:X.env.cells.lookup y=some c)(hfa:yY X pins H fa)(hfo:s.heap.get? fa=some (kla_obj "<lambda>" ql params body sc [(y,c)] pm c' ctv))
  (hbind:∀u,AF (kla_fn "<lambda>" ql params body sc [(y,c)] pm (.ref c') ctv) ⟨[u],[]⟩=pure [(x,u)])(hbody:∀(A:uQ)(s:pC)(H:Hp),A.units+64<cLine->PE (jX X.prog X.w X.K X.mg X.base x y ql sc fa (.ref c') c A X.stack s H) body te)
  (hl:H l=some (.lst vs))(zl':vs.length<=sizeLine)(R:KeyRS KP te vy c' ql vs H Q Pv):wpAny (model X.prog X.w) X.A (call (.builtin "sorted") [.ref l] [(uT "key",.ref fa)]) (EP X pins σ Q) X.xe s:=by
 obtain⟨its,rv,pl,hz⟩:=I.list (.of hl);have len:vs.length=its.length:=rv.length;have un:=hr.un;refine zab (vs:=its) pl.isList (by lia) λD kS e1 h' eD kk lt hD hkS=>?_
 have sD:s.heap.objs.size<=D:=by lia
 have sK:s.heap.objs.size<=kS:=by lia
 have fD:=I.fpOk sD (I.hok.fresh sD);have fK:=I.fpOk sK (I.hok.fresh sK);have faD:fa≠D:=uF (po (pb hfo) sD);have faK:fa≠kS:=uF (po (pb hfo) sK);have DK:D≠kS:=uF lt;have nseq:∀(b:Array pB)(m:Nat)(v:Option pB),(uC "list" b m).data≠.cell v:=λb m v z=>nomatch (show Ho b m=Dj v from z);have nfun:∀v,(kla_obj "<lambda>" ql params body sc [(y,c)] pm c' ctv).data≠.cell v:=λv z=>nomatch (show Data.func _=Dj v from z);have pin3:∀{ks:List pB}{e:Nat}{H':Hp}{s':pC},Inv X pins σ H' s'->H' fa=none->H' D=none->H' kS=none->s'.heap.get? fa=some (kla_obj "<lambda>" ql params body sc [(y,c)] pm c' ctv)->s'.heap.get? D=some (uC "list" #[] e1)->s'.heap.get? kS=some (uC "list" ks.toArray e)->
   Inv X (pins++[(fa,kla_obj "<lambda>" ql params body sc [(y,c)] pm c' ctv),(D,uC "list" #[] e1),(kS,uC "list" ks.toArray e)]) σ H' s':=λ{ks e H' s'} J n1 n2 n3 o1 o2 o3=>by
  refine J.pins_of λp hp=>?_;rcases pP.mp hp with hp|hp
  ·exact J.pin p (pI _ hp)
  ·simp only[pR,QJ,or_false] at hp;rcases hp with rfl|rfl|rfl
   ·exact⟨o1,n1,hfa.2.1,hfa.2.2.1,nfun⟩
   ·exact⟨o2,n2,fD.2.1,fD.2.2.1,nseq _ _⟩
   ·exact⟨o3,n3,fK.2.1,fK.2.2.1,nseq _ _⟩
 have of3:∀{ks:List pB}{e:Nat}{H':Hp}{s':pC},Inv X (pins++[(fa,kla_obj "<lambda>" ql params body sc [(y,c)] pm c' ctv),(D,uC "list" #[] e1),(kS,uC "list" ks.toArray e)]) σ H' s'->
   Inv X pins σ H' s'/\(H' fa=none/\H' D=none/\H' kS=none)/\s'.heap.get? fa=some (kla_obj "<lambda>" ql params body sc [(y,c)] pm c' ctv)/\s'.heap.get? D=some (uC "list" #[] e1)/\s'.heap.get? kS=some (uC "list" ks.toArray e):=λ{ks e H' s'} J=>by
  have p1:=J.pin (fa,kla_obj "<lambda>" ql params body sc [(y,c)] pm c' ctv) (pI _ (pI _ (by simp)))
  have p2:=J.pin (D,uC "list" #[] e1) (pI _ (pI _ (by simp)))
  have p3:=J.pin (kS,uC "list" ks.toArray e) (pI _ (pI _ (by simp)))
  exact⟨J.unpinned,⟨p1.2.1,p2.2.1,p3.2.1⟩,p1.1,p2.1,p3.1⟩
 refine⟨λi ks e s'=>∃H' zs,Inv X (pins++[(fa,kla_obj "<lambda>" ql params body sc [(y,c)] pm c' ctv),(D,uC "list" #[] e1),(kS,uC "list" ks.toArray e)]) σ H' s'/\zn zs ks/\Pv i zs H',⟨λi ks e s' hJ=>?_,λi u ks e s' hu hJ=>?_,λks e s' hJ=>?_⟩,H,[],?_,.nil,R.start⟩
 ·obtain⟨H',zs,J,r,p⟩:=hJ;exact⟨(of3 J).2.2.2.2,by rw[←r.length];exact R.len _ _ _ p⟩
 ·obtain⟨H',zs,J,r,p⟩:=hJ;obtain⟨J0,⟨n1,n2,n3⟩,o1,o2,o3⟩:=of3 J;obtain⟨v,hv,ru⟩:=vals_get? rv hu;obtain⟨uy,ry,hcell⟩:=V6 J hN hσ hk hcl;have hcd:s'.heap.CodeRec (.ref c') ql:=(J.hok c' _ (R.code _ _ _ p)).1;refine Qe (lam_run J J.env0.in1.in1 (hr.in1.in1) S o1 hcd (hbind u) ru ry hcell (J.freeC _ _ hcl) (hbody _ s' H' (by show X.A.units+1+1+64<cLine;lia)) (R.turn i zs H' v hv p)) (λu' s'' hs=>?_) λ_ _ z=>z
  obtain⟨kv,H'',J',rk,p'⟩:=hs;obtain⟨J1,⟨m1,m2,m3⟩,q1,q2,q3⟩:=of3 J';refine⟨q3,λc2 hc2=>⟨H'',zs++[kv],?_,YA r rk,p'⟩⟩;have J2:Inv X pins σ H'' {s'' with heap:=s''.heap.update kS (uB (·.push u')),toks:=s''.toks}:=J1.turned (it:=kS) (λb o hb e=>by rw[uv _ _ _ _ hb];exact e) m3 fK.2.1 fK.2.2.2.1 fK.2.2.2.2.1 fK.2.2.2.2.2
  exact pin3 J2 m1 m2 m3 (by show(s''.heap.update kS _).get? fa=_;rw[uv _ _ _ _ faK];exact q1) (by show(s''.heap.update kS _).get? D=_;rw[uv _ _ _ _ DK];exact q2) hc2
 ·obtain⟨H',zs,J,r,p⟩:=hJ;obtain⟨J0,⟨n1,n2,n3⟩,o1,o2,o3⟩:=of3 J;rw[←len] at p;obtain⟨ans,ok,q⟩:=R.fin zs H' p;have zl:=R.len _ _ _ p;have kl:ks.length=its.length:=by rw[←r.length,zl,len]
  obtain⟨κ,k1,k2⟩:=hKP _ _ _ _ _ _ _ J0 r ok;rw[kl] at k1 k2;have zk:zs.length=ks.length:=r.length;have kv:∀{i:Nat},i<ks.length->∃v u,zs[i]?=some v/\ks[i]?=some u/\zm v u:=λ{i} hi=>by
   obtain⟨u,hu,ru⟩:=r.get (pG (show i<zs.length by lia))
   exact⟨_,u,pG (by lia),hu,ru⟩
  refine⟨o2,κ,ans,hG.wk ok,λi j hi hj e=>hG.cons ok i j (by lia) (by lia) ?_,k1,λh2 i j hi hj C hC=>?_,λp p1 p2 _=>?_⟩
  ·obtain⟨v,u,a1,a2,a3⟩:=kv hi;obtain⟨v',u',b1,b2,b3⟩:=kv hj;rw[a2,b2] at e
   cases e;rw[a1,b1,zm.inj a3 b3]
  ·exact k2 h2 i j C (by lia) (by lia) hC
  ·have J2:Inv X pins σ H' {s' with heap:=s'.heap.update kS (uB λ_=>(#[]:Array pB)),toks:=s'.toks}:=J0.turned (it:=kS) (λb o hb e=>by rw[uv _ _ _ _ hb];exact e) n3 fK.2.1 fK.2.2.2.1 fK.2.2.2.2.1 fK.2.2.2.2.2
   have o4:(s'.heap.update kS (uB λ_=>(#[]:Array pB))).get? D=some (uC "list" #[] e1):=by rw[uv _ _ _ _ DK];exact o2
   rw[←len] at p1;have rp:=VO rv (p:=p) λi hi=>Qr.mp (p1.mem_iff.mp hi);obtain⟨c5,o5⟩:∃c5,((s'.heap.update kS (uB λ_=>(#[]:Array pB))).update D (uB λ_=>(p.map λi=>its.getD i .none).toArray)).get? D=some (uC "list" (p.map λi=>its.getD i .none).toArray c5):=⟨_,gP o4 _⟩;exact⟨.ref D,upd H' D (.lst (p.map λi=>vs.getD i .non)),J2.track (t':=s'.toks) ⟨n2,fD.2⟩ (λb o hb e=>by rw[uv _ _ _ _ hb];exact e) (by rw[pL,p1.length_eq,QM];exact zl') rp o5,rfl,q D p n2 p1 p2⟩
 ·have J0:Inv X pins σ H {s with heap:=h',toks:=s.toks}:=I.kept kk;exact pin3 J0 hfa.1 (I.hok.fresh sD) (I.hok.fresh sK) (kk _ _ hfo) hD hkS
end
section
variable{X:Cx}{p pos lpos kpos:Pos}{e body:Expr}{params:Be}{sc:Scope}{x y:Str}{c c0 P:Addr}{i0 k:Nat}{te tl:TE}
def YV(KP:KPT)(P:Addr)(lpos:Pos)(ql:Str)(i0:Nat)(te tl:TE):TE:=λσ H Q=>yy tl xx σ H λxs H1=>∃l vs vy,xs=[.ref l]/\H1 l=some (.lst vs)/\vs.length<=sizeLine/\σ[i0]?=some (some vy)/\zE H1 P lpos ql/\
 ∀c' H2,ym P H1 H2->zE H2 P lpos ql->H2 c'=some (xB c' ql)->∃Pv,KeyRS KP te vy c' ql vs H2 Q Pv
def ZO{KP:KPT}(hKP:vm X KP)(hG:qM KP)(hr:zX (k+2) X.A)(hg:Gl X "sorted")(hm:X.mg "sorted"=none)(ha:PA X [e] (yy tl xx))(S:qH x y sc)(hN:X.N[i0]?=some y)(hk:X.env.scope.names.lookup y=some .cell)(hcl:X.env.cells.lookup y=some c)
  (hclos:ED sc X.env=pure [(y,c)])(hdef:Gx params X.env=([],[]))(hcode:X.env.code=.ref c0)(C:CodeHd X.base c0 P)(hB:X.base.BuiltinsAt X.mg P)
  (hbind:∀(pm cd ctv u:pB),AF (kla_fn "<lambda>" (X.env.qual++"<lambda>") params body sc [(y,c)] pm cd ctv) ⟨[u],[]⟩=pure [(x,u)])
  (hbody:∀(fa c':Addr)(A:uQ)(s:pC)(H:Hp),A.units+64<cLine->PE (jX X.prog X.w X.K X.mg X.base x y (X.env.qual++"<lambda>") sc fa (.ref c') c A X.stack s H) body te)
  (he:Ad pos (ur [e] X.env)=(false,eval e X.env)::Ad pos (ur [] X.env):=by rfl)(hpl:(Ad pos (ur [e] X.env)).any (·.1)=false:=by rfl):
  PE X (.Call (.Name "sorted" p) [e] [⟨some "key",.Lambda params body sc lpos,kpos⟩] pos) (YV KP P lpos (X.env.qual++"<lambda>") i0 te tl):=by
 intro pins s σ H Q I h;refine gX (xG I hg hm YH ?_);refine GV (thn (ha pos pins s σ H _ I h) λus s1⟨vs',H1,I1,r1,q1⟩=>?_) he hpl rfl rfl;obtain⟨l,vs,vy,ev,hl,h64,hσ,ht,q⟩:=q1;subst ev;obtain⟨u,rfl,ru⟩:=vals1 r1
 cases ru;refine kws_cons (V7 (C:=C) I1 hcode hB hclos hdef ht λfa c' ctv H2 s2 I2 st lt hfo hc' ffa=>kws_nil ?_);obtain⟨Pv,R⟩:=q c' H2 st lt hc';have nl:l≠P:=λz=>by
  obtain⟨ps,hP,_⟩:=ht;rw[z,hP] at hl
  cases hl
 exact zdl I2 hKP hG hr S hN hσ hk hcl ffa hfo (λu=>hbind _ _ _ u) (hbody fa c') (st l _ nl hl) h64 R
end
section
variable{prog:pi}{w:uR}{A:uQ}{E:pB->pC->Prop}{s:pC}{K:Type}[DecidableEq K](kd:HeapKind prog w K)
theorem zdi{a:Addr}{xs:List (K×Addr×pB)}{k:K}{v:pB}{Q:pB->pC->Prop}(hu:kd.room A)(hkey:kd.is s.heap k a)(hm:s.heap.DictOfH kd d xs)(hz:xs.length<=sizeLine)
  (q1:∀p,atKey xs k=some p->Q p.2 {s with toks:=s.toks+kd.draws k})
  (q2:atKey xs k=none->∀h',h'.DictOfH kd d (Fj xs k a v)->Ac d s.heap h'->Q v {s with heap:=h',toks:=s.toks+kd.draws k}):
  wpAny (model prog w) A (Et d (.ref a) v) Q E s:=by
 obtain⟨o,es,ep,ho,hc,hd,he,his,hn⟩:=hm;unfold Et;refine UR (pA (kd.pyHash hu hkey (pA (wpAny_dictFind_heap (s:={s with toks:=s.toks+kd.draws k}) hu hkey ho hd he his hn (λhno=>?_) λj p hj=>?_))))
 ·have an:=atKey_none_of_get hno;have hnot:k∉xs.map (·.1):=not_mem_keys_of_get hno;refine pA (UI (pA (wpAny_updateDictKeys (hz:=by have e:=size_of_entries he;lia) (s:={s with toks:=s.toks+kd.draws k}) ho hd (pK (q2 an _ ⟨_,_,ep+1,Qn _ ho (Obj.isFreed_of_dict (Eu hd _)),hc.mapDictKeys _,Eu hd _,?_,?_,?_⟩ (Ur ..))))))
  ·rw[GX an]
   simp[he,Gk]
  ·rw[GX an];intro x hx;rcases pP.mp hx with y|y
   ·exact kd.keeps (his x y) ho hd (Ur ..)
   ·rw[pN.mp y];exact kd.keeps hkey ho hd (Ur ..)
  ·rw[GX an,ug,gL];refine⟨hn,by simp,λx hx y hy e=>hnot ?_⟩
   have y':y=k:=by simpa using hy
   rw[←y',←e];exact hx
 ·refine pA (Bp (s:={s with toks:=s.toks+kd.draws k}) ho hd ?_);rw[entry_at he j,hj];exact pA (UI (pK (q1 p (atKey_of_get hn hj))))
def zam{a:Addr}(hd:(d==Qz)=false)(v:pB):MeetsIn prog w (Av.«dict.setdefault» ⟨[.ref d,.ref a,v],[]⟩) (λA R s=>kd.room A.in1/\∃k xs,kd.is s.heap k a/\s.heap.DictOfH kd d xs/\xs.length<=sizeLine/\
  (∀p,atKey xs k=some p->R (.ok (.ret p.2)) {s with toks:=s.toks+kd.draws k})/\
  (atKey xs k=none->∀h',h'.DictOfH kd d (Fj xs k a v)->Ac d s.heap h'->R (.ok (.ret v)) {s with heap:=h',toks:=s.toks+kd.draws k})):=
 .of_wp λA R s⟨hu,k,xs,hkey,hm,hz,h1,h2⟩=>by
  unfold Av.«dict.setdefault» Builtin.Dict.keyAndDefault;refine pA (pA (EX hm.typeIs ?_));show wpAny _ _ (pure (d,uw a,some v)) _ _ s;refine pK ?_;show wpAny _ _ (if(d==Qz)=true then _ else(Et d (uw a) v>>=_)) _ _ s;rw[if_neg (by rw[hd];decide)]
  exact pA (zdi kd hu hkey hm hz (λp hp=>pK ⟨p.2,rfl,h1 p hp⟩) λhn h' hm' hs'=>pK ⟨v,rfl,h2 hn h' hm' hs'⟩)
end
variable{kvs:List N3}
section
variable{X:Cx}{pins:List (Addr×Obj)}{σ:St}{H:Hp}{s:pC}{P:pi}{w:uR}
theorem zdq{xs:List (K2×Addr×pB)}(rel:KNp kvs xs){k:K2}(hn:atKey xs k=none):yx kvs k=none:=by
 have rv:=rel.val k;rw[hn] at rv
 cases hv:yx kvs k with
 |none=>rfl
 |some v=>rw[hv] at rv;exact rv.elim
def rSDN(P:pi)(w:uR)(a:Addr)(y z:V)(H:Hp)(Q:VK):Prop:=∃kvs k b,H a=some (nD P w a kvs)/\KN H kvs/\y=.ref b/\NK H b k/\kvs.length<sizeLine/\(∀v,yx kvs k=some v->Q v H)/\(yx kvs k=none->Q z (upd H a (nD P w a (yM kvs k b z))))
theorem zd6{A:uQ}{E:pB->pC->Prop}{a:Addr}{y z:V}{u r:pB}{Q:VK}(hP:X.prog=P)(hw:X.w=w)(hu:A.units+64<cLine)(I:Inv X pins σ H s)(g:rSDN P w a y z H Q)(ry:zm y u)(rz:zm z r):
  wpAny (model X.prog X.w) A (call (.builtin "dict.setdefault") [.ref a,u,r]) (EP X pins σ Q) E s:=by
 subst hP hw;obtain⟨kvs,k,b,e,kn,rfl,nk,l,q1,q2⟩:=g
 cases(show u=uw b from ry);obtain⟨zz,hd,xs,rel,dd⟩:=nd_rd I.hok (.inl e) kn;have hz:xs.length<=sizeLine:=by rw[←CM rel];exact zz
 have hl:(yM kvs k b z).length<=sizeLine:=by have:=Z1 kvs k b z;lia
 obtain⟨⟨_,_,nd,_⟩,_⟩:=I.hok a _ e;refine call_meetsIn Cf dd.typeIs PySem.F.entry_dict_setdefault (PySem.F.args_dict_setdefault_3 _ _ _) (zam (vG (yG X.prog X.w)) hd r) ⟨Vg (by lia),k,xs,Xi I.hok nk,dd,hz,λp hp=>?_,λhn h' dd' hs=>?_⟩
 ·have rv:=rel.val k;rw[hp] at rv
  cases hv:yx kvs k with
  |none=>rw[hv] at rv;exact rv.elim
  |some v=>
   rw[hv] at rv;exact⟨v,H,I.tok _,rv,q1 v hv⟩
 ·have he:∃q,h'.get? a=some q:=let⟨q,_,_,hq,_⟩:=dd';⟨q,hq⟩;exact⟨z,upd H a (nD X.prog X.w a (yM kvs k b z)),Xm I (by rw[e];exact DB) hs he (nd_ok hl hd (Vo nd) (rel.put k rz) dd'),rz,q2 (zdq rel hn)⟩
def isN_at{a:Addr}(I:Inv X pins σ H s)(e:H a=some (nD X.prog X.w a kvs)):
  s.TypeIs (.ref a) "dict"/\(∀b,uw a=.ref b->∃ob,s.heap.get? b=some ob/\ob.dict=none)/\(a==Qz)=false:=by
 obtain⟨⟨hd,_,_,_,_,ob,es,ep,h1,h2,_⟩,_⟩:=I.hok a _ e;exact⟨⟨ob,h1,h2.1⟩,λb q=>by cases q;exact⟨ob,h1,h2.2.1⟩,hd⟩
variable{o e f i:Expr}{td ty tx:TE}{apos cpos pos:Pos}
def tNSd(P:pi)(w:uR)(td ty tx:TE):TE:=λσ H Q=>td σ H λx H1=>∃a,x=.ref a/\(∃kvs,H1 a=some (nD P w a kvs))/\ty σ H1 λy H2=>tx σ H2 λz H3=>rSDN P w a y z H3 Q
def pe_nsd(hP:X.prog=P)(hw:X.w=w)(hu:X.A.units+64<cLine)(ho:PE X o td)(he:PE X e ty)(hf:PE X f tx)(m:M2 X o "setdefault" apos e f cpos):PE X (.Call (.Attribute o "setdefault" apos) [e,f] [] cpos) (tNSd P w td ty tx):=by
 subst hP hw;intro pins s σ H Q I h;refine wpAny_Call_method m.base m.few m.line PySem.F.plainAttrs_dict Cf PySem.F.type_dict_setdefault (thn (ho pins s σ H _ I h) λu s1⟨x,H1,I1,rx,a,ex,⟨kvs,d⟩,q1⟩=>?_);subst ex;obtain rfl:u=uw a:=rx;obtain⟨t1,t2,_⟩:=isN_at I1 d;refine⟨t1,t2,?_⟩;rw[m.trees];exact Bm rfl (Ee (BW (thn (he pins s1 σ H1 _ I1 q1) λiv s2⟨y,H2,I2,ry,q2⟩=>BW (thn (hf pins s2 σ H2 _ I2 q2) λfv s3⟨z,H3,I3,rz,g⟩=>DT (zd6 rfl rfl hu I3 g ry rz)))))
def tNGet(P:pi)(w:uR)(td ty:TE):TE:=λσ H Q=>td σ H λx H1=>ty σ H1 λy H2=>∃a kvs b k v,x=.ref a/\y=.ref b/\H2 a=some (nD P w a kvs)/\KN H2 kvs/\NK H2 b k/\yx kvs k=some v/\Q v H2
theorem pe_nget(hP:X.prog=P)(hw:X.w=w)(hu:X.A.units+64<cLine)(ho:PE X o td)(hi:PE X i ty)(hs:NoSl i):PE X (.Subscript o i pos) (tNGet P w td ty):=by
 subst hP hw;intro pins s σ H Q I h;refine Vc DO.lookup hs (thn (ho pins s σ H _ I h) λu s1⟨x,H1,I1,rx,q1⟩=>thn (hi pins s1 σ H1 _ I1 q1) λiv s2⟨y,H2,I2,ry,a,kvs,b,k,v,ex,ey,e,kn,nk,hv,q2⟩=>?_);subst ex ey;obtain rfl:u=uw a:=rx;obtain rfl:iv=uw b:=ry;obtain⟨zz,hd,xs,rel,dd⟩:=nd_rd I2.hok (.inl e) kn;have rv:=rel.val k;rw[hv] at rv
 cases ha:atKey xs k with
 |none=>rw[ha] at rv;exact rv.elim
 |some p=>
  rw[ha] at rv;exact⟨dd.typeIs,FO (Vg (by lia)) (Xi I2.hok nk) dd ha ⟨v,H2,I2.tok _,rv,q2⟩⟩
def Zk(P:pi)(w:uR):List V->Hp->VK->Prop:=λxs H Q=>∃d kvs,xs=[.ref d]/\H d=some (nD P w d kvs)/\∀l,H l=none->Q (.ref l) (upd H l (.lst (kvs.map λp=>.ref p.2.1)))
theorem zd1(hP:X.prog=P)(hw:X.w=w)(hc:X.calm=true):yC X (.type "list") (Zk P w):=by
 subst hP hw;intro pins s σ H xs us Q I r h;obtain⟨d,kvs,rfl,e,q⟩:=h;obtain⟨u,rfl,rx⟩:=vals1 r
 cases rx;obtain⟨⟨hd,z,_,xs,rel,o,es,ep,ho,hx,hdat,he⟩,_⟩:=I.hok d _ e;have ek:=rel.keys.2;have hk:es.toList.map (·.key)=(kvs.map λp=>p.2.1).map uw:=by
  rw[he,UD,←ek,UD];rfl
 have ls:es.size=kvs.length:=by
  have:=congrArg AZ hk
  simpa using this
 refine Ww (I.ok.hd hc) hd ho hx.1 hdat (λh' tk acc' c' kp hS hacc=>?_) (by lia)
 have ea:acc'.toList=(kvs.map λp=>p.2.1).map uw:=by
  rw[←hk];refine Aq λj=>?_;rw[pQ,ui,ui];have ha:acc'.size=es.size:=hacc.1
  by_cases hj:j<es.size
  ·have hj':j<acc'.size:=by lia
   obtain⟨e,e1,e2⟩:=hacc.2 j acc'[j] (uM hj');rw[uM hj',e1,e2];rfl
  ·rw[UT (by lia),UT (by lia)]
   rfl
 have em:(kvs.map λp=>V.ref p.2.1)=(kvs.map λp=>p.2.1).map V.ref:=by rw[UD];rfl
 refine⟨.ref s.heap.objs.size,_,I.laid (t':=tk) kp (pJ _) (o:=.lst (kvs.map λp=>V.ref p.2.1)) ⟨by rw[pL];exact z,acc'.toList,c',by rw[em];exact VA ea,by simpa using hS⟩,rfl,q _ (I.hok.fresh (pJ _))⟩
end
theorem sto_K:STO ltK:=by
 have e:ltK=lt2:=by
  funext a b
  unfold ltK lt2 lexB
  by_cases h:a.1=b.1
  ·rw[if_pos h,if_pos h]
   by_cases h2:a.2=b.2
   ·rw[if_pos h2];exact(decide_eq_false (by lia)).symm
   ·rw[if_neg h2]
  ·rw[if_neg h,if_neg h]
 rw[e];exact sto2
def zc1:qM KPp:=by
 refine⟨λ{H zs ans} h=>?_,λ{H zs ans} h i j hi hj e k=>?_⟩
 ·obtain⟨kp,_,rfl⟩:=h;exact Wk.of sto_K kp
 ·obtain⟨kp,ok,rfl⟩:=h;obtain⟨q,e1,h1⟩:=ok i hi;obtain⟨q',e2,h2⟩:=ok j hj;rw[e,e2] at e1
  cases e1;rw[h1] at h2;have:kp i=kp j:=by
   injection h2 with h2
   injection h2 with h2
   injection h2 with x1 h2
   injection h2 with x2 _
   injection x1 with x1
   injection x2 with x2
   exact Br x1 x2
  show ltK (kp i) (kp k)=ltK (kp j) (kp k)/\ltK (kp k) (kp i)=ltK (kp k) (kp j)
  rw[this];exact⟨rfl,rfl⟩
def jc(x y:Int×Int)(xs ys:List (Int×Int)):ltL (x::xs) (y::ys)=if x=y then ltL xs ys else lt2 x y:=by rw[ltL,lex2]
theorem Jp:∀(a b c:List (Int×Int)),ltL a b=true->ltL b c=true->ltL a c=true
 |[],[],[],_,h2=>h2
 |[],_::_,[],_,h2=>by rw[ltL] at h2;cases h2
 |[],_,_::_,_,_=>by rw[ltL];exact decide_eq_true (Fs _)
 |_::_,[],_,h1,_=>by rw[ltL] at h1;cases h1
 |_::_,_::_,[],_,h2=>by rw[ltL] at h2;cases h2
 |x::xs,y::ys,z::zs,h1,h2=>by
  rw[jc] at*
  by_cases e1:x=y
  ·rw[if_pos e1] at h1
   by_cases e2:y=z
   ·rw[if_pos e2] at h2;rw[if_pos (e1.trans e2)];exact Jp xs ys zs h1 h2
   ·rw[if_neg e2] at h2;rw[e1,if_neg e2];exact h2
  ·rw[if_neg e1] at h1
   by_cases e2:y=z
   ·rw[←e2,if_neg e1];exact h1
   ·rw[if_neg e2] at h2;have t:=sto2.tr _ _ _ h1 h2;rw[if_neg (λe=>by rw[e,sto2.irr] at t;cases t)]
    exact t
theorem Wf:∀(a b:List (Int×Int)),a≠b->ltL a b=true∨ltL b a=true
 |[],[],n=>absurd rfl n
 |[],_::_,_=>.inl (by rw[ltL];exact decide_eq_true (Fs _))
 |_::_,[],_=>.inr (by rw[ltL];exact decide_eq_true (Fs _))
 |x::xs,y::ys,n=>by
  rw[jc,jc]
  by_cases e:x=y
  ·rw[if_pos e,if_pos e.symm];exact Wf xs ys λz=>n (by rw[e,z])
  ·rw[if_neg e,if_neg (λz=>e z.symm)];exact sto2.tot _ _ e
theorem Jz:∀a:List (Int×Int),ltL a a=false
 |[]=>rfl
 |x::xs=>by rw[jc,if_pos rfl];exact Jz xs
def zcs:qM KPl:=by
 refine⟨λ{H zs ans} h=>?_,λ{H zs ans} h i j hi hj e k=>?_⟩
 ·obtain⟨kp,_,rfl⟩:=h;exact Wk.of ⟨Jz,Jp,Wf⟩ kp
 ·obtain⟨kp,ok,rfl⟩:=h;obtain⟨q,qs,e1,h1,l1,o1⟩:=ok i hi;obtain⟨q',qs',e2,h2,l2,o2⟩:=ok j hj;rw[pE,e,←pE,e2] at e1
  cases e1;rw[h1] at h2
  cases h2;have:kp i=kp j:=by
   refine GF (l1.symm.trans l2) λn n1 n2=>?_;obtain⟨b,b1,b2⟩:=o1 n _ (pG n1);obtain⟨b',c1,c2⟩:=o2 n _ (pG n2);rw[b1] at c1
   cases c1;rw[b2] at c2
   injection c2 with c2
   injection c2 with c2
   injection c2 with x1 c2
   injection c2 with x2 _
   injection x1 with x1
   injection x2 with x2
   exact Br x1 x2
  show ltL (kp i) (kp k)=ltL (kp j) (kp k)/\ltL (kp k) (kp i)=ltL (kp k) (kp j)
  rw[this];exact⟨rfl,rfl⟩
open PySem.W (kas_sort kas_ask)
def TupQ(h:Heap)(v:pB)(a b c d:List Int):Prop:=∃(p:Addr)(x y z t:pB)(n:Nat)(dd:Option Addr)(sl:Array (Option pB)),v=.ref p/\h.get? p=some {cls:=.type "tuple",dict:=dd,data:=.seq #[x,y,z,t] n,slots:=sl}/\yd h x a/\yd h y b/\yd h z c/\yd h t d
open PySem.W (KatTups) in
theorem ktupsQ{h:Heap}:∀vs:List pB,(∀v,v∈vs->∃a b c d,TupQ h v a b c d)->∃fs,fs.length=vs.length/\KatTups h vs fs/\∀f,f∈fs->∃ns,yd h f ns
 |[],_=>⟨[],rfl,.nil,λf hf=>by cases hf⟩
 |v::vs,hv=>by
  obtain⟨fs,l,t,r⟩:=ktupsQ vs λu hu=>hv u (pY _ hu);obtain⟨a,b,c,d,p,x,y,z,u,n,dd,sl,rfl,o,i,j⟩:=hv v (pX ..);refine⟨x::fs,by simp[l],.cons o rfl rfl rfl t,λf hf=>?_⟩
  rcases pR.mp hf with rfl|hf
  ·exact⟨_,i⟩
  ·exact r f hf
section
variable{X:Cx}{pins:List (Addr×Obj)}{σ:St}{H:Hp}{s:pC}
def rInL(K:pF):R2:=λx y H Q=>∃d es,RdD K H d x/\RdD K H (.list es) y/\d.canLay0=true/\uX es=true/\d.depth<=60/\Q (.bl (es.any λe=>uj e d)) H
theorem op_inL{K':pF}(hK:X.K=K')(hu:X.A.units+64<cLine):OpR X (UZ .In) (rInL K'):=by
 subst hK;intro pins s σ H x y v u Q I rx ry h;obtain⟨d,es,hd,he,c1,c2,c3,q⟩:=h;obtain⟨as,ra⟩:=wB I d x v hd rx;obtain⟨bs,rb⟩:=wB I _ y u he ry;exact SeqAt.in_list_reads rb ra c2 c1 (by lia) ⟨.bl _,H,I,rfl,q⟩
end
structure zG(K:pF)(mg:Str->Option pB)(x:Str)(st:Stmt)(ps:List Str)(f:Addr)(fd:UN):Prop where
 fn:Fun K x x st f fd
 bn:Binds K fd ps []
 mg:mg x=some (.ref f)
def zt{X:Cx}{k k':Nat}{f:Addr}{fd:UN}{ps:List Str}{sp:Sp}{x:Str}{st:Stmt}{p pos:Pos}{e:Expr}{es:List Expr}{t:TA}(ok:zx X.prog X.w X.K X.mg X.base CX0 k f fd ps sp)(F:zG X.K X.mg x st ps f fd)(hr:zX k' X.A)(ha:PA X (e::es) t)(hk:k<=k':=by decide)(hg:Gl X x:=by rfl)(hdb:(x==("__debug__":Str))=false:=by decide)(he:ur (e::es) X.env=(false,eval e X.env)::ur es X.env:=by rfl)(hpl:(Ad pos (ur es X.env)).any (·.1)=false:=by rfl):
  PE X (.Call (.Name x p) (e::es) [] pos) (v5 sp [] E0 t):=j8 ok (hr.mono hk) hg F.mg F.fn.kp F.bn .nil pass0 ha hdb he hpl
variable{pos':Pos}
section
variable{X:Cx}{pos:Pos}
variable{x:Str}
theorem zu(i:Nat){e:Expr}{te:TE}(hN:X.N.Nodup)(he:PE X e te)(hi:X.N[i]?=some x:=by rfl)(hx:Loc X.env.scope x:=by first|exact .inl rfl|exact .inr rfl)(hs:Di e (some (.Name x pos')) pos.line X.env=pure false:=by rfl)(hf:X.fn x=true∨X.env.scope.names.lookup x=some .local:=by first|exact .inl rfl|exact .inr rfl|assumption):
  PS X (.Assign [.Name x pos'] e pos) (wE te (gName i)):=JV hN hi hx he hs hf
theorem zB(i:Nat)(hN:X.N.Nodup)(hi:X.N[i]?=some x:=by rfl)(hx:Loc X.env.scope x:=by first|exact .inl rfl|exact .inr rfl)(hf:X.fn x=true∨X.env.scope.names.lookup x=some .local:=by first|exact .inl rfl|exact .inr rfl|assumption):PG X (.Name x pos) (gName i):=pg_name hN hi hx hf
def zb{a b:Expr}{ta tb:TE}{r:R2}(h:IxR X r)(ha:PE X a ta)(hb:PE X b tb)(hp:V1 b:=by exact λ_ _=>rfl):PE X (.Subscript a b pos) (tOp r ta tb):=pe_ix h ha hb hp
def zJ{N P:List Str}{sc:Scope}(k:sc.kind=.function)(h:sc.isCoroutine=false/\sc.isGenerator=false/\N.Nodup/\N.take P.length=P/\(∀x∈P,sc.names.lookup x=some .local∨sc.names.lookup x=some .cell)/\∀y∈sc.names,y.2≠.free):zA N P sc:=⟨k,h.1,h.2.1,h.2.2.1,h.2.2.2.1,h.2.2.2.2.1,h.2.2.2.2.2⟩
def cs_mk{dsc:Scope}{N:List Str}{scope:Scope}{own:List Str}{ix:List Nat}(k:scope.kind=.function)(h:(∀y∈scope.names,y.2≠DZ)/\(∀y∈scope.names,y.2=NameKind.local->scope.names.lookup y.1=some .local)/\(∀y∈scope.names,y.2=QX->dsc.names.lookup y.1=some .cell∨dsc.names.lookup y.1=some .free)/\∀i∈ix,i<N.length/\scope.names.lookup (N.getD i "")=some .free):wC dsc N scope own ix:=⟨k,h.1,h.2.1,h.2.2.1,h.2.2.2⟩
variable{scope dsc:Scope}{tg iter elt:Expr}{ifs:List Expr}{wi:TI}{g:TG}{ti:TT}{te:TE}{N P:List Str}
def wM(S:zA N P dsc)(own:List Str)(ix:List Nat)(hi:PI X tg iter wi)(hb:CompBody X scope own ix tg ifs elt g ti te)(S':wC dsc N scope own ix:=by exact cs_mk rfl (by decide+kernel))(hc:X.calm=true:=by rfl)(hd:X.env.scope=dsc:=by rfl)(hN:X.N=N:=by rfl)
  (hs:∀x,AE iter X.env x=pure x:=by intro _;rfl):PE X (.ListComp elt [⟨tg,iter,ifs,0⟩] scope pos) (v7 own.length ix wi g ti te):=ZI hc hd hN S' hi hb hs
theorem wA(i:Nat){pos1:Pos}(S:zA N P dsc)(own:List Str)(ix:List Nat)(hi:PI X tg iter wi)(hb:CompBody X scope own ix tg ifs elt g ti te)(S':wC dsc N scope own ix:=by exact cs_mk rfl (by decide+kernel))(hc:X.calm=true:=by rfl)(hd:X.env.scope=dsc:=by rfl)(hN':X.N=N:=by rfl)(hx0:X.N[i]?=some x:=by rfl)(hx:Loc X.env.scope x:=by first|exact .inl rfl|exact .inr rfl)
  (hsw:Di (.ListComp elt [⟨tg,iter,ifs,0⟩] scope pos) (some (.Name x pos')) pos1.line X.env=pure true:=by rfl) (hf:X.fn x=true∨X.env.scope.names.lookup x=some .local:=by first|exact .inl rfl|exact .inr rfl|assumption)
  (hs:∀x,AE iter X.env x=pure x:=by intro _;rfl):PS X (.Assign [.Name x pos'] (.ListComp elt [⟨tg,iter,ifs,0⟩] scope pos) pos1) (wE (v7 own.length ix wi g ti te) (gName i)):=ps_setC (by rw[hN'];exact S.nd) hx0 hx hc hd hN' S' hi hb hsw hf hs
end
def yO{t u:TS}{D:Ends}{σ:St}{H:Hp}(h:∀f:St->Hp->Prop,(∀σ H,u D σ H->f σ H)->t {D with nx:=f} σ H):zC t u D σ H:=h _ λ_ _ z=>z
section
variable{t u:TS}{te ta tb:TE}{c c':TT}{D:Ends}{σ:St}{H:Hp}{Q:VK}{g:TG}{gs:TGs}{a:TA}{v w x y:V}{xs l:List V}{p:Addr}{i j k:Int}{b:Bool}
def yB(v:V)(Q:Bool->Prop):Prop:=∃k,v=.bl k/\Q k
def yI(v:V)(Q:Int->Prop):Prop:=∃k,v=.int k/\Q k
def yTw(vs:List V)(Q:V->V->Prop):Prop:=∃v w,vs=[v,w]/\Q v w
def yX(xs:List V)(i:Int)(Q:V->Prop):Prop:=∃v,atI xs i=some v/\Q v
def yJ(o:Option Nat)(Q:Nat->Prop):Prop:=∃j,o=some j/\Q j
def yB_bl{Q:Bool->Prop}:yB (.bl b) Q=Q b:=propext ⟨λ⟨k,e,q⟩=>by cases e;exact q,λq=>⟨_,rfl,q⟩⟩
def yI_int{Q:Int->Prop}:yI (.int i) Q=Q i:=propext ⟨λ⟨k,e,q⟩=>by cases e;exact q,λq=>⟨_,rfl,q⟩⟩
def yTw_two{Q:V->V->Prop}:yTw [v,w] Q=Q v w:=propext ⟨λ⟨k,e,f,q⟩=>by cases f;exact q,λq=>⟨_,_,rfl,q⟩⟩
def Wn{Q:V->Prop}{v:V}(h:atI xs i=some v):yX xs i Q=Q v:=propext ⟨λ⟨k,e,q⟩=>by rw[h] at e;cases e;exact q,λq=>⟨_,h,q⟩⟩
def yX_0{Q:V->Prop}{x0:V}:yX (x0::l) 0 Q=Q x0:=Wn at0
def yX_1{Q:V->Prop}{x0 x1:V}:yX (x0::x1::l) 1 Q=Q x1:=Wn at1
def yX_2{Q:V->Prop}{x0 x1 x2:V}:yX (x0::x1::x2::l) 2 Q=Q x2:=Wn at2
def y_next:qi D σ H=D.nx σ H:=rfl
def y_seq:zC t u D σ H=t {D with nx:=u D} σ H:=rfl
def y_ret:jt te D σ H=te σ H D.rt:=rfl
def y_ifS:qh c t u D σ H=c σ H λb H1=>if b=true then t D σ H1 else u D σ H1:=rfl
def y_asg:wE te g D σ H=te σ H λx H1=>g x σ H1 D.nx:=rfl
def y_drop:jN te D σ H=te σ H λ_ H1=>D.nx σ H1:=rfl
def y_par{i j:Nat}:tPar i j a D σ H=a σ H λvs H1=>yTw vs λv w=>gName i v σ H1 λσ' H'=>gName j w σ' H' D.nx:=rfl
def y_c:tC v σ H Q=Q v H:=rfl
def y_op{r:R2}:tOp r ta tb σ H Q=ta σ H λx H1=>tb σ H1 λy H2=>r x y H2 Q:=rfl
def y_un{r:V->Hp->VK->Prop}:tUn r ta σ H Q=ta σ H λx H1=>r x H1 Q:=rfl
def y_rI{C:Int->Int->Prop}{g:Int->Int->V}:rI C g (.int i) (.int j) H Q=(C i j/\Q (g i j) H):=propext ⟨λ⟨a,b,e,f,q⟩=>by cases e;cases f;exact q,λq=>⟨_,_,rfl,rfl,q⟩⟩
def y_rI0{g:Int->Int->V}:rI0 g (.int i) (.int j) H Q=Q (g i j) H:=propext ⟨λ⟨a,b,e,f,q⟩=>by cases e;cases f;exact q,λq=>⟨_,_,rfl,rfl,q⟩⟩
def y_rU{g:Int->V}:rU g (.int i) H Q=Q (g i) H:=propext ⟨λ⟨a,e,q⟩=>by cases e;exact q,λq=>⟨_,rfl,q⟩⟩
def y_eq:rEq x y H Q=(scal x y=true/\Q (.bl (decide (x=y))) H):=rfl
def y_ne:rNe x y H Q=(scal x y=true/\Q (.bl (!decide (x=y))) H):=rfl
section
variable{Q:Bool->Hp->Prop}
def y_test:jW te σ H Q=te σ H λx H'=>yB x λk=>Q k H':=rfl
def y_B:tB te σ H Q=te σ H λx H'=>yB x λk=>Q k H':=rfl
def y_not:jg c σ H Q=c σ H λc H1=>Q (!c) H1:=rfl
def y_and:qf c c' σ H Q=c σ H λb H1=>if b=true then c' σ H1 Q else Q false H1:=rfl
def y_or:tOr c c' σ H Q=c σ H λb H1=>if b=true then Q true H1 else c' σ H1 Q:=rfl
def y_yes:tYes σ H Q=Q true H:=rfl
end
def y_andV:jR ta tb σ H Q=ta σ H λx H1=>yB x λc=>if c=true then tb σ H1 Q else Q (.bl false) H1:=rfl
def y_notV:j9 ta σ H Q=ta σ H λx H1=>yB x λc=>Q (.bl (!c)) H1:=rfl
def y_if:tIf c ta tb σ H Q=c σ H λc H1=>if c=true then ta σ H1 Q else tb σ H1 Q:=rfl
def y_cb{r:List V->Hp->VK->Prop}:tCB r a σ H Q=a σ H λvs H1=>r vs H1 Q:=rfl
def y_call{sp:Sp}{dvs:List V}{E:XK}:v5 sp dvs E a σ H Q=a σ H λvs H1=>sp (vs++dvs) H1 Q E:=rfl
section
variable{Q:List V->Hp->Prop}
def y_nil:xx σ H Q=Q [] H:=rfl
def y_cons:yy te a σ H Q=te σ H λx H1=>a σ H1 λxs H2=>Q (x::xs) H2:=rfl
end
def y_tup:qt a σ H Q=a σ H λxs H1=>xs.length<=sizeLine/\∀p,H1 p=none->Q (.ref p) (upd H1 p (.tup xs)):=rfl
def y_lst:jK a σ H Q=a σ H λxs H1=>xs.length<=sizeLine/\∀p,H1 p=none->Q (.ref p) (upd H1 p (.lst xs)):=rfl
section
variable{Q:St->Hp->Prop}
def y_gnil:gNil [] σ H Q=Q σ H:=propext ⟨λh=>h.2,λh=>⟨rfl,h⟩⟩
def y_gcons:gCons g gs (v::l) σ H Q=g v σ H λσ' H'=>gs l σ' H' Q:=propext ⟨λ⟨a,b,e,q⟩=>by cases e;exact q,λq=>⟨_,_,rfl,q⟩⟩
theorem y_gtup{n:Nat}:gTupH n gs (.ref p) σ H Q=match H p with|some (.tup xs)=>(xs.length=n/\gs xs σ H Q)|_=>False:=by
 refine propext ⟨λ⟨a,xs,e,h,q⟩=>?_,λq=>?_⟩
 ·cases e;rw[h];exact q
 ·split at q
  ·exact⟨_,_,rfl,‹_›,q⟩
  ·exact q.elim
def y_gsub{s:TSet}:gSub ta tb s v σ H Q=ta σ H λo H1=>tb σ H1 λi H2=>s o i v H2 λH3=>Q σ H3:=rfl
end
theorem y_ixT:rIxTH (.ref p) (.int i) H Q=match H p with|some (.tup xs)=>yX xs i λv=>Q v H|_=>False:=by
 refine propext ⟨λ⟨a,xs,k,v,e,f,h,g,q⟩=>?_,λq=>?_⟩
 ·cases e;cases f;rw[h];exact⟨v,g,q⟩
 ·split at q
  ·obtain⟨v,g,q⟩:=q;exact⟨_,_,_,v,rfl,rfl,‹_›,g,q⟩
  ·exact q.elim
theorem y_ixL:rIxLH (.ref p) (.int i) H Q=match H p with|some (.lst xs)=>yX xs i λv=>Q v H|_=>False:=by
 refine propext ⟨λ⟨a,xs,k,v,e,f,h,g,q⟩=>?_,λq=>?_⟩
 ·cases e;cases f;rw[h];exact⟨v,g,q⟩
 ·split at q
  ·obtain⟨v,g,q⟩:=q;exact⟨_,_,_,v,rfl,rfl,‹_›,g,q⟩
  ·exact q.elim
theorem y_len:rLenH [.ref p] H Q=match H p with|some (.lst ys)=>Q (.int ys.length) H|some (.tup ys)=>Q (.int ys.length) H|_=>False:=by
 refine propext ⟨λ⟨a,xs,e,h,q⟩=>?_,λq=>?_⟩
 ·cases e;rcases h with h|h<;>(rw[h];exact q)
 ·split at q
  ·exact⟨_,_,rfl,.inl ‹_›,q⟩
  ·exact⟨_,_,rfl,.inr ‹_›,q⟩
  ·exact q.elim
theorem y_list:rListH [.ref p] H Q=match H p with|some (.lst ys)=>(∀l,H l=none->Q (.ref l) (upd H l (.lst ys)))|some (.tup ys)=>(∀l,H l=none->Q (.ref l) (upd H l (.lst ys)))|_=>False:=by
 refine propext ⟨λ⟨a,xs,e,h,q⟩=>?_,λq=>?_⟩
 ·cases e;rcases h with h|h<;>(rw[h];exact q)
 ·split at q
  ·exact⟨_,_,rfl,.inl ‹_›,q⟩
  ·exact⟨_,_,rfl,.inr ‹_›,q⟩
  ·exact q.elim
theorem y_slH{lo hi:Option Int}:rSlH (.ref p) lo hi H Q=match H p with|some (.lst xs)=>(∀q,H q=none->Q (.ref q) (upd H q (.lst (yr xs lo hi))))|_=>False:=by
 refine propext ⟨λ⟨a,xs,e,h,q⟩=>?_,λq=>?_⟩
 ·cases e;rw[h];exact q
 ·split at q
  ·exact⟨_,_,rfl,‹_›,q⟩
  ·exact q.elim
variable{T:String}
theorem y_isi:rIsiF T [x,.ty T] H Q=match tyF H x with|some S=>Q (.bl (yu S T)) H|none=>False:=by
 refine propext ⟨λ⟨a,S,e,h,q⟩=>?_,λq=>?_⟩
 ·cases e;rw[h];exact q
 ·split at q
  ·exact⟨_,_,rfl,‹_›,q⟩
  ·exact q.elim
theorem y_append:rAppend (.ref p) [y] H Q=match H p with|some (.lst xs)=>(xs.length<sizeLine/\Q .non (upd H p (.lst (xs++[y]))))|_=>False:=by
 refine propext ⟨λ⟨a,xs,z,e,f,h,q⟩=>?_,λq=>?_⟩
 ·cases e;cases f;rw[h];exact q
 ·split at q
  ·exact⟨_,_,_,rfl,rfl,‹_›,q⟩
  ·exact q.elim
theorem y_clear:rClear (.ref p) [] H Q=match H p with|some (.lst xs)=>Q .non (upd H p (.lst []))|_=>False:=by
 refine propext ⟨λ⟨a,xs,e,f,h,q⟩=>?_,λq=>?_⟩
 ·cases e;rw[h];exact q
 ·split at q
  ·exact⟨_,_,rfl,rfl,‹_›,q⟩
  ·exact q.elim
variable{o:Option HO}
def ym_tup{Q:List V->Prop}:(match o with|some (.tup xs)=>Q xs|_=>False)=∃xs,o=some (.tup xs)/\Q xs:=by
 refine propext ⟨λq=>?_,λ⟨xs,e,q⟩=>by subst e;exact q⟩
 split at q
 ·exact⟨_,rfl,q⟩
 ·exact q.elim
def ym_lst{Q:List V->Prop}:(match o with|some (.lst xs)=>Q xs|_=>False)=∃xs,o=some (.lst xs)/\Q xs:=by
 refine propext ⟨λq=>?_,λ⟨xs,e,q⟩=>by subst e;exact q⟩
 split at q
 ·exact⟨_,rfl,q⟩
 ·exact q.elim
def ym_two{Q:List V->Prop}:(match o with|some (.lst xs)=>Q xs|some (.tup xs)=>Q xs|_=>False)=∃xs,(o=some (.lst xs)∨o=some (.tup xs))/\Q xs:=by
 refine propext ⟨λq=>?_,λ⟨xs,e,q⟩=>by rcases e with e|e<;>(subst e;exact q)⟩
 split at q
 ·exact⟨_,.inl rfl,q⟩
 ·exact⟨_,.inr rfl,q⟩
 ·exact q.elim
def ym_ty{o:Option String}{Q:String->Prop}:(match o with|some S=>Q S|none=>False)=∃S,o=some S/\Q S:=by
 refine propext ⟨λq=>?_,λ⟨xs,e,q⟩=>by subst e;exact q⟩
 split at q
 ·exact⟨_,rfl,q⟩
 ·exact q.elim
section
variable{Q:Option Int->Hp->Prop}
def y_nopart:JC σ H Q=Q none H:=rfl
def y_part:tPart te σ H Q=te σ H λx H1=>yI x λi=>Q (some i) H1:=rfl
end
def y_sl{r:V->Option Int->Option Int->Hp->VK->Prop}{tl th:TO}:tSl r te tl th σ H Q=te σ H λx H1=>tl σ H1 λl H2=>th σ H2 λu H3=>r x l u H3 Q:=rfl
variable{r:V->List V->Hp->VK->Prop}
def y_bm0{K:pF}:tBM0 K T r te σ H Q=te σ H λx H1=>tyV K T x H1/\r x [] H1 Q:=rfl
def y_bm{K:pF}:tBM K T r te a σ H Q=te σ H λx H1=>tyV K T x H1/\a σ H1 λxs H2=>r x xs H2 Q:=rfl
def y_v0:tVar 0 (some v::σ) H Q=Q v H:=propext ⟨λ⟨_,e,q⟩=>by cases e;exact q,λq=>⟨v,rfl,q⟩⟩
def y_n0{a0:Option V}{Q:St->Hp->Prop}:gName 0 v (a0::σ) H Q=Q (some v::σ) H:=rfl
def y_v1{a0:Option V}:tVar 1 (a0::some v::σ) H Q=Q v H:=propext ⟨λ⟨_,e,q⟩=>by cases e;exact q,λq=>⟨v,rfl,q⟩⟩
variable{a1:Option V}
def y_n1{a0:Option V}{Q:St->Hp->Prop}:gName 1 v (a0::a1::σ) H Q=Q (a0::some v::σ) H:=rfl
def y_v2{a0:Option V}:tVar 2 (a0::a1::some v::σ) H Q=Q v H:=propext ⟨λ⟨_,e,q⟩=>by cases e;exact q,λq=>⟨v,rfl,q⟩⟩
variable{a2:Option V}
def y_n2{a0:Option V}{Q:St->Hp->Prop}:gName 2 v (a0::a1::a2::σ) H Q=Q (a0::a1::some v::σ) H:=rfl
def y_v3{a0:Option V}:tVar 3 (a0::a1::a2::some v::σ) H Q=Q v H:=propext ⟨λ⟨_,e,q⟩=>by cases e;exact q,λq=>⟨v,rfl,q⟩⟩
variable{a3:Option V}
def y_n3{a0:Option V}{Q:St->Hp->Prop}:gName 3 v (a0::a1::a2::a3::σ) H Q=Q (a0::a1::a2::some v::σ) H:=rfl
def y_v4{a0:Option V}:tVar 4 (a0::a1::a2::a3::some v::σ) H Q=Q v H:=propext ⟨λ⟨_,e,q⟩=>by cases e;exact q,λq=>⟨v,rfl,q⟩⟩
variable{a4:Option V}
def y_n4{a0:Option V}{Q:St->Hp->Prop}:gName 4 v (a0::a1::a2::a3::a4::σ) H Q=Q (a0::a1::a2::a3::some v::σ) H:=rfl
def y_v5{a0:Option V}:tVar 5 (a0::a1::a2::a3::a4::some v::σ) H Q=Q v H:=propext ⟨λ⟨_,e,q⟩=>by cases e;exact q,λq=>⟨v,rfl,q⟩⟩
variable{a5:Option V}
def y_n5{a0:Option V}{Q:St->Hp->Prop}:gName 5 v (a0::a1::a2::a3::a4::a5::σ) H Q=Q (a0::a1::a2::a3::a4::some v::σ) H:=rfl
def y_v6{a0:Option V}:tVar 6 (a0::a1::a2::a3::a4::a5::some v::σ) H Q=Q v H:=propext ⟨λ⟨_,e,q⟩=>by cases e;exact q,λq=>⟨v,rfl,q⟩⟩
variable{a6:Option V}
def y_n6{a0:Option V}{Q:St->Hp->Prop}:gName 6 v (a0::a1::a2::a3::a4::a5::a6::σ) H Q=Q (a0::a1::a2::a3::a4::a5::some v::σ) H:=rfl
def y_v7{a0:Option V}:tVar 7 (a0::a1::a2::a3::a4::a5::a6::some v::σ) H Q=Q v H:=propext ⟨λ⟨_,e,q⟩=>by cases e;exact q,λq=>⟨v,rfl,q⟩⟩
variable{a7:Option V}
def y_n7{a0:Option V}{Q:St->Hp->Prop}:gName 7 v (a0::a1::a2::a3::a4::a5::a6::a7::σ) H Q=Q (a0::a1::a2::a3::a4::a5::a6::some v::σ) H:=rfl
def y_v8{a0:Option V}:tVar 8 (a0::a1::a2::a3::a4::a5::a6::a7::some v::σ) H Q=Q v H:=propext ⟨λ⟨_,e,q⟩=>by cases e;exact q,λq=>⟨v,rfl,q⟩⟩
variable{a8:Option V}
def y_n8{a0:Option V}{Q:St->Hp->Prop}:gName 8 v (a0::a1::a2::a3::a4::a5::a6::a7::a8::σ) H Q=Q (a0::a1::a2::a3::a4::a5::a6::a7::some v::σ) H:=rfl
def y_v9{a0:Option V}:tVar 9 (a0::a1::a2::a3::a4::a5::a6::a7::a8::some v::σ) H Q=Q v H:=propext ⟨λ⟨_,e,q⟩=>by cases e;exact q,λq=>⟨v,rfl,q⟩⟩
variable{a9:Option V}
def y_n9{a0:Option V}{Q:St->Hp->Prop}:gName 9 v (a0::a1::a2::a3::a4::a5::a6::a7::a8::a9::σ) H Q=Q (a0::a1::a2::a3::a4::a5::a6::a7::a8::some v::σ) H:=rfl
def y_v10{a0:Option V}:tVar 10 (a0::a1::a2::a3::a4::a5::a6::a7::a8::a9::some v::σ) H Q=Q v H:=propext ⟨λ⟨_,e,q⟩=>by cases e;exact q,λq=>⟨v,rfl,q⟩⟩
variable{a10:Option V}
def y_n10{a0:Option V}{Q:St->Hp->Prop}:gName 10 v (a0::a1::a2::a3::a4::a5::a6::a7::a8::a9::a10::σ) H Q=Q (a0::a1::a2::a3::a4::a5::a6::a7::a8::a9::some v::σ) H:=rfl
def y_v11{a0:Option V}:tVar 11 (a0::a1::a2::a3::a4::a5::a6::a7::a8::a9::a10::some v::σ) H Q=Q v H:=propext ⟨λ⟨_,e,q⟩=>by cases e;exact q,λq=>⟨v,rfl,q⟩⟩
variable{Q:St->Hp->Prop}{a11:Option V}
def y_n11{a0:Option V}:gName 11 v (a0::a1::a2::a3::a4::a5::a6::a7::a8::a9::a10::a11::σ) H Q=Q (a0::a1::a2::a3::a4::a5::a6::a7::a8::a9::a10::some v::σ) H:=rfl
variable{a12:Option V}
def y_n12{a0:Option V}:gName 12 v (a0::a1::a2::a3::a4::a5::a6::a7::a8::a9::a10::a11::a12::σ) H Q=Q (a0::a1::a2::a3::a4::a5::a6::a7::a8::a9::a10::a11::some v::σ) H:=rfl
def y_n13{a0 a13:Option V}:gName 13 v (a0::a1::a2::a3::a4::a5::a6::a7::a8::a9::a10::a11::a12::a13::σ) H Q=Q (a0::a1::a2::a3::a4::a5::a6::a7::a8::a9::a10::a11::a12::some v::σ) H:=rfl
end
section
variable{K:pF}{a l l1 l2:Addr}{xs ys:List V}{lo:Int}{n:Nat}{g:TG}{tb:TS}{D:Ends}{σ:St}{H:Hp}
def xC(Pv:Nat->St->Hp->Prop)(h0:Pv 0 σ H)(hl:∀i σ H,i<=xs.length->Pv i σ H->SqL K H a xs)(hs:∀bk ct i x σ H,xs[i]?=some x->Pv i σ H->g x σ H λσ2 H2=>tb {D with nx:=Pv (i+1),ct:=ct,bk:=bk} σ2 H2)(hd:∀σ H,Pv xs.length σ H->D.nx σ H):vU (Itl K a) g tb D σ H:=zd3 Pv h0 hl (λi=>hs D.nx (Pv (i+1)) i) hd
def Jk(Pv:Nat->St->Hp->Prop)(h0:Pv 0 σ H)(hl:∀i σ H,i<=xs.length->Pv i σ H->SqT K H a xs)(hs:∀bk ct i x σ H,xs[i]?=some x->Pv i σ H->g x σ H λσ2 H2=>tb {D with nx:=Pv (i+1),ct:=ct,bk:=bk} σ2 H2)(hd:∀σ H,Pv xs.length σ H->D.nx σ H):vU (Itt K a) g tb D σ H:=for_tup Pv h0 hl (λi=>hs D.nx (Pv (i+1)) i) hd
def vQ(Pv:Nat->St->Hp->Prop)(h0:Pv 0 σ H)(hs:∀bk ct i σ H,i<n->Pv i σ H->g (.int (lo+i)) σ H λσ2 H2=>tb {D with nx:=Pv (i+1),ct:=ct,bk:=bk} σ2 H2)(hd:∀σ H,Pv n σ H->D.nx σ H):vU (Itr lo n) g tb D σ H:=zc4 Pv h0 (λi=>hs D.nx (Pv (i+1)) i) hd
def zex(Pv:Nat->St->Hp->Prop)(h0:Pv 0 σ H)(hl:∀i σ H,Pv i σ H->H l=some (.lst xs))(hs:∀bk ct i x T σ H,xs[i]?=some x->Pv i σ H->H T=none->g (.ref T) σ (upd H T (.tup [.int (i:Int),x])) λσ2 H2=>tb {D with nx:=Pv (i+1),ct:=ct,bk:=bk} σ2 H2)(hd:∀σ H,Pv xs.length σ H->D.nx σ H):vU (Ite K l) g tb D σ H:=for_enu Pv h0 hl (λi=>hs D.nx (Pv (i+1)) i) hd
def zen(Pv:Nat->St->Hp->Prop)(h0:Pv 0 σ H)(hl:∀i σ H,Pv i σ H->H l1=some (.tup xs)/\H l2=some (.tup ys))(he:xs.length=ys.length)(hs:∀bk ct i x y T σ H,xs[i]?=some x->ys[i]?=some y->Pv i σ H->H T=none->g (.ref T) σ (upd H T (.tup [x,y])) λσ2 H2=>tb {D with nx:=Pv (i+1),ct:=ct,bk:=bk} σ2 H2)(hd:∀σ H,Pv xs.length σ H->D.nx σ H):vU (Ity K l1 l2) g tb D σ H:=zf4 Pv h0 hl he (λi=>hs D.nx (Pv (i+1)) i) hd
end
end L2
namespace My
noncomputable def G(a b:Int):Int:=(Hf a b:Nat)
def zaz(a b:Int):0<=G a b:=Int.natCast_nonneg _
def G_abs(a b:Int):G (if a<0 then-a else a) (if b<0 then-b else b)=G a b:=by
 unfold G
 split<;>split<;>simp[Int.gcd_neg,Int.neg_gcd]
variable{a b:Int}
theorem G_zero(h:0<=a)(hb:b=0):a=G a b:=by
 subst hb;unfold G;rw[FT];lia
def G_mod(a b:Int)(hb:0<b):G b (HK a b)=G a b:=by
 unfold G;rw[Qa a (Qq hb),Hg a b];have e:a%b+a/b*b=a:=by rw[UE];exact Int.emod_add_mul_ediv a b
 rw[←Co b (a%b) (a/b),e]
def turn{c:Int}(h:G a b=c)(hb:0<b):0<=b/\0<=HK a b/\G b (HK a b)=c:=
 ⟨Qq hb,EL a hb,by rw[G_mod a b hb,h]⟩
theorem less(hb:0<b):(HK a b).toNat<b.toNat:=by
 have h0:=EL a hb;have h1:=Int.fmod_lt_of_pos a hb;lia
end My
namespace My
variable{a b:Int}
theorem wl(h:b ∣ a):a.fdiv b*b=a:=by
 have e:=Eb a b;have z:a.fmod b=0:=Int.fmod_eq_zero_of_dvd h;rw[z] at e;rw[UE];omega
theorem Wu{x f y:Int}(e:x*f=y)(hf:f≠0):x.natAbs<=y.natAbs:=by
 rw[←e,gd];exact Nat.le_mul_of_pos_right _ (by lia)
theorem zej{x f y:Int}(e:x*f=y)(h:(0<f/\0<y)∨(f<0/\y<0)):0<x:=by
 rcases(by lia:0<x∨x=0∨x<0) with hx|hx|hx
 ·exact hx
 ·rw[hx,CA] at e;lia
 ·exfalso
  rcases h with⟨h1,h2⟩|⟨h1,h2⟩
  ·have:=Qy hx h1;lia
  ·have:=DP hx h1;lia
variable{m:Nat}
def zS{n:Nat}(h1:a.natAbs<2^m)(h2:b.natAbs<2^n):(a*b).natAbs<2^(m+n):=by
 rw[gd,Hs];exact GN h1 h2
theorem WC(h1:a.natAbs<2^m)(h2:b.natAbs<2^m):(a+b).natAbs<2^(m+1):=by
 rw[EM];lia
theorem xm(h1:a.natAbs<2^m)(h2:b.natAbs<2^m):(a-b).natAbs<2^(m+1):=by
 rw[EM];lia
def zU{n:Nat}(h:a.natAbs<2^m)(hm:m<=n):a.natAbs<2^n:=po h (AG (by decide) hm)
end My
namespace My
end My
namespace My
end My
namespace My
noncomputable def g3(a b c:Int):Nat:=CB (CB a.natAbs b.natAbs) c.natAbs
def G_nat(a b:Int):(G a b).natAbs=CB a.natAbs b.natAbs:=by unfold G;rw[Int.natAbs_natCast];rfl
theorem G3(a b c:Int):G (G a b) c=(g3 a b c:Int):=by
 have h:(G (G a b) c).natAbs=g3 a b c:=by rw[G_nat,G_nat];rfl
 have h0:=zaz (G a b) c;lia
def VD(a b c:Int):g3 c a b=g3 a b c:=by
 unfold g3;rw[De,Ft]
def Wv(a b c f:Int):g3 (a*f) (b*f) (c*f)=g3 a b c*f.natAbs:=by
 unfold g3;rw[gd,gd,gd,Fu,Fu]
theorem Y4{a b c:Int}(h:c≠0):0<g3 a b c:=by
 unfold g3;exact Nat.gcd_pos_of_pos_right _ (by lia)
def Wc(a b c:Int):((g3 a b c:Nat):Int) ∣ a:=DH.mpr (HR (Du _ _) (Du _ _))
def WA(a b c:Int):((g3 a b c:Nat):Int) ∣ b:=DH.mpr (HR (Du _ _) (CC _ _))
def qT(a b c:Int):((g3 a b c:Nat):Int) ∣ c:=DH.mpr (CC _ _)
structure Pt(n:Nat)(x y w:Int):Prop where
 pos:0<w
 one:g3 x y w=1
 lx:x.natAbs<2^n
 ly:y.natAbs<2^n
 lw:w.natAbs<2^n
variable{n:Nat}{x y w:Int}
theorem Pt.ne(h:Pt n x y w):w≠0:=by have:=h.pos;lia
def Pt.mono{m:Nat}(h:Pt m x y w)(hm:m<=n):Pt n x y w:=⟨h.pos,h.one,zU h.lx hm,zU h.ly hm,zU h.lw hm⟩
theorem pt_of{f:Int}(hf:f.natAbs=g3 x y w)(hs:(0<f/\0<w)∨(f<0/\w<0))(lx:x.natAbs<2^n)(ly:y.natAbs<2^n)(lw:w.natAbs<2^n):Pt n (x.fdiv f) (y.fdiv f) (w.fdiv f):=by
 have hd:∀z:Int,((g3 x y w:Nat):Int) ∣ z->f ∣ z:=λz h=>by
  rw[←hf] at h;exact HL.mp h
 have ex:=wl (hd x (Wc x y w));have ey:=wl (hd y (WA x y w));have ew:=wl (hd w (qT x y w));have hw:w≠0:=by lia
 have fn:f≠0:=by lia
 refine⟨zej ew hs,?_,Ud (Wu ex fn) lx,Ud (Wu ey fn) ly,Ud (Wu ew fn) lw⟩;have e:=Wv (x.fdiv f) (y.fdiv f) (w.fdiv f) f;rw[ex,ey,ew,hf] at e;have hp:=Y4 (a:=x) (b:=y) hw;have e':1*g3 x y w=g3 (x.fdiv f) (y.fdiv f) (w.fdiv f)*g3 x y w:=by lia
 exact(Nat.eq_of_mul_eq_mul_right hp e').symm
noncomputable def fac3(x y w:Int):Int:=if w<0 then-G (G w x) y else G (G w x) y
def Y3(x y w:Int):(fac3 x y w).natAbs=g3 x y w:=by
 unfold fac3;rw[G3,VD]
 split<;>simp
theorem Zn(h:w≠0):(0<fac3 x y w/\0<w)∨(fac3 x y w<0/\w<0):=by
 unfold fac3;have hp:=Y4 (a:=x) (b:=y) h;rw[G3,VD]
 split
 ·exact .inr ⟨by lia,by lia⟩
 ·exact .inl ⟨by lia,by lia⟩
theorem XC(h:w≠0):fac3 x y w≠0:=by rcases Zn (x:=x) (y:=y) h with z|z<;>lia
def XR(x y w z:Int)(h:((g3 x y w:Nat):Int) ∣ z):fac3 x y w ∣ z:=by
 rw[←Y3] at h;exact HL.mp h
theorem fac3_le(h:w≠0):(fac3 x y w).natAbs<=w.natAbs:=by
 rw[Y3];exact HS (by lia) (CC _ _)
noncomputable def ptX(x y w:Int):Int:=x.fdiv (fac3 x y w)
noncomputable def ptY(x y w:Int):Int:=y.fdiv (fac3 x y w)
noncomputable def ptW(x y w:Int):Int:=w.fdiv (fac3 x y w)
def pt_mk(h:w≠0)(lx:x.natAbs<2^n)(ly:y.natAbs<2^n)(lw:w.natAbs<2^n):Pt n (ptX x y w) (ptY x y w) (ptW x y w):=pt_of (Y3 x y w) (Zn h) lx ly lw
def VW(x y w:Int):ptX x y w*fac3 x y w=x:=wl (XR _ _ _ _ (Wc x y w))
def ZT(x y w:Int):ptY x y w*fac3 x y w=y:=wl (XR _ _ _ _ (WA x y w))
def Vv(x y w:Int):ptW x y w*fac3 x y w=w:=wl (XR _ _ _ _ (qT x y w))
def Zj{a b f:Int}(e1:a*f=x)(e2:b*f=w):a*w=x*b:=by
 rw[←e1,←e2,UE b f,Int.mul_assoc]
end My
namespace My
variable{x y w:Int}
theorem g3_gt(hw:0<w):0<G (G x y) w:=by
 rw[G3];have:=Y4 (a:=x) (b:=y) (c:=w) (by lia)
 lia
theorem Y7(hw:0<w):G (G x y) w≠0:=by have:=g3_gt (x:=x) (y:=y) hw;lia
def ZF(x y w:Int):(G (G x y) w).natAbs=g3 x y w:=by rw[G3];simp
theorem g3_lt{n:Nat}(hw:0<w)(lw:w.natAbs<2^n):(G (G x y) w).natAbs<2^n:=by
 rw[ZF];exact Ud (HS (by lia) (CC _ _)) lw
def g3_pt{n:Nat}(hw:0<w)(lx:x.natAbs<2^n)(ly:y.natAbs<2^n)(lw:w.natAbs<2^n):Pt n (x.fdiv (G (G x y) w)) (y.fdiv (G (G x y) w)) (w.fdiv (G (G x y) w)):=
 pt_of (ZF x y w) (.inl ⟨g3_gt hw,hw⟩) lx ly lw
end My
namespace My
end My
namespace My
noncomputable def sgn(z:Int):Int:=if 0<z then 1 else if z<0 then-1 else 0
variable{z:Int}
def sgn_pos(h:0<z):sgn z=1:=if_pos h
theorem sgn_neg(h:z<0):sgn z= -1:=by unfold sgn;rw[if_neg (by lia),if_pos h]
def vY:sgn 0=0:=by decide
theorem vn(z:Int):(0<z/\sgn z=1)∨(z<0/\sgn z= -1)∨(z=0/\sgn z=0):=by
 rcases(by lia:0<z∨z<0∨z=0) with h|h|h
 ·exact .inl ⟨h,sgn_pos h⟩
 ·exact .inr (.inl ⟨h,sgn_neg h⟩)
 ·exact .inr (.inr ⟨h,by rw[h];rfl⟩)
theorem yW:sgn z=0↔z=0:=by
 rcases vn z with⟨h,e⟩|⟨h,e⟩|⟨h,e⟩<;>rw[e]<;>lia
noncomputable def bef(x1 y1 w1 x2 y2 w2:Int):Bool:=if x1*w2=x2*w1 then decide (y1*w2<y2*w1) else decide (x1*w2<x2*w1)
theorem ww{a b c u v w:Int}(hu:0<u)(hv:0<v)(hw:0<w)(h1:a*v<=b*u)(h2:b*w<=c*v):a*w<=c*u/\((a*v<b*u∨b*w<c*v)->a*w<c*u):=by
 have e1:(a*v)*w<=(b*u)*w:=Uw h1 (Qq hw);have e2:(b*w)*u<=(c*v)*u:=Uw h2 (Qq hu);have i1:v*(a*w)=(a*v)*w:=by grind
 have i2:v*(c*u)=(c*v)*u:=by grind
 have i3:(b*u)*w=(b*w)*u:=by grind
 refine⟨Int.le_of_mul_le_mul_left (by lia) hv,λh=>Int.lt_of_mul_lt_mul_left (a:=v) ?_ (Qq hv)⟩
 rcases h with h|h
 ·have:=Cp h hw;lia
 ·have:=Cp h hu;lia
theorem bef_irr(x y w:Int):bef x y w x y w=false:=by
 unfold bef;rw[if_pos rfl];exact decide_eq_false (by lia)
variable{x1 y1 w1 x2 y2 w2:Int}
theorem xh:bef x1 y1 w1 x2 y2 w2=true↔(x1*w2<x2*w1∨(x1*w2=x2*w1/\y1*w2<y2*w1)):=by
 unfold bef
 split
 ·rename_i h
  rw[decide_eq_true_iff];lia
 ·rename_i h
  rw[decide_eq_true_iff];lia
theorem vx:bef x1 y1 w1 x2 y2 w2=false↔(x2*w1<x1*w2∨(x1*w2=x2*w1/\y2*w1<=y1*w2)):=by
 rw[←Dv,xh];lia
theorem zcz{x3 y3 w3:Int}(h1:0<w1)(h2:0<w2)(h3:0<w3)(a:bef x1 y1 w1 x2 y2 w2=true)(b:bef x2 y2 w2 x3 y3 w3=true):bef x1 y1 w1 x3 y3 w3=true:=by
 rw[xh] at a b⊢;have X:=ww (a:=x1) (b:=x2) (c:=x3) h1 h2 h3 (by lia) (by lia)
 rcases a with a|⟨a,a'⟩
 ·exact .inl (X.2 (.inl a))
 ·rcases b with b|⟨b,b'⟩
  ·exact .inl (X.2 (.inr b))
  ·have X':=ww (a:=x3) (b:=x2) (c:=x1) h3 h2 h1 (by lia) (by lia)
   have Y:=ww (a:=y1) (b:=y2) (c:=y3) h1 h2 h3 (by lia) (by lia)
   exact .inr ⟨Int.le_antisymm X.1 X'.1,Y.2 (.inl a')⟩
theorem Zz{n:Nat}(p:Pt n x1 y1 w1)(q:Pt n x2 y2 w2)(ex:x1*w2=x2*w1)(ey:y1*w2=y2*w1):x1=x2/\y1=y2/\w1=w2:=by
 have a:=Wv x1 y1 w1 w2;have b:=Wv x2 y2 w2 w1;rw[p.one,Ht] at a;rw[q.one,Ht] at b;rw[ex,ey,UE w1 w2] at a;have hw:w1=w2:=by
  have:=p.pos;have:=q.pos;lia
 subst hw;exact⟨DI p.ne ex,DI p.ne ey,rfl⟩
theorem Z2{n:Nat}(p:Pt n x1 y1 w1)(q:Pt n x2 y2 w2)(h:bef x1 y1 w1 x2 y2 w2=bef x2 y2 w2 x1 y1 w1):x1=x2/\y1=y2/\w1=w2:=by
 cases e:bef x1 y1 w1 x2 y2 w2 with
 |true=>
  have e':=h.symm.trans e;rw[xh] at e e';lia
 |false=>
  have e':=h.symm.trans e;rw[vx] at e e';exact Zz p q (by omega) (by omega)
noncomputable def lnA(x1 y1 w1 x2 y2 w2:Int):Int:=y1*w2-w1*y2
noncomputable def lnB(x1 y1 w1 x2 y2 w2:Int):Int:=w1*x2-x1*w2
noncomputable def lnC(x1 y1 w1 x2 y2 w2:Int):Int:=x1*y2-y1*x2
noncomputable def det3(x1 y1 w1 x2 y2 w2 x3 y3 w3:Int):Int:=lnA x1 y1 w1 x2 y2 w2*x3+lnB x1 y1 w1 x2 y2 w2*y3+lnC x1 y1 w1 x2 y2 w2*w3
end My
namespace My
end My
namespace My
theorem zap(l:Int):(if 0<l then(1:Int) else 0)-(if l<0 then(1:Int) else 0)=sgn l:=by
 unfold sgn
 split<;>split<;>lia
end My
namespace My
end My
namespace My
def G_fmod(x y:Int):G y (x.fmod y)=G x y:=by
 unfold G;rw[Hg x y];have e:x.fmod y+x.fdiv y*y=x:=by rw[UE];exact Eb x y
 rw[←Co y (x.fmod y) (x.fdiv y),e]
theorem zd0{x y:Int}(h:y≠0):(x.fmod y).natAbs<y.natAbs:=by
 have h0:=Ut x h;have h1:=Int.emod_lt x h;rw[Int.fmod_eq_emod]
 split
 ·lia
 ·rename_i c
  have hn:x%y≠0:=λz=>c (.inr (Int.dvd_of_emod_eq_zero z));have hy:¬0<=y:=λz=>c (.inl z);lia
theorem G_end(x:Int):(if x<0 then-x else x)=G x 0:=by
 unfold G;rw[FT]
 split<;>lia
theorem zbf(x1 y1 w1 x2 y2 w2 x3 y3 w3:Int):x1*(y2*w3-y3*w2)-y1*(x2*w3-x3*w2)+w1*(x2*y3-x3*y2)=det3 x1 y1 w1 x2 y2 w2 x3 y3 w3:=by
 unfold det3 lnA lnB lnC;grind
theorem zdd(x1 y1 w1 x2 y2 w2:Int):det3 x1 y1 w1 x2 y2 w2 x1 y1 w1=0:=by unfold det3 lnA lnB lnC;grind
theorem zbr(x1 y1 w1 x2 y2 w2:Int):det3 x1 y1 w1 x2 y2 w2 x2 y2 w2=0:=by unfold det3 lnA lnB lnC;grind
theorem zf5{x1 y1 w1 x2 y2 w2:Int}(h:bef x1 y1 w1 x2 y2 w2=true):bef x2 y2 w2 x1 y1 w1=false:=by
 rw[xh] at h;rw[vx];lia
noncomputable def onB(x1 y1 w1 x2 y2 w2 x3 y3 w3:Int):Bool:=if sgn (det3 x1 y1 w1 x2 y2 w2 x3 y3 w3)=0 then(!bef x3 y3 w3 x1 y1 w1&& !bef x2 y2 w2 x3 y3 w3) else false
def Jd(x y:Int):g3 x y 1=1:=by unfold g3;simp
end My
namespace My
structure Q3 where
 x:Int
 y:Int
 w:Int
deriving DecidableEq
noncomputable def dt(a b c:Q3):Int:=det3 a.x a.y a.w b.x b.y b.w c.x c.y c.w
noncomputable def dX(a b:Q3):Int:=b.x*a.w-a.x*b.w
noncomputable def dY(a b:Q3):Int:=b.y*a.w-a.y*b.w
def LP(u v:Int):Prop:=0<u∨(u=0/\0<v)
def Lt(s:Int)(a b:Q3):Prop:=LP (s*dX a b) (s*dY a b)
theorem sc{s A B C u v w:Int}(e:A*u=B*v+C*w):A*(s*u)=B*(s*v)+C*(s*w):=by
 have:A*(s*u)=s*(A*u):=by grind
 rw[this,e]
 grind
end My
namespace My
variable{a b:Int}
theorem fl_lt{c d G:Int}(hb:0<b)(hd:0<d)(h:a*d<c*b)(hG:b*d<=G):a*G/b<c*G/d:=by
 have g0:0<=G:=Hh (Qq (Ab hb hd)) hG;have h0:a*G/b*b<=a*G:=Gi _ (by lia)
 have h1:=Uw h0 (Qq hd);have h2:G*(a*d+1)<=G*(c*b):=CV (by lia) g0
 refine Int.lt_of_lt_of_le (Int.lt_succ _) (Ec hd (DJ ?_ hb));generalize a*G/b=A at*
 calc (A+1)*d*b=A*b*d+b*d:=by grind
  _<=a*G*d+G:=Int.add_le_add h1 hG
  _=G*(a*d+1):=by grind
  _<=G*(c*b):=h2
  _=c*G*b:=by grind
theorem fl_eq{c d G:Int}(hb:0<b)(hd:0<d)(h:a*d=c*b):a*G/b=c*G/d:=by
 have e1:a*G/b=(a*G*d)/(b*d):=(Cg (a*G) b hd).symm;have e2:c*G/d=(c*G*b)/(d*b):=(Cg (c*G) d hb).symm;rw[e1,e2,UE d b]
 congr 1
 have:a*G*d=G*(a*d):=by grind
 rw[this,h]
 grind
noncomputable def bq(a b:Q3):Bool:=bef a.x a.y a.w b.x b.y b.w
variable{a b:Q3}
theorem va:bq a b=true↔Lt 1 a b:=by
 unfold bq Lt LP dX dY;rw[xh];lia
def PQ(n:Nat)(a:Q3):Prop:=Pt n a.x a.y a.w
def YE{n:Nat}(ha:PQ n a)(hb:PQ n b)(h1:bq a b=false)(h2:bq b a=false):a=b:=by
 obtain⟨e1,e2,e3⟩:=Z2 ha hb (h1.trans h2.symm);obtain⟨x,y,w⟩:=a;obtain⟨x',y',w'⟩:=b
 simp only at e1 e2 e3
 rw[e1,e2,e3]
noncomputable def kyQ(g:Int)(r:Q3):Int×Int:=(r.x*(g*g)/r.w,r.y*(g*g)/r.w)
theorem Yl{g:Int}(ha:0<a.w)(hb:0<b.w)(ga:a.w<=g)(gb:b.w<=g)(h:bq a b=true):L2.lt2 (kyQ g a) (kyQ g b)=true:=by
 have hG:a.w*b.w<=g*g:=Int.mul_le_mul ga gb (Qq hb) (Hh (Qq ha) ga);unfold bq at h;rw[xh] at h;unfold L2.lt2 L2.lexB kyQ;rcases h with h|⟨h,h'⟩
 ·have:=fl_lt ha hb h hG;rw[if_neg (by lia)]
  exact decide_eq_true this
 ·rw[if_pos (fl_eq ha hb h)];exact decide_eq_true (fl_lt ha hb h' hG)
end My
namespace Mine
open PySem L2 My
local macro_rules
  | `(tactic| simp! [$xs,*]) => do let f := fun (s : String) => (s.splitOn " ").toArray.map fun x => Lean.mkIdent x.toName; let p := f "y_next y_seq y_ret y_ifS y_asg y_drop y_par y_c y_op y_un y_rI y_rI0 y_rU y_eq y_ne y_test y_B y_not y_and y_or y_yes y_andV y_notV y_if y_cb y_call y_nil y_cons y_tup y_lst y_gnil y_gcons y_gtup y_gsub y_ixT y_ixL y_len y_list y_slH y_isi y_append y_clear y_nopart y_part y_sl y_bm0 y_bm yB_bl yI_int yTw_two yX_0 yX_1 yX_2 y_v0 y_v1 y_v2 y_v3 y_v4 y_v5 y_v6 y_v7 y_v8 y_v9 y_v10 y_v11 y_n0 y_n1 y_n2 y_n3 y_n4 y_n5 y_n6 y_n7 y_n8 y_n9 y_n10 y_n11 y_n12 y_n13"; let q := f "yB yI yTw yX yJ ym_tup ym_lst ym_two ym_ty gName tVar rI rI0 rU rEq rNe gTup gCons gNil L2.start rIsi rIxT rIxL cx_K tyN_non tyN_bl tyN_int tyN_str isi_ii isi_ib isi_tt isi_ll scal_ii scal_bb sz0 sz1 sz2 sz3 sz4 List.map_cons List.map_nil List.length_cons List.length_nil List.replicate List.cons_append List.nil_append List.append_nil List.getElem?_cons_zero List.getElem?_cons_succ List.set_cons_zero List.set_cons_succ Option.some.injEq V.int.injEq V.bl.injEq V.ref.injEq V.ty.injEq List.cons.injEq and_true true_and exists_eq_left exists_eq_left' exists_and_left exists_and_right exists_eq exists_eq' and_assoc Nat.reduceAdd Nat.reduceSub Bool.not_true Bool.not_false Bool.false_eq_true if_true if_false reduceIte Nat.zero_add decide_true decide_false selC comp_K Option.join_some rIxTH rIxLH rLenH rIsiF at0 at1 at2 at3 at4 HO.tup.injEq HO.lst.injEq reduceCtorEq false_or or_false tyF_non tyF_bl tyF_int tyF_str exists_const Int.reduceAdd Int.reduceMul Int.reduceSub rSetL rSlH upd_same upd_upd rListH rAppend rClear gTupH"; `(tactic| simp only [$[↓$p:term],*, $[$q:term],*, $xs,*])
local macro_rules
  | `(tactic| dsimp! [$xs,*]) => `(tactic| simp only [List.map_cons, List.map_nil, List.length_cons, List.length_nil, List.replicate, List.cons_append, List.nil_append, Nat.reduceAdd, Nat.reduceSub, Nat.zero_add, $xs,*])
noncomputable def top(i:Nat):Stmt:=PySem.Challenge.pw_acre_k15_pieces_end_to_end.main.body.getD i (.Pass ⟨0,0,0,0⟩)
abbrev Xo:Stmt:=top 4
def zf3:zA ["thing"] ["thing"] (zp Xo):=zJ rfl (by decide+kernel)
abbrev Wx:Stmt:=top 5
def vP:zA ["one","other","great","small","rest"] ["one","other"] (zp Wx):=zJ rfl (by decide+kernel)
abbrev X3:Stmt:=top 7
def Xk:zA ["x","y","w","factor"] ["x","y","w"] (zp X3):=zJ rfl (by decide+kernel)
abbrev XQ:Stmt:=top 8
def Xg:zA ["P","Q","left","right"] ["P","Q"] (zp XQ):=zJ rfl (by decide+kernel)
abbrev Xh:Stmt:=top 9
def zbo:zA ["number"] ["number"] (zp Xh):=zJ rfl (by decide+kernel)
abbrev Wp:Stmt:=top 10
def zbu:zA ["P","Q"] ["P","Q"] (zp Wp):=zJ rfl (by decide+kernel)
abbrev WT:Stmt:=top 11
def zcx:zA ["line","P"] ["line","P"] (zp WT):=zJ rfl (by decide+kernel)
abbrev YX:Stmt:=top 12
def Yb:zA ["one","other","w","x","y"] ["one","other"] (zp YX):=zJ rfl (by decide+kernel)
abbrev XZ:Stmt:=top 13
def vO:zA ["points","greatest","scale","keys","P"] ["points"] (zp XZ):=zJ rfl (by decide+kernel)
abbrev xE:Stmt:=top 14
def Zr:zA ["points","keys"] ["points"] (zp xE):=zJ rfl (by decide+kernel)
abbrev xv:Stmt:=top 15
def qX:zA ["things","points","thing","keys"] ["things"] (zp xv):=zJ rfl (by decide+kernel)
abbrev Wh:Stmt:=top 17
def WJ:zA ["stretches","ends","S"] ["stretches"] (zp Wh):=zJ rfl (by decide+kernel)
abbrev Xp:Stmt:=top 18
def vz:zA ["one","other","line","sides","other_line","other_sides","end","side"] ["one","other"] (zp Xp):=zJ rfl (by decide+kernel)
abbrev jO:Stmt:=top 19
def XO:zA ["one","other","first","second"] ["one","other"] (zp jO):=zJ rfl (by decide+kernel)
abbrev XX:Stmt:=top 21
def YI:zA ["stretches","lying"] ["stretches"] (zp XX):=zJ rfl (by decide+kernel)
abbrev XM:Stmt:=top 22
def Yf:zA ["P","numbers","stretches","begins","through","ends"] ["P","numbers","stretches"] (zp XM):=zJ rfl (by decide+kernel)
abbrev XT:Stmt:=top 23
def w5:zA ["stretches","lying","number","S","P","one","other"] ["stretches"] (zp XT):=zJ rfl (by decide+kernel)
abbrev XF:Stmt:=top 24
def sc_note:zA ["lying","P","number"] ["lying","P","number"] (zp XF):=zJ rfl (by decide+kernel)
abbrev Ws:Stmt:=top 25
def zcj:zA ["common"] ["common"] (zp Ws):=zJ rfl (by decide+kernel)
abbrev xA:Stmt:=top 26
def yU:zA ["stretches","keys","lows","highs","lasts","pairs","standing","number","first","low","high","near"] ["stretches"] (zp xA):=zJ rfl (by decide+kernel)
abbrev Wa:Stmt:=top 27
def wm:zA ["stretches","owners","reached","P","begins","through","ends","number"] ["stretches"] (zp Wa):=zJ rfl (by decide+kernel)
abbrev WX:Stmt:=top 29
def zbj:zA ["_law_script","_law_k"] ["_law_script","_law_k"] (zp WX):=zJ rfl (by decide+kernel)
abbrev YS:Stmt:=top 30
def zcu:zA ["_law_found"] ["_law_found"] (zp YS):=zJ rfl (by decide+kernel)
abbrev Xa:Stmt:=top 31
def qo:zA ["_law_cell","_law_many","_law_found","_law_number","_law_k"] ["_law_cell","_law_many"] (zp Xa):=zJ rfl (by decide+kernel)
abbrev Wl:Stmt:=top 32
def JJ:zA ["_law_one","_law_other"] ["_law_one","_law_other"] (zp Wl):=zJ rfl (by decide+kernel)
abbrev X0:Stmt:=top 33
def JY:zA ["_law_x","_law_y","_law_w","_law_share"] ["_law_x","_law_y","_law_w"] (zp X0):=zJ rfl (by decide+kernel)
abbrev WP:Stmt:=top 34
def WL:zA ["_law_number","_law_kind","_law_x","_law_y"] ["_law_number","_law_kind"] (zp WP):=zJ rfl (by decide+kernel)
abbrev Xf:Stmt:=top 35
def ze0:zA ["_law_one","_law_other"] ["_law_one","_law_other"] (zp Xf):=zJ rfl (by decide+kernel)
abbrev XL:Stmt:=top 36
def Yi:zA ["_law_a","_law_b","_law_c","_law_found"] ["_law_a","_law_b","_law_c"] (zp XL):=zJ rfl (by decide+kernel)
abbrev XB:Stmt:=top 37
def zcg:zA ["_law_spot","_law_part_here"] ["_law_spot","_law_part_here"] (zp XB):=zJ rfl (by decide+kernel)
abbrev WF:Stmt:=top 38
def zbs:zA ["_law_found"] ["_law_found"] (zp WF):=zJ rfl (by decide+kernel)
abbrev YN:Stmt:=top 39
def zbi:zA ["_law_found"] ["_law_found"] (zp YN):=zJ rfl (by decide+kernel)
abbrev jF:Stmt:=top 40
def Ja:zA ["_law_one","_law_other"] ["_law_one","_law_other"] (zp jF):=zJ rfl (by decide+kernel)
abbrev W3:Stmt:=top 41
def x6:zA ["_law_xs","_law_many","_law_middle","_law_parts","_law_k","_law_number","_law_x","_law_y","_law_far","_law_near","_law_one","_law_other"] ["_law_xs","_law_many"] (zp W3):=zJ rfl (by decide+kernel)
abbrev WB:Stmt:=top 42
def vW:zA ["_law_xs","_law_many","_law_parts","_law_k","_law_at","_law_low","_law_long"] ["_law_xs","_law_many"] (zp WB):=zJ rfl (by decide+kernel)
abbrev XU:Stmt:=top 43
def wT:zA ["_law_xs","_law_many","_law_way","_law_parts","_law_k","_law_low","_law_high","_law_part_here"] ["_law_xs","_law_many"] (zp XU):=zJ rfl (by decide+kernel)
abbrev Wt:Stmt:=top 44
def YK:zA ["_law_cell","_law_many","_law_kind","_law_xs","_law_parts"] ["_law_cell","_law_many","_law_kind"] (zp Wt):=zJ rfl (by decide+kernel)
abbrev XG:Stmt:=top 45
def qS:zA ["_law_cell","_law_many","_law_low","_law_parts"] ["_law_cell"] (zp XG):=zJ rfl (by decide+kernel)
abbrev X8:Stmt:=top 46
def jy:zA ["_law_parts","_law_far","_law_found","_law_one","_law_other","_law_first"] ["_law_parts","_law_far"] (zp X8):=zJ rfl (by decide+kernel)
abbrev vA:Stmt:=top 47
def xH:zA ["_law_script","_law_start","_law_most","_law_first","_law_cell","_law_many","_law_parts","_law_k","_law_at","_law_one"] ["_law_script","_law_start","_law_most"] (zp vA):=zJ rfl (by decide+kernel)
abbrev Y8:Stmt:=top 48
def YJ:zA ["_law_row_here","_law_parts","_law_due"] ["_law_row_here","_law_parts"] (zp Y8):=zJ rfl (by decide+kernel)
abbrev WK:Stmt:=top 49
def Ya:zA ["_law_rows","_law_number","_law_part_here","_law_spot","_law_row_here"] ["_law_rows","_law_number","_law_part_here"] (zp WK):=zJ rfl (by decide+kernel)
abbrev WQ:Stmt:=top 50
def zek:zA ["_law_one","_law_other"] ["_law_one","_law_other"] (zp WQ):=zJ rfl (by decide+kernel)
abbrev X5:Stmt:=top 51
def xw:zA ["_law_script","_law_parts","_law_handed","_law_found","_law_known","_law_row_here","_law_one","_law_other","_law_number","_law_kept","_law_old"] ["_law_script"] (zp X5):=zJ rfl (by decide+kernel)
def Fd(K:pF)(x:Str)(st:Stmt)(f:Addr)(fd:UN):Prop:=Qj K uV x=some (some (.ref f))/\Fun K x x st f fd
def fd_mk{K:pF}{x:Str}{st:Stmt}{f:Addr}{oc:pB}{od an:Option Addr}{sl:Array (Option pB)}{kV dc pm cd ct:pB}(a:Qj K uV x=some (some (.ref f)))(l:K.lookup f=some ⟨oc,od,.func (UA x x (xt st) (yD st) (zp st) .none kV dc pm an cd ct),sl⟩)(c:gY K cd x=true)(k:AO K (.ref f)=true):Fd K x st f (UA x x (xt st) (yD st) (zp st) .none kV dc pm an cd ct):=⟨a,Yg l c k⟩
def Fd.at{K:pF}{h:Heap}{mg:Str->Option pB}{x:Str}{st:Stmt}{f:Addr}{d:UN}{ps:List Str}(q:Fd K x st f d)(X:K.In h)(G:h.Ns uV mg)(b:∀(kV doc pm:pB)(an:Option Addr)(cdv ct:pB)(us:List pB),us.length=ps.length->AF (UA x x (xt st) (yD st) (zp st) .none kV doc pm an cdv ct) ⟨us,[]⟩=pure (ps.zip us)):zG K mg x st ps f d:=⟨q.2,q.2.binds b,HU X G q.1⟩
structure Txt(K:pF)(mg:Str->Option pB)(ad:Nat->Addr)(fd:Nat->UN):Prop where
 is_whole:zG K mg "is_whole" Xo ["thing"] (ad 0) (fd 0)
 divisor:zG K mg "divisor" Wx ["one","other"] (ad 1) (fd 1)
 point:zG K mg "point" X3 ["x","y","w"] (ad 2) (fd 2)
 before:zG K mg "before" XQ ["P","Q"] (ad 3) (fd 3)
 sign_of:zG K mg "sign_of" Xh ["number"] (ad 4) (fd 4)
 line_of:zG K mg "line_of" Wp ["P","Q"] (ad 5) (fd 5)
 side_of:zG K mg "side_of" WT ["line","P"] (ad 6) (fd 6)
 met:zG K mg "met" YX ["one","other"] (ad 7) (fd 7)
 order_keys:zG K mg "order_keys" XZ ["points"] (ad 8) (fd 8)
 in_order:zG K mg "in_order" xE ["points"] (ad 9) (fd 9)
 in_order_c:wQ K "in_order" "in_order" xE (ad 9) (fd 9) (ad 44) (ad 45)
 by_points:zG K mg "by_points" xv ["things"] (ad 10) (fd 10)
 by_points_c:wQ K "by_points" "by_points" xv (ad 10) (fd 10) (ad 46) (ad 47)
 ends_of:zG K mg "ends_of" Wh ["stretches"] (ad 11) (fd 11)
 meet:zG K mg "meet" Xp ["one","other"] (ad 12) (fd 12)
 meet_on_line:zG K mg "meet_on_line" jO ["one","other"] (ad 13) (fd 13)
 stops:zG K mg "stops" XX ["stretches"] (ad 14) (fd 14)
 stop_at:zG K mg "stop_at" XM ["P","numbers","stretches"] (ad 15) (fd 15)
 lying_at:zG K mg "lying_at" XT ["stretches"] (ad 16) (fd 16)
 note:zG K mg "note" XF ["lying","P","number"] (ad 17) (fd 17)
 shared_ends:zG K mg "shared_ends" Ws ["common"] (ad 18) (fd 18)
 near_pairs:zG K mg "near_pairs" xA ["stretches"] (ad 19) (fd 19)
 near_pairs_c:wQ K "near_pairs" "near_pairs" xA (ad 19) (fd 19) (ad 48) (ad 49)
 pieces:zG K mg "pieces" Wa ["stretches"] (ad 20) (fd 20)
 law_cell_at:zG K mg "_law_cell_at" WX ["_law_script","_law_k"] (ad 21) (fd 21)
 law_whole:zG K mg "_law_whole" YS ["_law_found"] (ad 22) (fd 22)
 law_stream:zG K mg "_law_stream" Xa ["_law_cell","_law_many"] (ad 23) (fd 23)
 law_divisor:zG K mg "_law_divisor" Wl ["_law_one","_law_other"] (ad 24) (fd 24)
 law_lowest:zG K mg "_law_lowest" X0 ["_law_x","_law_y","_law_w"] (ad 25) (fd 25)
 law_point:zG K mg "_law_point" WP ["_law_number","_law_kind"] (ad 26) (fd 26)
 law_before:zG K mg "_law_before" Xf ["_law_one","_law_other"] (ad 27) (fd 27)
 law_turn:zG K mg "_law_turn" XL ["_law_a","_law_b","_law_c"] (ad 28) (fd 28)
 law_on:zG K mg "_law_on" XB ["_law_spot","_law_part_here"] (ad 29) (fd 29)
 law_is_point:zG K mg "_law_is_point" WF ["_law_found"] (ad 30) (fd 30)
 law_is_stretch:zG K mg "_law_is_stretch" YN ["_law_found"] (ad 31) (fd 31)
 law_part:zG K mg "_law_part" jF ["_law_one","_law_other"] (ad 32) (fd 32)
 law_fan:zG K mg "_law_fan" W3 ["_law_xs","_law_many"] (ad 33) (fd 33)
 law_net:zG K mg "_law_net" WB ["_law_xs","_law_many"] (ad 34) (fd 34)
 law_row:zG K mg "_law_row" XU ["_law_xs","_law_many"] (ad 35) (fd 35)
 law_drawn:zG K mg "_law_drawn" Wt ["_law_cell","_law_many","_law_kind"] (ad 36) (fd 36)
 law_comb:zG K mg "_law_comb" XG ["_law_cell"] (ad 37) (fd 37)
 law_put_off:zG K mg "_law_put_off" X8 ["_law_parts","_law_far"] (ad 38) (fd 38)
 law_stretches:zG K mg "_law_stretches" vA ["_law_script","_law_start","_law_most"] (ad 39) (fd 39)
 law_piece:zG K mg "_law_piece" Y8 ["_law_row_here","_law_parts"] (ad 40) (fd 40)
 law_chain:zG K mg "_law_chain" WK ["_law_rows","_law_number","_law_part_here"] (ad 41) (fd 41)
 law_ahead:zG K mg "_law_ahead" WQ ["_law_one","_law_other"] (ad 42) (fd 42)
 law:zG K mg "law" X5 ["_law_script"] (ad 43) (fd 43)
 tne01:ad 45≠ad 47
 tne02:ad 45≠ad 49
 tne12:ad 47≠ad 49
 b_abs:mg "abs"=none
 b_bool:mg "bool"=none
 b_enumerate:mg "enumerate"=none
 b_int:mg "int"=none
 b_isinstance:mg "isinstance"=none
 b_len:mg "len"=none
 b_list:mg "list"=none
 b_max:mg "max"=none
 b_min:mg "min"=none
 b_range:mg "range"=none
 b_sorted:mg "sorted"=none
 b_tuple:mg "tuple"=none
 b_zip:mg "zip"=none
def je:Sp:=λvs H Q _=>∃i:Int,vs=[.int i]/\Q (.bl true) H
def jT:Sp:=λvs H Q _=>∃a b:Int,vs=[.int a,.int b]/\Q (.int (G a b)) H
def zb3(a b:Int)(H₀:Hp):St->Hp->Prop:=λσ H'=>H'=H₀/\∃(x y:Int)(r:Option V),σ=[some (.int a),some (.int b),some (.int x),some (.int y),r]/\0<=x/\0<=y/\G x y=G a b
def Js(K:pF):Sp:=λvs H Q _=>∃(l:Addr)(ns:List Int)(k:Int),vs=[.ref l,.int k]/\SqL K H l (ns.map V.int)/\0<=k/\Q (.int (ns.getD k.toNat 0)) H
def PtH(n:Nat)(H:Hp)(p:Addr)(x y w:Int):Prop:=H p=some (.tup [.int x,.int y,.int w])/\Pt n x y w
variable{y:Int}
def PtH.same{n:Nat}{H H':Hp}{p:Addr}{x w:Int}(h:PtH n H p x y w)(g:zg H H'):PtH n H' p x y w:=⟨g _ _ h.1,h.2⟩
variable{m:Nat}
def PtH.mono{n:Nat}{H:Hp}{p:Addr}{x w:Int}(h:PtH m H p x y w)(hm:m<=n):PtH n H p x y w:=⟨h.1,h.2.mono hm⟩
def Bd3(n:Nat)(a b c:Int):Prop:=a.natAbs<2^n/\b.natAbs<2^n/\c.natAbs<2^n
def TB(n:Nat)(H:Hp)(p:Addr)(x y w:Int):Prop:=H p=some (.tup [.int x,.int y,.int w])/\Bd3 n x y w
def Bd3.mono{n:Nat}{x w:Int}(h:Bd3 m x y w)(hm:m<=n):Bd3 n x y w:=⟨zU h.1 hm,zU h.2.1 hm,zU h.2.2 hm⟩
def TB.mono{n:Nat}{H:Hp}{p:Addr}{x w:Int}(h:TB m H p x y w)(hm:m<=n:=by decide):TB n H p x y w:=⟨h.1,h.2.mono hm⟩
def Pt.bd{n:Nat}{x w:Int}(h:Pt m x y w)(hm:m<=n:=by decide):Bd3 n x y w:=⟨zU h.lx hm,zU h.ly hm,zU h.lw hm⟩
def PtH.tb{n:Nat}{H:Hp}{p:Addr}{x w:Int}(h:PtH m H p x y w)(hm:m<=n:=by decide):TB n H p x y w:=⟨h.1,Pt.bd h.2 hm⟩
def Ju:Sp:=λvs H Q _=>∃a b w:Int,vs=[.int a,.int b,.int w]/\w≠0/\w.natAbs<2^8000/\∀p H',zg H H'->H' p=some (.tup [.int (ptX a b w),.int (ptY a b w),.int (ptW a b w)])->Q (.ref p) H'
def zea:Sp:=λvs H Q _=>∃(p:Addr)(x y w:Int),vs=[.ref p]/\H p=some (.tup [.int x,.int y,.int w])/\0<w/\g3 x y w=1/\Q (.bl true) H
def Xb:Sp:=λvs H Q _=>∃(p q:Addr)(x1 y1 w1 x2 y2 w2:Int),vs=[.ref p,.ref q]/\TB 1000 H p x1 y1 w1/\TB 1000 H q x2 y2 w2/\Q (.bl (bef x1 y1 w1 x2 y2 w2)) H
def Jb:Sp:=λvs H Q _=>∃z:Int,vs=[.int z]/\Q (.int (sgn z)) H
def sp_line:Sp:=λvs H Q _=>∃(p q:Addr)(x1 y1 w1 x2 y2 w2:Int),vs=[.ref p,.ref q]/\TB 1000 H p x1 y1 w1/\TB 1000 H q x2 y2 w2/\∀(r:Addr)(H':Hp),zg H H'->H' r=some (.tup [.int (lnA x1 y1 w1 x2 y2 w2),.int (lnB x1 y1 w1 x2 y2 w2),.int (lnC x1 y1 w1 x2 y2 w2)])->Q (.ref r) H'
def vL{x1 y1 w1 x2 y2 w2:Int}(p:Bd3 1000 x1 y1 w1)(q:Bd3 1000 x2 y2 w2):Bd3 2001 (lnA x1 y1 w1 x2 y2 w2) (lnB x1 y1 w1 x2 y2 w2) (lnC x1 y1 w1 x2 y2 w2):=
 ⟨xm (zS p.2.1 q.2.2) (zS p.2.2 q.2.1),xm (zS p.2.2 q.1) (zS p.1 q.2.2),xm (zS p.1 q.2.1) (zS p.2.1 q.1)⟩
def sp_side:Sp:=λvs H Q _=>∃(l p:Addr)(a b c x y w:Int),vs=[.ref l,.ref p]/\H l=some (.tup [.int a,.int b,.int c])/\Bd3 2001 a b c/\H p=some (.tup [.int x,.int y,.int w])/\Bd3 5000 x y w/\Q (.int (sgn (a*x+b*y+c*w))) H
def sp_met:Sp:=λvs H Q _=>∃(p q:Addr)(a b c a' b' c':Int),vs=[.ref p,.ref q]/\H p=some (.tup [.int a,.int b,.int c])/\Bd3 2001 a b c/\H q=some (.tup [.int a',.int b',.int c'])/\Bd3 2001 a' b' c'/\(a*b'-b*a'=0->Q .non H)/\(a*b'-b*a'≠0->∀(r:Addr)(H':Hp),zg H H'->H' r=some (.tup [.int (ptX (b*c'-c*b') (c*a'-a*c') (a*b'-b*a')),.int (ptY (b*c'-c*b') (c*a'-a*c') (a*b'-b*a')),.int (ptW (b*c'-c*b') (c*a'-a*c') (a*b'-b*a'))])->Q (.ref r) H')
def yF(H H':Hp):Prop:=∀b xs,H b=some (.tup xs)->H' b=some (.tup xs)
def zI{H H':Hp}(g:zg H H'):yF H H':=λb xs h=>g b _ h
def xX{H:Hp}{D:Addr}{ys:List V}{o:HO}(h:H D=some (.lst ys)):yF H (upd H D o):=λb xs q=>by
 rw[zh (ne_of q h (by intro z;cases z))]
 exact q
def iv_ldiv(a b:Int)(H₀:Hp):St->Hp->Prop:=λσ H'=>H'=H₀/\∃x y:Int,σ=[some (.int x),some (.int y)]/\G x y=G a b
def zdz:Sp:=λvs H Q _=>∃(p q r:Addr)(x1 y1 w1 x2 y2 w2 x3 y3 w3:Int),vs=[.ref p,.ref q,.ref r]/\TB 1000 H p x1 y1 w1/\TB 1000 H q x2 y2 w2/\TB 5000 H r x3 y3 w3/\Q (.int (sgn (det3 x1 y1 w1 x2 y2 w2 x3 y3 w3))) H
def zf1:Sp:=λvs H Q _=>∃(s a b:Addr)(x1 y1 w1 x2 y2 w2:Int),vs=[.ref s]/\H s=some (.tup [.ref a,.ref b])/\PtH 1000 H a x1 y1 w1/\PtH 1000 H b x2 y2 w2/\bef x1 y1 w1 x2 y2 w2=true/\Q (.bl true) H
def Vl:Sp:=λvs H Q _=>∃(p s a b:Addr)(x1 y1 w1 x2 y2 w2 x3 y3 w3:Int),vs=[.ref p,.ref s]/\H s=some (.tup [.ref a,.ref b])/\TB 1000 H a x1 y1 w1/\TB 1000 H b x2 y2 w2/\TB 1000 H p x3 y3 w3/\Q (.bl (onB x1 y1 w1 x2 y2 w2 x3 y3 w3)) H
theorem zak(xs:List V):yr xs (some 1) none=xs.drop 1:=by
 unfold yr;rw[show(1:Int)=((1:Nat):Int) from rfl,HT.sIx_nat,HT.sIx_none];rcases xs with _|⟨x,xs⟩
 ·rfl
 ·rw[AC (by rw[uZ];lia),pz (by rw[pg];lia)]
noncomputable def on3(a b p:Q3):Bool:=onB a.x a.y a.w b.x b.y b.w p.x p.y p.w
def Q3.ext'{a b:Q3}(h:a.x=b.x/\a.y=b.y/\a.w=b.w):a=b:=by
 cases a;cases b;obtain⟨h1,h2,h3⟩:=h
 cases h1;cases h2;cases h3;rfl
variable{k v:Int}
theorem JN{c d p:Q3}{u:Int}(hk:0<k)(hu:0<=u)(hv:0<=v)(ex:k*p.x=u*c.x+v*d.x)(ey:k*p.y=u*c.y+v*d.y)(ew:k*p.w=u*c.w+v*d.w)(hb:bq c d=true):on3 c d p=true:=by
 unfold bq at hb;rw[xh] at hb;have dz:det3 c.x c.y c.w d.x d.y d.w p.x p.y p.w=0:=by
  refine(uU.mp (show k*det3 c.x c.y c.w d.x d.y d.w p.x p.y p.w=0 from ?_)).resolve_left (by lia)
  have:k*det3 c.x c.y c.w d.x d.y d.w p.x p.y p.w=lnA c.x c.y c.w d.x d.y d.w*(k*p.x)+lnB c.x c.y c.w d.x d.y d.w*(k*p.y)+lnC c.x c.y c.w d.x d.y d.w*(k*p.w):=by unfold det3;grind
  rw[this,ex,ey,ew];unfold lnA lnB lnC;grind
 have x1:k*(p.x*c.w-c.x*p.w)=v*(d.x*c.w-c.x*d.w):=by
  calc _=(k*p.x)*c.w-c.x*(k*p.w):=by grind
   _=_:=by rw[ex,ew];grind
 have y1:k*(p.y*c.w-c.y*p.w)=v*(d.y*c.w-c.y*d.w):=by
  calc _=(k*p.y)*c.w-c.y*(k*p.w):=by grind
   _=_:=by rw[ey,ew];grind
 have x2:k*(d.x*p.w-p.x*d.w)=u*(d.x*c.w-c.x*d.w):=by
  calc _=d.x*(k*p.w)-(k*p.x)*d.w:=by grind
   _=_:=by rw[ex,ew];grind
 have y2:k*(d.y*p.w-p.y*d.w)=u*(d.y*c.w-c.y*d.w):=by
  calc _=d.y*(k*p.w)-(k*p.y)*d.w:=by grind
   _=_:=by rw[ey,ew];grind
 have sg:∀{z t r:Int},k*z=t*r->0<=t->0<r->0<=z/\(z=0->t=0):=λ{z t r} e ht hr=>by
  have h0:0<=t*r:=gh ht (Qq hr);refine⟨?_,λhz=>?_⟩
  ·rcases CD z 0 with q|q
   ·have:=Int.mul_neg_of_pos_of_neg hk q;lia
   ·exact q
  ·rw[hz,Fv] at e;exact(uU.mp e.symm).resolve_right (by lia)
 have zz:∀{z t r:Int},k*z=t*r->t=0∨r=0->z=0:=λ{z t r} e h=>by
  have:t*r=0:=Int.mul_eq_zero.mpr h;rw[this] at e;exact(uU.mp e).resolve_left (by lia)
 have b1:bef p.x p.y p.w c.x c.y c.w=false:=by
  rw[vx];rcases hb with hb|⟨hb,hy⟩
  ·obtain⟨n1,n2⟩:=sg x1 hv (by lia)
   by_cases q:p.x*c.w-c.x*p.w=0
   ·have:=zz y1 (.inl (n2 q));exact .inr ⟨by lia,by lia⟩
   ·exact .inl (by lia)
  ·have q:=zz x1 (.inr (by lia))
   obtain⟨n1,n2⟩:=sg y1 hv (by lia)
   exact .inr ⟨by lia,by lia⟩
 have b2:bef d.x d.y d.w p.x p.y p.w=false:=by
  rw[vx];rcases hb with hb|⟨hb,hy⟩
  ·obtain⟨n1,n2⟩:=sg x2 hu (by lia)
   by_cases q:d.x*p.w-p.x*d.w=0
   ·have:=zz y2 (.inl (n2 q));exact .inr ⟨by lia,by lia⟩
   ·exact .inl (by lia)
  ·have q:=zz x2 (.inr (by lia))
   obtain⟨n1,n2⟩:=sg y2 hu (by lia)
   exact .inr ⟨by lia,by lia⟩
 unfold on3 onB;rw[dz,vY,if_pos rfl,b1,b2];rfl
theorem btw{c d p:Q3}{u:Int}(hp:0<p.w)(hc:0<c.w)(hd:0<d.w)(hk:k≠0)(h:(0<=u/\0<=v)∨(u<=0/\v<=0))(ex:k*p.x=u*c.x+v*d.x)(ey:k*p.y=u*c.y+v*d.y)(ew:k*p.w=u*c.w+v*d.w)(hb:bq c d=true):on3 c d p=true:=by
 rcases h with⟨hu,hv⟩|⟨hu,hv⟩
 ·have h1:=gh hu (Qq hc);have h2:=gh hv (Qq hd);have kp:0<k:=by
   rcases CD k 0 with q|q
   ·have:=Qy q hp;lia
   ·lia
  exact JN kp hu hv ex ey ew hb
 ·have h1:=gh (show 0<= -u by lia) (Qq hc)
  have h2:=gh (show 0<= -v by lia) (Qq hd)
  rw[UQ] at h1 h2;have kp:0< -k:=by
   rcases CD k 0 with q|q
   ·lia
   ·have:=Ab (show 0<k by lia) hp
    lia
  refine JN kp (show 0<= -u by lia) (show 0<= -v by lia) ?_ ?_ ?_ hb
  ·rw[UQ,UQ,UQ];lia
  ·rw[UQ,UQ,UQ];lia
  ·rw[UQ,UQ,UQ];lia
theorem vE(a b c d:Q3):dt a b d*c.x+ -dt a b c*d.x=dt c d a*b.x+ -dt c d b*a.x:=by unfold dt det3 lnA lnB lnC;grind
theorem vi(a b c d:Q3):dt a b d*c.y+ -dt a b c*d.y=dt c d a*b.y+ -dt c d b*a.y:=by unfold dt det3 lnA lnB lnC;grind
theorem w4(a b c d:Q3):dt a b d*c.w+ -dt a b c*d.w=dt c d a*b.w+ -dt c d b*a.w:=by unfold dt det3 lnA lnB lnC;grind
theorem XS{s t:Int}(h:sgn s≠sgn t):(0<=t/\0<= -s)∨(t<=0/\ -s<=0):=by
 rcases vn s with⟨h1,e1⟩|⟨h1,e1⟩|⟨h1,e1⟩<;>rcases vn t with⟨h2,e2⟩|⟨h2,e2⟩|⟨h2,e2⟩<;>rw[e1,e2] at h<;>lia
theorem meet_on{a b c d p:Q3}(ha:0<a.w)(hb:0<b.w)(hc:0<c.w)(hd:0<d.w)(hp:0<p.w)(hk:k≠0)(bab:bq a b=true)(bcd:bq c d=true)(hs:sgn (dt a b c)≠sgn (dt a b d))(ht:sgn (dt c d a)≠sgn (dt c d b))
  (ex:k*p.x=dt a b d*c.x+ -dt a b c*d.x)(ey:k*p.y=dt a b d*c.y+ -dt a b c*d.y)(ew:k*p.w=dt a b d*c.w+ -dt a b c*d.w):on3 a b p=true/\on3 c d p=true:=by
 refine⟨?_,btw hp hc hd hk (XS hs) ex ey ew bcd⟩;rw[vE,Fw] at ex;rw[vi,Fw] at ey;rw[w4,Fw] at ew;refine btw hp ha hb hk ?_ ex ey ew bab;have:=XS ht;lia
inductive MR where
 |none
 |spot (p:Q3)
 |part (p q:Q3)
noncomputable def fst3(a c:Q3):Q3:=if bq a c=true then c else a
noncomputable def snd3(b d:Q3):Q3:=if bq b d=true then b else d
noncomputable def mtL(a b c d:Q3):MR:=if bq (snd3 b d) (fst3 a c)=true then .none else if(fst3 a c).x=(snd3 b d).x/\(fst3 a c).y=(snd3 b d).y/\(fst3 a c).w=(snd3 b d).w then .spot (fst3 a c) else .part (fst3 a c) (snd3 b d)
noncomputable def crX(a b c d:Q3):Int:=lnB a.x a.y a.w b.x b.y b.w*lnC c.x c.y c.w d.x d.y d.w-lnC a.x a.y a.w b.x b.y b.w*lnB c.x c.y c.w d.x d.y d.w
noncomputable def crY(a b c d:Q3):Int:=lnC a.x a.y a.w b.x b.y b.w*lnA c.x c.y c.w d.x d.y d.w-lnA a.x a.y a.w b.x b.y b.w*lnC c.x c.y c.w d.x d.y d.w
noncomputable def crW(a b c d:Q3):Int:=lnA a.x a.y a.w b.x b.y b.w*lnB c.x c.y c.w d.x d.y d.w-lnB a.x a.y a.w b.x b.y b.w*lnA c.x c.y c.w d.x d.y d.w
theorem xT(a b c d:Q3):crX a b c d=dt a b d*c.x+ -dt a b c*d.x:=by unfold crX dt det3 lnA lnB lnC;grind
theorem xQ(a b c d:Q3):crY a b c d=dt a b d*c.y+ -dt a b c*d.y:=by unfold crY dt det3 lnA lnB lnC;grind
theorem xn(a b c d:Q3):crW a b c d=dt a b d*c.w+ -dt a b c*d.w:=by unfold crW dt det3 lnA lnB lnC;grind
noncomputable def crP(a b c d:Q3):Q3:=⟨ptX (crX a b c d) (crY a b c d) (crW a b c d),ptY (crX a b c d) (crY a b c d) (crW a b c d),ptW (crX a b c d) (crY a b c d) (crW a b c d)⟩
noncomputable def mtS(a b c d:Q3):Q3:=if sgn (dt a b c)=0 then c else if sgn (dt a b d)=0 then d else if sgn (dt c d a)=0 then a else if sgn (dt c d b)=0 then b else crP a b c d
noncomputable def mtF(a b c d:Q3):MR:=
 if sgn (dt a b c)=0/\sgn (dt a b d)=0 then mtL a b c d
 else if sgn (dt a b c)=sgn (dt a b d) then .none
 else if sgn (dt c d a)=sgn (dt c d b) then .none
 else .spot (mtS a b c d)
noncomputable def apB(a b c d:Q3):Bool:=if sgn (dt a b c)=0/\sgn (dt a b d)=0 then(bq b c||bq d a) else(decide (sgn (dt a b c)=sgn (dt a b d))||decide (sgn (dt c d a)=sgn (dt c d b)))
def yH{a b:Q3}(h:bq a b=true):bq b a=false:=zf5 h
def yl(a:Q3):bq a a=false:=bef_irr _ _ _
def v4{n:Nat}{a b c:Q3}(ha:PQ n a)(hb:PQ n b)(hc:PQ n c)(h1:bq a b=true)(h2:bq b c=true):bq a c=true:=zcz ha.pos hb.pos hc.pos h1 h2
def xz{n:Nat}{a b:Q3}(ha:PQ n a)(hb:PQ n b)(h1:¬bq a b=true)(h2:¬bq b a=true):a=b:=Q3.ext' (Z2 ha hb ((Uq.mpr h1).trans (Uq.mpr h2).symm))
theorem Xl{a b c d:Q3}(hc:0<c.w)(hd:0<d.w)(hs:sgn (dt a b c)≠sgn (dt a b d)):crW a b c d≠0:=by
 rw[xn];have h:=XS hs;intro z;have e:∀{s w:Int},0<w->0<=s->0<=s*w:=λhw hs=>gh hs (Qq hw);rcases h with⟨h1,h2⟩|⟨h1,h2⟩
 ·have p1:=e hc h1;have p2:=e hd h2;have q1:=(uU.mp (show dt a b d*c.w=0 by lia)).resolve_right (by lia)
  have q2:=(uU.mp (show-dt a b c*d.w=0 by omega)).resolve_right (by omega)
  exact hs (by rw[show dt a b c=0 by lia,q1])
 ·have p1:=e hc (show 0<= -dt a b d by lia)
  have p2:=e hd (show 0<=dt a b c by lia)
  rw[UQ] at p1;rw[UQ] at z;have q1:=(uU.mp (show dt a b d*c.w=0 by lia)).resolve_right (by lia)
  have q2:=(uU.mp (show dt a b c*d.w=0 by lia)).resolve_right (by lia)
  exact hs (by rw[q1,q2])
def YY{n:Nat}{a b c d:Q3}(ha:PQ n a)(hb:PQ n b)(hc:PQ n c)(hd:PQ n d)(bab:bq a b=true)(bcd:bq c d=true)(q:¬bq (snd3 b d) (fst3 a c)=true):bq b c=false/\bq d a=false:=by
 unfold fst3 snd3 at q
 constructor
 ·rw[←Dv];intro z;have ac:=v4 ha hb hc bab z;have bd:=v4 hb hc hd z bcd;rw[if_pos ac,if_pos bd] at q;exact q z
 ·rw[←Dv];intro z;have n1:¬bq a c=true:=λw=>by rw[yH (v4 hc hd ha bcd z)] at w;cases w
  have n2:¬bq b d=true:=λw=>by rw[yH (v4 hd ha hb z bab)] at w;cases w
  rw[if_neg n1,if_neg n2] at q;exact q z
def x4{a b p:Q3}(h0:dt a b p=0)(h1:bq p a=false)(h2:bq b p=false):on3 a b p=true:=by
 unfold on3 onB;unfold dt at h0;unfold bq at h1 h2;rw[h0,vY,if_pos rfl,h1,h2];rfl
def Ym(a b:Q3):dt a b a=0:=zdd _ _ _ _ _ _
def qI(a b:Q3):dt a b b=0:=zbr _ _ _ _ _ _
theorem zeh{n:Nat}{a b c d:Q3}(ha:PQ n a)(hb:PQ n b)(bab:bq a b=true)(s0:dt a b c=0)(s1:dt a b d=0):dt c d a=0/\dt c d b=0:=by
 have ex:=vE a b c d;have ey:=vi a b c d;have ew:=w4 a b c d;rw[s0,s1] at ex ey ew;simp only[CA,Int.neg_zero,Fx] at ex ey ew;have h1:=ha.pos;have h2:=hb.pos;generalize dt c d a=t at*;generalize dt c d b=v at*;rw[UQ] at ex ey ew
 by_cases ht:t=0
 ·subst ht;rw[CA] at ew;exact⟨rfl,(uU.mp (show v*a.w=0 by lia)).resolve_right (by lia)⟩
 ·exfalso
  have k1:t*(b.x*a.w-a.x*b.w)=0:=by
   calc _=(t*b.x)*a.w-a.x*(t*b.w):=by grind
    _=(v*a.x)*a.w-a.x*(v*a.w):=by rw[show t*b.x=v*a.x by lia,show t*b.w=v*a.w by lia]
    _=0:=by grind
  have k2:t*(b.y*a.w-a.y*b.w)=0:=by
   calc _=(t*b.y)*a.w-a.y*(t*b.w):=by grind
    _=(v*a.y)*a.w-a.y*(v*a.w):=by rw[show t*b.y=v*a.y by lia,show t*b.w=v*a.w by lia]
    _=0:=by grind
  have z1:=(uU.mp k1).resolve_left ht;have z2:=(uU.mp k2).resolve_left ht;unfold bq at bab;rw[xh] at bab;lia
def JG{n:Nat}{a b c d:Q3}(ha:PQ n a)(hb:PQ n b)(hc:PQ n c)(hd:PQ n d)(bab:bq a b=true)(bcd:bq c d=true)(s0:dt a b c=0)(s1:dt a b d=0)(q:¬bq (snd3 b d) (fst3 a c)=true):
  (on3 a b (fst3 a c)=true/\on3 c d (fst3 a c)=true)/\on3 a b (snd3 b d)=true/\on3 c d (snd3 b d)=true:=by
 obtain⟨n1,n2⟩:=YY ha hb hc hd bab bcd q;obtain⟨t0,t1⟩:=zeh ha hb bab s0 s1;refine⟨?_,?_⟩
 ·unfold fst3
  by_cases e:bq a c=true
  ·rw[if_pos e];exact⟨x4 s0 (yH e) n1,x4 (Ym c d) (yl c) (yH bcd)⟩
  ·rw[if_neg e];refine⟨x4 (Ym a b) (yl a) (yH bab),x4 t0 (Uq.mpr e) n2⟩
 ·unfold snd3
  by_cases e:bq b d=true
  ·rw[if_pos e];exact⟨x4 (qI a b) (yH bab) (yl b),x4 t1 n1 (yH e)⟩
  ·rw[if_neg e];exact⟨x4 s1 n2 (Uq.mpr e),x4 (qI c d) (yH bcd) (yl d)⟩
theorem Xj{n:Nat}{a b c d p q:Q3}(ha:PQ n a)(hb:PQ n b)(hc:PQ n c)(hd:PQ n d)(bab:bq a b=true)(bcd:bq c d=true)(h:mtF a b c d=.part p q):
  apB a b c d=false/\(sgn (dt a b c)=0/\sgn (dt a b d)=0)/\PQ n p/\PQ n q/\bq p q=true/\(on3 a b p=true/\on3 c d p=true)/\(on3 a b q=true/\on3 c d q=true)/\(p=a∨p=c)/\(q=b∨q=d):=by
 unfold mtF at h;unfold apB
 by_cases l:sgn (dt a b c)=0/\sgn (dt a b d)=0
 ·rw[if_pos l] at h⊢;unfold mtL at h
  by_cases e:bq (snd3 b d) (fst3 a c)=true
  ·rw[if_pos e] at h;cases h
  ·rw[if_neg e] at h
   split at h
   ·cases h
   ·rename_i ne
    cases h;obtain⟨n1,n2⟩:=YY ha hb hc hd bab bcd e;obtain⟨o1,o2⟩:=JG ha hb hc hd bab bcd (yW.mp l.1) (yW.mp l.2) e;have pf:PQ n (fst3 a c)/\(fst3 a c=a∨fst3 a c=c):=by
     unfold fst3;split
     ·exact⟨hc,.inr rfl⟩
     ·exact⟨ha,.inl rfl⟩
    have ps:PQ n (snd3 b d)/\(snd3 b d=b∨snd3 b d=d):=by
     unfold snd3;split
     ·exact⟨hb,.inl rfl⟩
     ·exact⟨hd,.inr rfl⟩
    refine⟨by rw[n1,n2];rfl,l,pf.1,ps.1,?_,o1,o2,pf.2,ps.2⟩
    cases eb:bq (fst3 a c) (snd3 b d) with
    |true=>rfl
    |false=>
     have:=xz pf.1 ps.1 (by rw[eb];decide) e
     exact absurd ⟨congrArg Q3.x this,congrArg Q3.y this,congrArg Q3.w this⟩ ne
 ·rw[if_neg l] at h
  split at h
  ·cases h
  ·split at h<;>cases h
theorem JA{n:Nat}{a b c d p:Q3}(hm:n<=m)(ha:PQ n a)(hb:PQ n b)(hc:PQ n c)(hd:PQ n d)(bab:bq a b=true)(bcd:bq c d=true)(hx:(crX a b c d).natAbs<2^m)(hy:(crY a b c d).natAbs<2^m)(hw:(crW a b c d).natAbs<2^m)(h:mtF a b c d=.spot p):
  apB a b c d=false/\PQ m p/\on3 a b p=true/\on3 c d p=true/\((sgn (dt a b c)=0/\sgn (dt a b d)=0)->(p=b/\b=c)∨(p=d/\d=a)):=by
 have up:∀{z:Q3},PQ n z->PQ m z:=λh=>Pt.mono h hm;unfold mtF at h;unfold apB
 by_cases l:sgn (dt a b c)=0/\sgn (dt a b d)=0
 ·rw[if_pos l] at h⊢;unfold mtL at h
  by_cases e:bq (snd3 b d) (fst3 a c)=true
  ·rw[if_pos e] at h;cases h
  ·rw[if_neg e] at h
   split at h
   ·rename_i eq
    cases h;obtain⟨n1,n2⟩:=YY ha hb hc hd bab bcd e;obtain⟨o1,o2⟩:=JG ha hb hc hd bab bcd (yW.mp l.1) (yW.mp l.2) e;have eq:=Q3.ext' eq;refine⟨by rw[n1,n2];rfl,?_,o1.1,o1.2,λ_=>?_⟩
    ·unfold fst3;split
     ·exact up hc
     ·exact up ha
    ·unfold fst3 snd3 at eq;unfold fst3
     by_cases q1:bq a c=true<;>by_cases q2:bq b d=true
     ·rw[if_pos q1,if_pos q2] at eq;rw[if_pos q1];exact .inl ⟨eq,eq.symm⟩
     ·rw[if_pos q1,if_neg q2] at eq;rw[eq,yl] at bcd;cases bcd
     ·rw[if_neg q1,if_pos q2] at eq;rw[eq,yl] at bab;cases bab
     ·rw[if_neg q1,if_neg q2] at eq;rw[if_neg q1];exact .inr ⟨eq,eq.symm⟩
   ·cases h
 ·rw[if_neg l] at h⊢
  by_cases q1:sgn (dt a b c)=sgn (dt a b d)
  ·rw[if_pos q1] at h;cases h
  ·by_cases q2:sgn (dt c d a)=sgn (dt c d b)
   ·rw[if_neg q1,if_pos q2] at h;cases h
   ·rw[if_neg q1,if_neg q2] at h
    cases h;have wn:=Xl (a:=a) (b:=b) hc.pos hd.pos q1;have key:∀{z:Q3}{k:Int},k≠0->PQ m z->k*z.x=crX a b c d->k*z.y=crY a b c d->k*z.w=crW a b c d->PQ m z/\on3 a b z=true/\on3 c d z=true:=λ{z k} hk hz e1 e2 e3=>
     ⟨hz,meet_on ha.pos hb.pos hc.pos hd.pos hz.pos hk bab bcd q1 q2 (by rw[e1,xT]) (by rw[e2,xQ]) (by rw[e3,xn])⟩
    have main:PQ m (mtS a b c d)/\on3 a b (mtS a b c d)=true/\on3 c d (mtS a b c d)=true:=by
     unfold mtS
     by_cases z1:sgn (dt a b c)=0
     ·rw[if_pos z1];have y1:=yW.mp z1;refine key (k:=dt a b d) (λy=>q1 (by rw[y1,y])) (up hc) ?_ ?_ ?_
      ·rw[xT,y1];simp
      ·rw[xQ,y1];simp
      ·rw[xn,y1];simp
     ·rw[if_neg z1]
      by_cases z2:sgn (dt a b d)=0
      ·rw[if_pos z2];have y2:=yW.mp z2;refine key (k:= -dt a b c) (λy=>z1 (yW.mpr (by lia))) (up hd) ?_ ?_ ?_
       ·rw[xT,y2];simp
       ·rw[xQ,y2];simp
       ·rw[xn,y2];simp
      ·rw[if_neg z2]
       by_cases z3:sgn (dt c d a)=0
       ·rw[if_pos z3];have y3:=yW.mp z3;refine key (k:= -dt c d b) (λy=>q2 (by rw[y3,show dt c d b=0 by lia])) (up ha) ?_ ?_ ?_
        ·rw[xT,vE,y3];simp
        ·rw[xQ,vi,y3];simp
        ·rw[xn,w4,y3];simp
       ·rw[if_neg z3]
        by_cases z4:sgn (dt c d b)=0
        ·rw[if_pos z4];have y4:=yW.mp z4;refine key (k:=dt c d a) (λy=>z3 (yW.mpr y)) (up hb) ?_ ?_ ?_
         ·rw[xT,vE,y4];simp
         ·rw[xQ,vi,y4];simp
         ·rw[xn,w4,y4];simp
        ·rw[if_neg z4];refine key (k:=fac3 (crX a b c d) (crY a b c d) (crW a b c d)) (XC wn) (pt_mk wn hx hy hw) ?_ ?_ ?_
         ·rw[UE];exact VW _ _ _
         ·rw[UE];exact ZT _ _ _
         ·rw[UE];exact Vv _ _ _
    exact⟨by rw[decide_eq_false q1,decide_eq_false q2];rfl,main.1,main.2.1,main.2.2,λz=>absurd z l⟩
def PtQ(n:Nat)(H:Hp)(p:Addr)(a:Q3):Prop:=PtH n H p a.x a.y a.w
def PtQ.same{n:Nat}{H H':Hp}{p:Addr}{a:Q3}(h:PtQ n H p a)(g:zg H H'):PtQ n H' p a:=PtH.same h g
def PtQ.tb{n:Nat}{H:Hp}{p:Addr}{a:Q3}(h:PtQ m H p a)(hm:m<=n:=by decide):TB n H p a.x a.y a.w:=PtH.tb h hm
def PtQ.pt{n:Nat}{H:Hp}{p:Addr}{a:Q3}(h:PtQ n H p a):PQ n a:=h.2
def PtAt(H:Hp)(p:Addr)(a:Q3):Prop:=H p=some (.tup [.int a.x,.int a.y,.int a.w])
def MtV(H:Hp)(v:V):MR->Prop
 |.none=>v=.non
 |.spot p=>∃x y,v=.ref x/\H x=some (.tup [.str "spot",.ref y])/\PtAt H y p
 |.part p q=>∃x y m n,v=.ref x/\H x=some (.tup [.str "part",.ref y])/\H y=some (.tup [.ref m,.ref n])/\PtAt H m p/\PtAt H n q
structure St4(H:Hp)(s t p q r u:Addr)(a b c d:Q3):Prop where
 s:H s=some (.tup [.ref p,.ref q])
 t:H t=some (.tup [.ref r,.ref u])
 a:PtQ 130 H p a
 b:PtQ 130 H q b
 c:PtQ 130 H r c
 d:PtQ 130 H u d
def St4.same{H H':Hp}{s t p q r u:Addr}{a b c d:Q3}(h:St4 H s t p q r u a b c d)(g:zg H H'):St4 H' s t p q r u a b c d:=⟨g _ _ h.s,g _ _ h.t,h.a.same g,h.b.same g,h.c.same g,h.d.same g⟩
def sp_mol:Sp:=λvs H Q _=>∃(s t p q r u:Addr)(a b c d:Q3),vs=[.ref s,.ref t]/\St4 H s t p q r u a b c d/\∀v H',zg H H'->MtV H' v (mtL a b c d)->Q v H'
def sp_meet:Sp:=λvs H Q _=>∃(s t p q r u:Addr)(a b c d:Q3),vs=[.ref s,.ref t]/\St4 H s t p q r u a b c d/\∀v H',zg H H'->MtV H' v (mtF a b c d)->Q v H'
noncomputable def dI2(x y:Int):Da:=.tuple [.int x,.int y]
def rd_i2{K:pF}{H:Hp}{p:Addr}{x:Int}(h:SqT K H p [.int x,.int y]):RdD K H (dI2 x y) (.ref p):=by
 unfold dI2;rw[RdD];exact⟨p,_,rfl,h,by simp[ya,RdD]⟩
def JF(x y:Int):UB (dI2 x y)=true:=by
 simp[dI2,UB,Qs,uX,Qp,uz]
def dI2_eqv(x y x' y':Int):uj (dI2 x y) (dI2 x' y')=decide (x=x'/\y=y'):=by
 simp only[dI2,uj,uk,FH]
 by_cases h1:x=x'<;>by_cases h2:y=y'<;>simp[h1,h2]
def StQ(n:Nat)(H:Hp)(s:Addr)(a b:Q3):Prop:=∃p q,H s=some (.tup [.ref p,.ref q])/\PtQ n H p a/\PtQ n H q b/\bq a b=true
def StQ.ts{n:Nat}{H H':Hp}{s:Addr}{a b:Q3}(h:StQ n H s a b)(g:yF H H'):StQ n H' s a b:=by
 obtain⟨p,q,h1,h2,h3,h4⟩:=h;exact⟨p,q,g _ _ h1,⟨g _ _ h2.1,h2.2⟩,⟨g _ _ h3.1,h3.2⟩,h4⟩
def StQ.mono{n:Nat}{H:Hp}{s:Addr}{a b:Q3}(h:StQ m H s a b)(hm:m<=n):StQ n H s a b:=by
 obtain⟨p,q,h1,h2,h3,h4⟩:=h;exact⟨p,q,h1,PtH.mono h2 hm,PtH.mono h3 hm,h4⟩
theorem wD{xs:List Int}{j:Int}(h0:0<=j)(h1:j<xs.length):∃x:Int,atI (xs.map V.int) j=some (.int x):=by
 have hk:j.toNat<xs.length:=by lia
 refine⟨xs[j.toNat],?_⟩;have z:atI (xs.map V.int) ((j.toNat:Nat):Int)=some (.int xs[j.toNat]):=yp (by rw[pQ,pG hk];rfl)
 rw[show((j.toNat:Nat):Int)=j by lia] at z
 exact z
def zdo(x y w:Int):g3 (x+w) y w=g3 x y w:=by
 have e:∀z:Int,g3 z y w=CB y.natAbs (Hf z w):=λz=>by
  unfold g3;show _=CB y.natAbs (CB z.natAbs w.natAbs);rw[Ft z.natAbs y.natAbs,De]
 rw[e,e];have:=Au w x 1;rw[Hu] at this;rw[this]
theorem ky_ge{n:Nat}{a b:Q3}{g:Int}(ha:PQ n a)(hb:PQ n b)(ga:a.w<=g)(gb:b.w<=g)(h:bq a b=false):lt2 (kyQ g a) (kyQ g b)=false:=by
 cases e:bq b a with
 |true=>
  have z:=Yl hb.pos ha.pos gb ga e
  cases e2:lt2 (kyQ g a) (kyQ g b) with
  |false=>rfl
  |true=>
   have:=sto2.tr _ _ _ z e2;rw[sto2.irr] at this
   cases this
 |false=>
  rw[YE ha hb h e];exact sto2.irr _
theorem qB{a p b:Q3}(ha:0<a.w)(hp:0<p.w)(hb:0<b.w)(h1:bq p a=false)(h2:bq b p=false):bq b a=false:=by
 unfold bq at*;rw[vx] at*;rcases h1 with h1|⟨h1,h1'⟩<;>rcases h2 with h2|⟨h2,h2'⟩
 ·exact .inl ((ww (a:=a.x) (b:=p.x) (c:=b.x) ha hp hb (by lia) (by lia)).2 (.inl (by lia)))
 ·exact .inl ((ww (a:=a.x) (b:=p.x) (c:=b.x) ha hp hb (by lia) (by lia)).2 (.inl (by lia)))
 ·exact .inl ((ww (a:=a.x) (b:=p.x) (c:=b.x) ha hp hb (by lia) (by lia)).2 (.inr (by lia)))
 ·have q1:=(ww (a:=a.x) (b:=p.x) (c:=b.x) ha hp hb (by lia) (by lia)).1
  have q2:=(ww (a:=b.x) (b:=p.x) (c:=a.x) hb hp ha (by lia) (by lia)).1
  have q3:=(ww (a:=a.y) (b:=p.y) (c:=b.y) ha hp hb (by lia) (by lia)).1
  exact .inr ⟨by omega,q3⟩
def zV{a b p:Q3}(h:on3 a b p=true):dt a b p=0/\bq p a=false/\bq b p=false:=by
 unfold on3 onB at h;unfold dt bq
 by_cases e:sgn (det3 a.x a.y a.w b.x b.y b.w p.x p.y p.w)=0
 ·rw[if_pos e] at h;rw[GO,Bx,Bx] at h;exact⟨yW.mp e,h.1,h.2⟩
 ·rw[if_neg e] at h
  cases h
theorem dt_mid(a b p:Q3):p.w*dt a b p=dY a p*dX p b-dX a p*dY p b:=by unfold dt dX dY det3 lnA lnB lnC;grind
theorem zaf{a b p:Q3}(h:on3 a b p=true)(hp:0<p.w):(a.y*p.w<=p.y*a.w∨b.y*p.w<=p.y*b.w)/\(p.y*a.w<=a.y*p.w∨p.y*b.w<=b.y*p.w):=by
 obtain⟨h0,h1,h2⟩:=zV h;unfold bq at h1 h2;rw[vx] at h1 h2;have e:=dt_mid a b p;rw[h0,Fv] at e;have x1:dX a p=p.x*a.w-a.x*p.w:=rfl;have x2:dX p b=b.x*p.w-p.x*b.w:=rfl;have y1:dY a p=p.y*a.w-a.y*p.w:=rfl;have y2:dY p b=b.y*p.w-p.y*b.w:=rfl;generalize dX a p=X1 at*;generalize dX p b=X2 at*;generalize dY a p=Y1 at*;generalize dY p b=Y2 at*;have n1:0<=X1:=by lia
 have n2:0<=X2:=by lia
 constructor
 ·by_cases c1:a.y*p.w<=p.y*a.w
  ·exact .inl c1
  ·by_cases c2:b.y*p.w<=p.y*b.w
   ·exact .inr c2
   ·exfalso
    have k1:Y1<0:=by lia
    have k2:0<Y2:=by lia
    have z1:X1≠0:=λz=>by lia
    have m1:0<X1*Y2:=Ab (by lia) k2
    have m2:Y1*X2<=0:=Ba (by lia) n2
    lia
 ·by_cases c1:p.y*a.w<=a.y*p.w
  ·exact .inl c1
  ·by_cases c2:p.y*b.w<=b.y*p.w
   ·exact .inr c2
   ·exfalso
    have k1:0<Y1:=by lia
    have k2:Y2<0:=by lia
    have z1:X2≠0:=λz=>by lia
    have m1:X1*Y2<=0:=Int.mul_nonpos_of_nonneg_of_nonpos n1 (by lia)
    have m2:0<Y1*X2:=Ab k1 (by lia)
    lia
theorem qL{a b c d G:Int}(hb:0<b)(hd:0<d)(hG:0<=G)(h:a*d<=c*b):a*G/b<=c*G/d:=by
 refine Ec hd (DJ ?_ hb);have h0:a*G/b*b<=a*G:=Gi _ (by lia)
 have h1:=Uw h0 (Qq hd);have h2:=CV h hG;generalize a*G/b=A at*
 calc A*d*b=A*b*d:=by grind
  _<=a*G*d:=h1
  _=G*(a*d):=by grind
  _<=G*(c*b):=h2
  _=c*G*b:=by grind
noncomputable def xI(g:Int)(s:Q3×Q3):Int:=if(kyQ g s.2).2<(kyQ g s.1).2 then(kyQ g s.2).2 else(kyQ g s.1).2
noncomputable def xF(g:Int)(s:Q3×Q3):Int:=if(kyQ g s.2).2>(kyQ g s.1).2 then(kyQ g s.2).2 else(kyQ g s.1).2
def Nigh(g:Int)(a b:Q3×Q3):Prop:=lt2 (kyQ g a.2) (kyQ g b.1)=false/\lt2 (kyQ g b.2) (kyQ g a.1)=false/\xI g a<=xF g b/\xI g b<=xF g a
def Nigh.symm{g:Int}{a b:Q3×Q3}(h:Nigh g a b):Nigh g b a:=⟨h.2.1,h.1,h.2.2.2,h.2.2.1⟩
theorem JQ{g:Int}{s:Q3×Q3}{p:Q3}(h1:0<s.1.w)(h2:0<s.2.w)(hp:0<p.w)(h:on3 s.1 s.2 p=true):xI g s<=(kyQ g p).2/\(kyQ g p).2<=xF g s:=by
 have G0:0<=g*g:=by
  rcases CD g 0 with z|z
  ·exact Qq (DP z z)
  ·exact gh z z
 obtain⟨q1,q2⟩:=zaf h hp;unfold xI xF;have e1:∀r:Q3,(kyQ g r).2=r.y*(g*g)/r.w:=λr=>rfl;simp only[e1];refine⟨?_,?_⟩
 ·rcases q1 with q|q
  ·have:=qL h1 hp G0 q
   split<;>lia
  ·have:=qL h2 hp G0 q
   split<;>lia
 ·rcases q2 with q|q
  ·have:=qL hp h1 G0 q
   split<;>lia
  ·have:=qL hp h2 G0 q
   split<;>lia
theorem nigh_of{n:Nat}{g:Int}{a b:Q3×Q3}{p:Q3}(ha:PQ n a.1)(ha':PQ n a.2)(hb:PQ n b.1)(hb':PQ n b.2)(ga:a.1.w<=g)(ga':a.2.w<=g)(gb:b.1.w<=g)(gb':b.2.w<=g)(hp:0<p.w)(h1:on3 a.1 a.2 p=true)(h2:on3 b.1 b.2 p=true):Nigh g a b:=by
 obtain⟨_,i1,i2⟩:=zV h1;obtain⟨_,j1,j2⟩:=zV h2;have l1:=JQ (g:=g) ha.pos ha'.pos hp h1;have l2:=JQ (g:=g) hb.pos hb'.pos hp h2;exact⟨ky_ge ha' hb ga' gb (qB hb.pos hp ha'.pos j1 i2),ky_ge hb' ha gb' ga (qB ha.pos hp hb'.pos i1 j2),by lia,by lia⟩
theorem shares{c d p:Q3}{u:Int}(hp:on3 c d p=true)(cd:bq c d=true)(ex:k*p.x=u*c.x+v*d.x)(ey:k*p.y=u*c.y+v*d.y)(ew:k*p.w=u*c.w+v*d.w):¬(0<u/\v<0)/\¬(u<0/\0<v):=by
 obtain⟨_,h1,h2⟩:=zV hp;unfold bq at h1 h2 cd;rw[vx] at h1 h2;rw[xh] at cd;have x1:k*(p.x*c.w-c.x*p.w)=v*(d.x*c.w-c.x*d.w):=by
  calc _=(k*p.x)*c.w-c.x*(k*p.w):=by grind
   _=_:=by rw[ex,ew];grind
 have y1:k*(p.y*c.w-c.y*p.w)=v*(d.y*c.w-c.y*d.w):=by
  calc _=(k*p.y)*c.w-c.y*(k*p.w):=by grind
   _=_:=by rw[ey,ew];grind
 have x2:k*(d.x*p.w-p.x*d.w)=u*(d.x*c.w-c.x*d.w):=by
  calc _=d.x*(k*p.w)-(k*p.x)*d.w:=by grind
   _=_:=by rw[ex,ew];grind
 have y2:k*(d.y*p.w-p.y*d.w)=u*(d.y*c.w-c.y*d.w):=by
  calc _=d.y*(k*p.w)-(k*p.y)*d.w:=by grind
   _=_:=by rw[ey,ew];grind
 have sg:∀{z t r:Int},k*z=t*r->0<=z->0<r->(0<t->0<k)/\(t<0->k<0):=λ{z t r} e hz hr=>by
  refine⟨λht=>?_,λht=>?_⟩
  ·have m:=Ab ht hr;rcases CD 0 k with q|q
   ·exact q
   ·have:=Ba q hz;lia
  ·have m:=Qy ht hr;rcases CD k 0 with q|q
   ·exact q
   ·have:=gh q hz;lia
 have both:(0<v->0<k)/\(v<0->k<0)/\(0<u->0<k)/\(u<0->k<0):=by
  rcases cd with cd|⟨cd,cy⟩
  ·obtain⟨a1,a2⟩:=sg x1 (by lia) (by lia)
   obtain⟨b1,b2⟩:=sg x2 (by lia) (by lia)
   exact⟨a1,a2,b1,b2⟩
  ·by_cases k0:k=0
   ·subst k0;rw[CA] at y1 y2;have r0:d.y*c.w-c.y*d.w≠0:=by lia
    have v0:=(uU.mp y1.symm).resolve_right r0;have u0:=(uU.mp y2.symm).resolve_right r0;lia
   ·have z0:d.x*c.w-c.x*d.w=0:=by lia
    rw[z0,Fv] at x1 x2;have w1:=(uU.mp x1).resolve_left k0;have w2:=(uU.mp x2).resolve_left k0;obtain⟨a1,a2⟩:=sg y1 (by lia) (by lia)
    obtain⟨b1,b2⟩:=sg y2 (by lia) (by lia)
    exact⟨a1,a2,b1,b2⟩
 lia
theorem mtS_cr{a b c d:Q3}(ha:0<a.w)(hb:0<b.w)(hc:0<c.w)(hd:0<d.w)(q1:sgn (dt a b c)≠sgn (dt a b d))(q2:sgn (dt c d a)≠sgn (dt c d b)):
  ∃k:Int,k≠0/\k*(mtS a b c d).x=crX a b c d/\k*(mtS a b c d).y=crY a b c d/\k*(mtS a b c d).w=crW a b c d:=by
 have wn:=Xl (a:=a) (b:=b) hc hd q1;unfold mtS
 by_cases z1:sgn (dt a b c)=0
 ·rw[if_pos z1];have y1:=yW.mp z1;refine⟨dt a b d,λy=>q1 (by rw[y1,y]),?_,?_,?_⟩
  ·rw[xT,y1];simp
  ·rw[xQ,y1];simp
  ·rw[xn,y1];simp
 ·rw[if_neg z1]
  by_cases z2:sgn (dt a b d)=0
  ·rw[if_pos z2];have y2:=yW.mp z2;refine⟨-dt a b c,λy=>z1 (yW.mpr (by lia)),?_,?_,?_⟩
   ·rw[xT,y2];simp
   ·rw[xQ,y2];simp
   ·rw[xn,y2];simp
  ·rw[if_neg z2]
   by_cases z3:sgn (dt c d a)=0
   ·rw[if_pos z3];have y3:=yW.mp z3;refine⟨-dt c d b,λy=>q2 (by rw[y3,show dt c d b=0 by lia]),?_,?_,?_⟩
    ·rw[xT,vE,y3];simp
    ·rw[xQ,vi,y3];simp
    ·rw[xn,w4,y3];simp
   ·rw[if_neg z3]
    by_cases z4:sgn (dt c d b)=0
    ·rw[if_pos z4];have y4:=yW.mp z4;refine⟨dt c d a,λy=>z3 (yW.mpr y),?_,?_,?_⟩
     ·rw[xT,vE,y4];simp
     ·rw[xQ,vi,y4];simp
     ·rw[xn,w4,y4];simp
    ·rw[if_neg z4];refine⟨fac3 (crX a b c d) (crY a b c d) (crW a b c d),XC wn,?_,?_,?_⟩
     ·rw[UE];exact VW _ _ _
     ·rw[UE];exact ZT _ _ _
     ·rw[UE];exact Vv _ _ _
theorem Jt{z1 z2 p1 p2 X W:Int}(hk:k≠0)(e1:k*z1=X)(e2:k*z2=W)(h:p1*W=X*p2):z1*p2=p1*z2:=by
 have:k*(z1*p2)=k*(p1*z2):=by
  calc _=(k*z1)*p2:=by grind
   _=p1*(k*z2):=by rw[e1,e2,h]
   _=_:=by grind
 exact Int.eq_of_mul_eq_mul_left hk this
def mtS_pq{n:Nat}{a b c d:Q3}(hm:n<=m)(ha:PQ n a)(hb:PQ n b)(hc:PQ n c)(hd:PQ n d)(hx:(crX a b c d).natAbs<2^m)(hy:(crY a b c d).natAbs<2^m)(hw:(crW a b c d).natAbs<2^m)(wn:crW a b c d≠0):PQ m (mtS a b c d):=by
 unfold mtS
 split
 ·exact Pt.mono hc hm
 ·split
  ·exact Pt.mono hd hm
  ·split
   ·exact Pt.mono ha hm
   ·split
    ·exact Pt.mono hb hm
    ·exact pt_mk wn hx hy hw
theorem Jg{n:Nat}{a b c d p:Q3}(hm:n<=m)(ha:PQ n a)(hb:PQ n b)(hc:PQ n c)(hd:PQ n d)(bab:bq a b=true)(bcd:bq c d=true)(hx:(crX a b c d).natAbs<2^m)(hy:(crY a b c d).natAbs<2^m)(hw:(crW a b c d).natAbs<2^m)
  (wn:crW a b c d≠0)(hp:PQ m p)(ex:p.x*crW a b c d=crX a b c d*p.w)(ey:p.y*crW a b c d=crY a b c d*p.w)(h1:on3 a b p=true)(h2:on3 c d p=true):mtF a b c d=.spot p:=by
 have q1:sgn (dt a b c)≠sgn (dt a b d):=λz=>by
  have e1:crW a b c d*p.x=(dt a b d*p.w)*c.x+(-dt a b c*p.w)*d.x:=by rw[UE,ex,xT];grind
  have e2:crW a b c d*p.y=(dt a b d*p.w)*c.y+(-dt a b c*p.w)*d.y:=by rw[UE,ey,xQ];grind
  have e3:crW a b c d*p.w=(dt a b d*p.w)*c.w+(-dt a b c*p.w)*d.w:=by rw[xn];grind
  obtain⟨n1,n2⟩:=shares h2 bcd e1 e2 e3;have w0:=hp.pos
  rcases vn (dt a b c) with⟨u1,v1⟩|⟨u1,v1⟩|⟨u1,v1⟩<;>rcases vn (dt a b d) with⟨u2,v2⟩|⟨u2,v2⟩|⟨u2,v2⟩<;>rw[v1,v2] at z<;>try lia
  ·exact n1 ⟨Ab u2 w0,Qy (by lia) w0⟩
  ·exact n2 ⟨Qy u2 w0,Ab (by lia) w0⟩
  ·apply wn
   rw[xn,u1,u2]
   simp
 have q2:sgn (dt c d a)≠sgn (dt c d b):=λz=>by
  have e1:crW a b c d*p.x=(-dt c d b*p.w)*a.x+(dt c d a*p.w)*b.x:=by rw[UE,ex,xT,vE];grind
  have e2:crW a b c d*p.y=(-dt c d b*p.w)*a.y+(dt c d a*p.w)*b.y:=by rw[UE,ey,xQ,vi];grind
  have e3:crW a b c d*p.w=(-dt c d b*p.w)*a.w+(dt c d a*p.w)*b.w:=by rw[xn,w4];grind
  obtain⟨n1,n2⟩:=shares h1 bab e1 e2 e3;have w0:=hp.pos
  rcases vn (dt c d a) with⟨u1,v1⟩|⟨u1,v1⟩|⟨u1,v1⟩<;>rcases vn (dt c d b) with⟨u2,v2⟩|⟨u2,v2⟩|⟨u2,v2⟩<;>rw[v1,v2] at z<;>try lia
  ·exact n2 ⟨Qy (by lia) w0,Ab u1 w0⟩
  ·exact n1 ⟨Ab (by lia) w0,Qy u1 w0⟩
  ·apply wn
   rw[xn,w4,u1,u2]
   simp
 unfold mtF;rw[if_neg (λz=>q1 (z.1.trans z.2.symm)),if_neg q1,if_neg q2];obtain⟨k,k0,k1,k2,k3⟩:=mtS_cr ha.pos hb.pos hc.pos hd.pos q1 q2;have ps:=mtS_pq hm ha hb hc hd hx hy hw wn;have:=Zz ps hp (Jt k0 k1 k3 ex) (Jt k0 k2 k3 ey);rw[Q3.ext' this]
theorem VX(a b c d:Q3):crX c d a b= -crX a b c d/\crY c d a b= -crY a b c d/\crW c d a b= -crW a b c d:=by
 unfold crX crY crW;refine⟨?_,?_,?_⟩<;>grind
def qF{n:Nat}{a b c d:Q3}(ha:PQ n a)(hb:PQ n b)(hc:PQ n c)(hd:PQ n d):(crX a b c d).natAbs<2^(n+n+1+(n+n+1)+1)/\(crY a b c d).natAbs<2^(n+n+1+(n+n+1)+1)/\(crW a b c d).natAbs<2^(n+n+1+(n+n+1)+1):=by
 have l:∀{p q:Q3},PQ n p->PQ n q->(lnA p.x p.y p.w q.x q.y q.w).natAbs<2^(n+n+1)/\(lnB p.x p.y p.w q.x q.y q.w).natAbs<2^(n+n+1)/\(lnC p.x p.y p.w q.x q.y q.w).natAbs<2^(n+n+1):=λhp hq=>
  ⟨xm (zS hp.ly hq.lw) (zS hp.lw hq.ly),xm (zS hp.lw hq.lx) (zS hp.lx hq.lw),xm (zS hp.lx hq.ly) (zS hp.ly hq.lx)⟩
 obtain⟨a1,b1,c1⟩:=l ha hb;obtain⟨a2,b2,c2⟩:=l hc hd;exact⟨xm (zS b1 c2) (zS c1 b2),xm (zS c1 a2) (zS a1 c2),xm (zS a1 b2) (zS b1 a2)⟩
def LR{α:Type}(R:Hp->Addr->α->Prop)(H:Hp)(ys:List V)(as:List α):Prop:=ys.length=as.length/\∀(j:Nat)(v:V),ys[j]?=some v->∃(p:Addr)(a:α),v=.ref p/\as[j]?=some a/\R H p a
section
variable{α:Type}{R:Hp->Addr->α->Prop}
def LR.ts(hR:∀H H' p a,yF H H'->R H p a->R H' p a){H H':Hp}{ys:List V}{as:List α}(h:LR R H ys as)(g:yF H H'):LR R H' ys as:=⟨h.1,λj v z=>by
 obtain⟨p,d,e,f,s⟩:=h.2 j v z;exact⟨p,d,e,f,hR _ _ _ _ g s⟩⟩
variable{H:Hp}
def LR.nil:LR R H [] []:=⟨rfl,λj v z=>by cases z⟩
variable{ys:List V}
theorem LR.app{zs:List V}{as bs:List α}(h:LR R H ys as)(h':LR R H zs bs):LR R H (ys++zs) (as++bs):=by
 refine⟨by rw[pM,pM,h.1,h'.1],λj v z=>?_⟩
 by_cases hj:j<ys.length
 ·rw[Qf hj] at z;obtain⟨q,e,f,g,t⟩:=h.2 j v z;exact⟨q,e,f,by rw[Qf (by rw[←h.1];exact hj)];exact g,t⟩
 ·rw[Qb (by lia)] at z
  obtain⟨q,e,f,g,t⟩:=h'.2 _ v z;exact⟨q,e,f,by rw[Qb (by rw[←h.1];lia),←h.1];exact g,t⟩
theorem LR.one{p:Addr}{a:α}(s:R H p a):LR R H [.ref p] [a]:=⟨rfl,λj v z=>by
 cases j with
 |zero=>cases z;exact⟨p,a,rfl,rfl,s⟩
 |succ n=>cases z⟩
def LR.snoc{as:List α}{p:Addr}{a:α}(h:LR R H ys as)(s:R H p a):LR R H (ys++[.ref p]) (as++[a]):=h.app (.one s)
def LR.drop{as:List α}(h:LR R H ys as)(n:Nat):LR R H (ys.drop n) (as.drop n):=by
 refine⟨by rw[pg,pg,h.1],λj v z=>?_⟩
 rw[Uv] at z;obtain⟨q,e,f,g,t⟩:=h.2 _ v z;exact⟨q,e,f,by rw[Uv];exact g,t⟩
def LR.at{as:List α}(h:LR R H ys as){j:Nat}(hj:j<ys.length):∃(p:Addr)(a:α),ys[j]?=some (.ref p)/\as[j]?=some a/\R H p a:=by
 obtain⟨p,a,e,f,r⟩:=h.2 j ys[j] (pG hj);exact⟨p,a,by rw[pG hj,e],f,r⟩
theorem LR.cons_inv{v:V}{vs:List V}{as:List α}(h:LR R H (v::vs) as):∃a as',as=a::as'/\(∃p,v=.ref p/\R H p a)/\LR R H vs as':=by
 cases as with
 |nil=>cases h.1
 |cons a as'=>
  refine⟨a,as',rfl,?_,Nat.succ.inj h.1,λj u z=>h.2 (j+1) u z⟩;obtain⟨p,b,e,f,r⟩:=h.2 0 v rfl
  cases f;exact⟨p,e,r⟩
def jz(R:Hp->Addr->α->Prop)(as:List α)(H2:Hp)(D:Addr):Nat->List V->Hp->Prop:=λi ys H'=>zg H2 H'/\H' D=some (.lst ys)/\ys.length=i/\LR R H' ys (as.take i)
def V0{as:List α}{H2:Hp}{D:Addr}(hD:H2 D=none):jz R as H2 D 0 [] (upd H2 D (.lst [])):=⟨ze hD _,upd_same,rfl,by rw[ul];exact .nil⟩
def Ji(hR:∀H H' p a,yF H H'->R H p a->R H' p a){m:Nat}{H2 H3 H4:Hp}{D:Addr}{i:Nat}{ys:List V}{p:Addr}{as:List α}{a:α}(hD:H2 D=none)(hm:m<1000000)(iv:jz R as H2 D i ys H3)(hi:i<m)(ha:as[i]?=some a)(g4:zg H3 H4)(hp:R H4 p a):vg m (jz R as H2 D) D i (.ref p) H4:=by
 obtain⟨g3',hD3,hy,hall⟩:=iv;have hD4:=g4 _ _ hD3;refine cw_put hi hD4 (by rw[hy];exact Fk hi (Fk hm (by decide))) ⟨yt (g3'.trans g4) hD,upd_same,by rw[pM,hy];rfl,?_⟩
 rw[uP,ha];exact((hall.ts hR (zI g4)).snoc hp).ts hR (xX hD4)
end
def Jl{X:Cx}{K':pF}(hK:X.K=K')(hu:X.A.units+64<cLine):OpR X (UZ .Eq) (rEqD K'):=by subst hK;exact wY hu
theorem Zt{X:Cx}(hu:X.A.units+80<cLine):vm X KPp:=zcd (by lia)
def QH(H:Hp)(p:Addr)(r:Q3):Prop:=H p=some (.tup [.int r.x,.int r.y,.int r.w])/\PQ 700 r
def wJ:∀(H H':Hp)(p:Addr)(r:Q3),yF H H'->QH H p r->QH H' p r:=λ_ _ _ _ g h=>⟨g _ _ h.1,h.2⟩
def QH.same{H H':Hp}{p:Addr}{r:Q3}(h:QH H p r)(g:zg H H'):QH H' p r:=⟨g _ _ h.1,h.2⟩
def QH.tb{H:Hp}{p:Addr}{r:Q3}(h:QH H p r){n:Nat}(hn:700<=n:=by decide):TB n H p r.x r.y r.w:=⟨h.1,Pt.bd h.2 hn⟩
def LR.same{H H':Hp}{ys:List V}{ps:List Q3}(h:LR QH H ys ps)(g:zg H H'):LR QH H' ys ps:=h.ts wJ (zI g)
def LR.take{α:Type}{R:Hp->Addr->α->Prop}{H:Hp}{ys:List V}{as:List α}(h:LR R H ys as)(n:Nat):LR R H (ys.take n) (as.take n):=by
 refine⟨by rw[pV,pV,h.1],λj v z=>?_⟩
 rw[BY] at z
 by_cases c:j<n
 ·rw[if_pos c] at z;obtain⟨q,e,f,g,t⟩:=h.2 _ v z;exact⟨q,e,f,by rw[BY,if_pos c];exact g,t⟩
 ·rw[if_neg c] at z
  cases z
section
variable{P:pi}{w:uR}{K:pF}{mg:Str->Option pB}{base:Heap}{ad:Nat->Addr}{fd:Nat->UN}
def small10k{n:Nat}(h:n<=2000000):n<sizeLine:=Ud h (by decide)
def StE(n:Nat)(H:Hp)(s:Addr)(e:Q3×Q3):Prop:=StQ n H s e.1 e.2
def yb{n:Nat}:∀(H H':Hp)(p:Addr)(e:Q3×Q3),yF H H'->StE n H p e->StE n H' p e:=λ_ _ _ _ g h=>h.ts g
variable{m:Nat}
def StE.mono{n:Nat}{H:Hp}{s:Addr}{e:Q3×Q3}(h:StE m H s e)(hm:m<=n):StE n H s e:=StQ.mono h hm
def LRe.mono{n:Nat}{H:Hp}{ys:List V}{ss:List (Q3×Q3)}(h:LR (StE m) H ys ss)(hm:m<=n):LR (StE n) H ys ss:=⟨h.1,λj v z=>by
 obtain⟨p,e,e1,e2,r⟩:=h.2 j v z;exact⟨p,e,e1,e2,r.mono hm⟩⟩
def vJ{n:Nat}{H H':Hp}{R s:Addr}{ys:List V}{ss:List (Q3×Q3)}{e:Q3×Q3}(h:LR (StE n) H ys ss)(g:zg H H')(hR:H' R=some (.lst ys))(hs:StE n H' s e):LR (StE n) (upd H' R (.lst (ys++[.ref s]))) (ys++[.ref s]) (ss++[e]):=
 ((h.ts yb (zI g)).snoc hs).ts yb (xX hR)
variable{H2:Hp}
def Xq{a b:Q3}{p p1 p2:Addr}(hp1:H2 p=none)(hp2:upd H2 p (HO.tup [.int a.x,.int a.y,.int a.w]) p1=none)(hp3:upd (upd H2 p (HO.tup [.int a.x,.int a.y,.int a.w])) p1 (HO.tup [.int b.x,.int b.y,.int b.w]) p2=none){n:Nat}(ha:PQ n a)(hb:PQ n b)(hab:bq a b=true):
  zg H2 (upd (upd (upd H2 p (HO.tup [.int a.x,.int a.y,.int a.w])) p1 (HO.tup [.int b.x,.int b.y,.int b.w])) p2 (HO.tup [.ref p,.ref p1]))/\StE n (upd (upd (upd H2 p (HO.tup [.int a.x,.int a.y,.int a.w])) p1 (HO.tup [.int b.x,.int b.y,.int b.w])) p2 (HO.tup [.ref p,.ref p1])) p2 (a,b):=by
 have g3':=ze hp1 (HO.tup [.int a.x,.int a.y,.int a.w]);have a3:upd H2 p (HO.tup [.int a.x,.int a.y,.int a.w]) p=some (HO.tup [.int a.x,.int a.y,.int a.w]):=upd_same;generalize upd H2 p (HO.tup [.int a.x,.int a.y,.int a.w])=H3 at*;have g4:=ze hp2 (HO.tup [.int b.x,.int b.y,.int b.w]);have b4:upd H3 p1 (HO.tup [.int b.x,.int b.y,.int b.w]) p1=some (HO.tup [.int b.x,.int b.y,.int b.w]):=upd_same;generalize upd H3 p1 (HO.tup [.int b.x,.int b.y,.int b.w])=H4 at*;have g5:=ze hp3 (HO.tup [.ref p,.ref p1]);exact⟨g3'.trans (g4.trans g5),p,p1,upd_same,⟨g5 _ _ (g4 _ _ a3),ha⟩,⟨g5 _ _ b4,hb⟩,hab⟩
def xN{x y:Int}(h1:x.natAbs<2^60)(h2:y.natAbs<2^60):PQ 60 ⟨x,y,1⟩:=⟨show(0:Int)<1 by decide,Jd _ _,h1,h2,show(1:Int).natAbs<2^60 by decide⟩
theorem ZD{n:Nat}{x y:Int}(hn:1<=n)(h1:x.natAbs<2^n)(h2:y.natAbs<2^n):PQ n ⟨x,y,1⟩:=⟨show(0:Int)<1 by decide,Jd _ _,h1,h2,show 1<2^n from Nat.one_lt_two_pow (by lia)⟩
def sp_qlow:Sp:=λvs H Q _=>∃(n:Nat)(x y w:Int),vs=[.int x,.int y,.int w]/\n<=8000/\Bd3 n x y w/\0<w/\∀p H'(r:Q3),zg H H'->PtQ n H' p r->r.x*w=x*r.w->r.y*w=y*r.w->Q (.ref p) H'
def sp_qpt:Sp:=λvs H Q _=>∃n k:Int,vs=[.int n,.int k]/\∀p H'(r:Q3),zg H H'->PtQ 60 H' p r->Q (.ref p) H'
def zbb:Sp:=λvs H Q _=>∃(c:Int)(m:Nat),vs=[.int c,.int m]/\m<=30/\∀(R:Addr)(xs:List Int)(H':Hp),H R=none->zg H H'->H' R=some (.lst (xs.map V.int))->xs.length=m->Q (.ref R) H'
def zd5:Sp:=λvs H Q _=>∃(n:Nat)(p q:Addr)(a b:Q3),vs=[.ref p,.ref q]/\n<=900/\PtQ n H p a/\PtQ n H q b/\∀(s:Addr)(H':Hp)(e:Q3×Q3),zg H H'->StE (n+1) H' s e->Q (.ref s) H'
def YQ:Sp:=λvs H Q _=>∃(l:Addr)(xs:List Int)(m:Nat),vs=[.ref l,.int m]/\m<=8/\H l=some (.lst (xs.map V.int))/\xs.length=2*m+4/\∀(R:Addr)(ys:List V)(ss:List (Q3×Q3))(H':Hp),H R=none->zg H H'->H' R=some (.lst ys)->ys.length=m->LR (StE 61) H' ys ss->Q (.ref R) H'
def zet:Sp:=λvs H Q _=>∃(c:Int)(m:Nat)(d:Int),vs=[.int c,.int m,.int d]/\m<=8/\∀(R:Addr)(ys:List V)(ss:List (Q3×Q3))(H':Hp),H R=none->zg H H'->H' R=some (.lst ys)->ys.length=m->LR (StE 62) H' ys ss->Q (.ref R) H'
def zcf:Sp:=λvs H Q _=>∃c:Int,vs=[.int c]/\∀(R:Addr)(ys:List V)(ss:List (Q3×Q3))(H':Hp),H R=none->zg H H'->H' R=some (.lst ys)->ys.length<=42->LR (StE 61) H' ys ss->Q (.ref R) H'
def sp_qoff:Sp:=λvs H Q _=>∃(l:Addr)(ys:List V)(ss:List (Q3×Q3))(f:Int),vs=[.ref l,.int f]/\f.natAbs<2^60/\H l=some (.lst ys)/\ys.length<=42/\LR (StE 62) H ys ss/\∀(R:Addr)(zs:List V)(ts:List (Q3×Q3))(H':Hp),H R=none->zg H H'->H' R=some (.lst zs)->zs.length=ys.length->LR (StE 130) H' zs ts->Q (.ref R) H'
def sp_qstr(K:pF):Sp:=λvs H Q _=>∃(a:Addr)(ns:List Int)(k m:Nat),vs=[.ref a,.int k,.int m]/\SqL K H a (ns.map V.int)/\ns.length<=63/\k<=60/\m<=8/\∀(R:Addr)(ys:List V)(ss:List (Q3×Q3))(H':Hp),H R=none->zg H H'->H' R=some (.lst ys)->ys.length<=45->LR (StE 130) H' ys ss->Q (.ref R) H'
def VZ(x y w:Int):x.fdiv (G (G x y) w)*w=x*w.fdiv (G (G x y) w)/\y.fdiv (G (G x y) w)*w=y*w.fdiv (G (G x y) w):=
 ⟨Zj (wl (by rw[G3];exact Wc x y w)) (wl (by rw[G3];exact qT x y w)),Zj (wl (by rw[G3];exact WA x y w)) (wl (by rw[G3];exact qT x y w))⟩
noncomputable def zj(ns:List Nat):List V:=ns.map λk:Nat=>V.int (k:Int)
variable{j:Nat}
def wX{ns:List Nat}{v:V}(h:(zj ns)[j]?=some v):∃k:Nat,ns[j]?=some k/\v=V.int (k:Int):=by
 unfold zj at h;rw[pQ] at h;obtain⟨k,h1,h2⟩:=Qh.mp h;exact⟨k,h1,h2.symm⟩
def yL(ns:List Nat):(zj ns).length=ns.length:=pL ..
def vt(a b:List Nat):zj (a++b)=zj a++zj b:=ug
variable{k:Nat}
def YB{ns:List Nat}{f:Nat->Bool}(h:ns[j]?=some k):(ns.take (j+1)).filter f=(ns.take j).filter f++if f k=true then[k] else[]:=by
 rw[uP,h,Bb]
 congr 1
 show List.filter f [k]=_
 by_cases c:f k=true
 ·rw[if_pos c,AX,if_pos c];rfl
 ·rw[if_neg c,AX,if_neg c];rfl
noncomputable def zQ:Q3×Q3:=(⟨0,0,1⟩,⟨0,0,1⟩)
theorem jx{ns:List Nat}{f:Nat->Bool}{H3:Hp}{D:Addr}{i k:Nat}{us:List V}{c:Bool}(hi:i<(zj ns).length)(hk:ns[i]?=some k)(hn:ns.length<=19999)(g:zg H2 H3)(hD:H2 D=none)(hD3:H3 D=some (.lst us))(eu:us=zj ((ns.take i).filter f))(ef:f k=c):
  if c=true then vg (zj ns).length (λj us H'=>zg H2 H'/\H' D=some (.lst us)/\us=zj ((ns.take j).filter f)) D i (.int (k:Int)) H3 else vw (zj ns).length (λj us H'=>zg H2 H'/\H' D=some (.lst us)/\us=zj ((ns.take j).filter f)) i H3:=by
 refine ite2 (λc'=>cw_put hi hD3 (small10k ?_) ⟨yt g hD,upd_same,?_⟩) (λc'=>cw_skip hi (ys:=us) ⟨g,hD3,?_⟩)
 ·rw[eu,yL];refine uK (QP _ _) ?_;rw[pV];lia
 ·rw[YB hk,ef,if_pos c',vt,eu];rfl
 ·rw[YB hk,ef,if_neg c',UF,eu]
def Ys(T:Txt K mg ad fd):zx P w K mg base CX0 1 (ad 24) (fd 24) ["_law_one","_law_other"] jT:=by
 refine T.law_divisor.fn.ok JJ (λvs H Q E h=>?_) (λcdv A outer s H vs Q E hr h=>?_)
 ·obtain⟨a,b,rfl,_⟩:=h;rfl
 obtain⟨a,b,rfl,q⟩:=h;refine⟨_,
  (pss2
   (Jv uO (zF wR (pv 1) za (nomark _)) (zq (ps_par (i:=0) (j:=1) rfl JJ.nd rfl rfl (by decide) rfl rfl (pa2 (pv 1) zd (zf jL (pv 0) (pv 1)) zv) rfl)))
   (zo (ye Wq rfl T.b_abs Y5 (pa1 (pv 0) zd))))
  ,?_⟩
 dsimp! [L2.start]
 simp! [];refine VU (iv_ldiv a b H) (λσ _=>(getI σ 1).natAbs) ⟨rfl,_,_,rfl,rfl⟩ ?_
  (λσ H Q Q' m h=>by obtain⟨v,e,s,k,e2,q⟩:=h;exact⟨v,e,s,k,e2,m _ _ q⟩)
 rintro σ H' ⟨rfl,x,y,rfl,e⟩;simp! [];refine ite2 (λc=>?_) (λc=>?_)
 ·have hy:y≠0:=by simpa using c
  exact⟨hy,⟨rfl,_,_,rfl,(G_fmod x y).trans e⟩,zd0 hy⟩
 ·have hy:y=0:=by simpa using c
  subst hy;rw[G_end,e];exact q
noncomputable def kQ(r:Q3):List Key:=[.inl r.x,.inl r.y,.inl r.w]
def wS{p q:Q3}(h:kQ p=kQ q):p=q:=by
 obtain⟨x,y,w⟩:=p;obtain⟨x',y',w'⟩:=q;unfold kQ at h
 cases h;rfl
def JS(r:Q3):(kQ r).map kV=[.int r.x,.int r.y,.int r.w]:=rfl
def jJ(H:Hp)(kvs:List (List Key×V))(g:Int)(ps:List Q3):Prop:=∀p,p∈ps->∃b,zw kvs (kQ p)=some (.ref b)/\H b=some (.tup [.int (kyQ g p).1,.int (kyQ g p).2])
def jJ.ts{H H':Hp}{kvs:List (List Key×V)}{g:Int}{ps:List Q3}(h:jJ H kvs g ps)(t:yF H H'):jJ H' kvs g ps:=λp hp=>by
 obtain⟨b,e,hb⟩:=h p hp;exact⟨b,e,t _ _ hb⟩
def zce:Sp:=λvs H Q _=>∃(l:Addr)(ys:List V)(ps:List Q3),vs=[.ref l]/\H l=some (.lst ys)/\ys.length<=2000000/\LR QH H ys ps/\∀d kvs g(qs:List Q3) H',zg H H'->H' d=some (.dT kvs)->0<g->(∀p,p∈ps->p.w<=g)->jJ H' kvs g ps->kvs.map UG=qs.map kQ->qs.Nodup->(∀p,p∈qs↔p∈ps)->qs.length<=ps.length->Q (.ref d) H'
variable{o:HO}
def Vu{H:Hp}{D:Addr}{kvs:List (List Key×V)}(h:H D=some (.dT kvs)):yF H (upd H D o):=λb xs q=>by
 rw[zh (λz=>by rw[z,h] at q;cases q)]
 exact q
theorem X9(T:Txt K mg ad fd):zx P w K mg base CX0 1 (ad 8) (fd 8) ["points"] zce:=by
 refine T.order_keys.fn.ok vO (λvs H Q E h=>?_) (λcdv A outer s H vs Q E hr h=>?_)
 ·obtain⟨l,ys,ps,rfl,_⟩:=h;rfl
 obtain⟨l,ys,ps,rfl,hl,hn,hp,k⟩:=h;have hs:∀p,p∈ps->0<p.w/\p.x.natAbs<2^720/\p.y.natAbs<2^720/\p.w.natAbs<2^720:=λp hp'=>by
  obtain⟨j,hj⟩:=uY.mp hp';have hj':j<ys.length:=by rw[hp.1];exact(pD.mp hj).1
  obtain⟨b,r,_,e2,hr⟩:=hp.at hj';rw[hj] at e2
  cases e2;exact⟨hr.2.pos,zU hr.2.lx (by decide),zU hr.2.ly (by decide),zU hr.2.lw (by decide)⟩
 refine⟨_,
  (pss5
   (zu 1 vO.nd (zcr (zbm rfl) rfl T.b_max ZW (pa1 (wM vO ["P"] [] (yk (pv 0)) (λcl C fp s2 H2 xe=>⟨(zB 0 (show UK (["P"]:List Str) from by decide+kernel)),x8,(zb zc (pv 0) za)⟩)) Xt) (pk_cons za pk_nil)))
   (zu 2 vO.nd (zf zy (pv 1) (pv 1)))
   (zu 3 vO.nd WY)
   (yo uO rfl (yk (pv 0)) (zB 4 vO.nd) (zq (zK (YF (Yv (yS hr) (pv 4) (pv 3))) (zq (jB (yS hr) (pv 3) (pv 4) (yc (pa2 (zf x9 (zf zy (zb zc (pv 4) za) (pv 2)) (zb zc (pv 4) za)) zv (zf x9 (zf zy (zb zc (pv 4) za) (pv 2)) (zb zc (pv 4) za)) zv)) rfl)) zL)))
   (zo (pv 3)))
  ,?_⟩
 dsimp! [L2.start]
 simp! [tCBK];refine yT ?_;simp! [yi];refine⟨⟨_,.of hl⟩,λD hD=>?_⟩;refine xp (xs:=ys) (λi zs H'=>zg H H'/\H' D=some (.lst zs)/\zs=((ps.take i).map λp=>V.int p.w)) ⟨ze hD _,upd_same,by rw[ul];rfl⟩ (λi zs H' p=>.of (p.1 _ _ hl)) ?_ ?_
 ·rintro i zs H1 v hi hv ⟨g1,hD1,ez⟩;obtain⟨p,r,rfl,hr',hq⟩:=hp.2 i v hv;have hq1:H1 p=some (.tup [.int r.x,.int r.y,.int r.w]):=g1 _ _ hq.1;simp! [hq1];refine cw_put hi hD1 ?_ ⟨yt g1 hD,upd_same,?_⟩
  ·rw[ez,pL,pV];exact small10k (by have:=Cd i ps.length;lia)
  ·rw[uP,hr',ez,ug];rfl
 ·rintro zs H1 ⟨g1,hD1,ez⟩;rw[pz (by rw[hp.1];exact pJ _)] at ez
  refine⟨D,ps.map λp=>p.w,1,rfl,rfl,by rw[hD1,ez,UD];rfl,λg gm gi=>?_⟩
  have g0:0<g:=by
   rcases gi with gi|gi
   ·obtain⟨p,hp',e⟩:=uG.mp gi;have:=(hs p hp').1;lia
   ·lia
  have gs:g.natAbs<2^720:=by
   rcases gi with gi|gi
   ·obtain⟨p,hp',e⟩:=uG.mp gi;rw[←e];exact(hs p hp').2.2.2
   ·rw[gi.2];decide
  refine⟨g,rfl,g,rfl,cbig gs gs,λd hd=>?_⟩;have gg:(g*g).natAbs<2^1440:=by
   rw[gd];exact po (GN gs gs) (by rw[←Hs];exact AG (by decide) (by decide))
  refine yq ?_;simp! [yi];have g2:=ze hd (HO.dT []);refine⟨⟨_,.of (g2 _ _ (g1 _ _ hl))⟩,?_⟩;refine xC (K:=K) (a:=l) (xs:=ys) (λi σ H'=>zg H1 H'/\∃(kvs:List (List Key×V))(o:Option V),σ=[some (.ref l),some (.int g),some (.int (g*g)),some (.ref d),o]/\H' d=some (.dT kvs)/\kvs.length<=i/\jJ H' kvs g (ps.take i)/\(∀p,(zw kvs (kQ p)).isSome=true->p∈ps.take i)/\∃qs:List Q3,kvs.map UG=qs.map kQ/\qs.Nodup/\(∀p,p∈qs↔p∈ps.take i)/\qs.length<=i)
   ⟨g2,[],none,rfl,upd_same,pJ _,λp hp'=>(by rw[ul] at hp';cases hp'),λp z=>(by cases z),[],rfl,.nil,λp=>(by rw[ul]),pJ _⟩ (λi σ H' _ iv=>.of (iv.1 _ _ (g1 _ _ hl))) ?_ ?_
  ·intro _ _;rintro i v σ H2 hi ⟨g3,kvs,o,rfl,hd2,hk,ky,kb,qs,q1,q2,q3,q4⟩;obtain⟨p,r,rfl,hr',hq⟩:=hp.2 i v hi;have hq2:H2 p=some (.tup [.int r.x,.int r.y,.int r.w]):=g3 _ _ (g1 _ _ hq.1);simp! [qP,qv,hq2];obtain⟨r0,rx,ry,rw'⟩:=hs r (pS hr');have wn:r.w≠0:=by lia
   rw[uP,hr'];refine⟨_,.t (k:=kQ r) hd2 hq2,ite2 (λc=>⟨cbig rx gg,cdivb wn rw',cbig ry gg,cdivb wn rw',λt ht=>?_⟩) λc=>?_⟩
   ·rw[Ar _ (by lia),Ar _ (by lia)]
    have nv:zw kvs (kQ r)=none:=by
     cases e:zw kvs (kQ r) with
     |none=>rfl
     |some u=>rw[e] at c;cases c
    have g4:=ze ht (HO.tup [V.int (r.x*(g*g)/r.w),V.int (r.y*(g*g)/r.w)]);have ht4:upd H2 t (HO.tup [V.int (r.x*(g*g)/r.w),V.int (r.y*(g*g)/r.w)]) t=some (HO.tup [V.int (r.x*(g*g)/r.w),V.int (r.y*(g*g)/r.w)]):=upd_same;generalize upd H2 t (HO.tup [V.int (r.x*(g*g)/r.w),V.int (r.y*(g*g)/r.w)])=H4 at*;have hd4:=g4 _ _ hd2;refine⟨_,.t (k:=kQ r) hd4 (g4 _ _ hq2) (small10k (by have:=(pD.mp hi).1;lia)),yt (g3.trans g4) hd,_,upd_same,uK (wZ _ _ _) (by lia),λp' hp'=>?_,λp' z=>?_,qs++[r],?_,?_,λp'=>?_,by rw[pM];exact AY q4⟩
    ·rw[vh]
     by_cases e:kQ p'=kQ r
     ·rw[if_pos e];have e':=wS e;subst e';exact⟨t,rfl,Vu hd4 _ _ ht4⟩
     ·rw[if_neg e];rcases pP.mp hp' with hp'|hp'
      ·obtain⟨b,e1,e2⟩:=ky p' hp';exact⟨b,e1,Vu hd4 _ _ (g4 _ _ e2)⟩
      ·have e':p'=r:=by simpa using hp'
       exact absurd (by rw[e']) e
    ·rw[vh] at z
     by_cases e:kQ p'=kQ r
     ·rw[wS e];exact pI _ (by simp)
     ·rw[if_neg e] at z;exact uD _ (kb p' z)
    ·rw[qE _ nv,ug,ug,q1];rfl
    ·exact gL.mpr ⟨q2,Ui _ _,λa ha b hb e=>by
      rw[pN.mp hb] at e;subst e;obtain⟨b',e1,_⟩:=ky a ((q3 a).mp ha);rw[nv] at e1
      cases e1⟩
    ·rw[pP,pP,q3]
     simp
   ·have z:(zw kvs (kQ r)).isSome=true:=by
     cases e:(zw kvs (kQ r)).isSome with
     |true=>rfl
     |false=>exact absurd (by rw[e];rfl) c
    refine⟨g3,kvs,hd2,by lia,λp' hp'=>?_,λp' z'=>uD _ (kb p' z'),qs,q1,q2,λp'=>?_,by lia⟩
    rcases pP.mp hp' with hp'|hp'
    ·exact ky p' hp'
    ·have e':p'=r:=by simpa using hp'
     rw[e'];exact ky r (kb r z)
    ·rw[pP,q3];refine⟨.inl,λh=>h.elim id λh=>?_⟩;have e':p'=r:=by simpa using h
     rw[e'];exact kb r z
  ·rintro σ H2 ⟨g3,kvs,o,rfl,hd2,hk,ky,kb,qs,q1,q2,q3,q4⟩;rw[pz (by rw[hp.1];exact pJ _)] at ky q3
   simp! [];exact k d kvs g qs H2 (g1.trans g3) hd2 g0 (λp hp'=>gm _ (uG.mpr ⟨p,hp',rfl⟩)) ky q1 q2 q3 (by rw[←hp.1];exact q4)
def S2H(H:Hp)(p:Addr)(e:Q3×Q3):Prop:=∃c d,H p=some (.tup [.ref c,.ref d])/\QH H c e.1/\QH H d e.2
def y6:∀(H H':Hp)(p:Addr)(e:Q3×Q3),yF H H'->S2H H p e->S2H H' p e:=λ_ _ _ _ g⟨c,d,h1,h2,h3⟩=>⟨c,d,g _ _ h1,wJ _ _ _ _ g h2,wJ _ _ _ _ g h3⟩
def zbl:Sp:=λvs H Q _=>∃(l:Addr)(ys:List V)(ss:List (Q3×Q3)),vs=[.ref l]/\H l=some (.lst ys)/\ys.length<=63/\LR S2H H ys ss/\∀D zs H',H D=none->zg H H'->H' D=some (.lst zs)->zs.length=2*ys.length->LR QH H' zs (ss.flatMap λs=>[s.1,s.2])->Q (.ref D) H'
theorem zbk(T:Txt K mg ad fd):zx P w K mg base CX0 1 (ad 11) (fd 11) ["stretches"] zbl:=by
 refine T.ends_of.fn.ok WJ (λvs H Q E h=>?_) (λcdv A outer s H vs Q E hr h=>?_)
 ·obtain⟨l,ys,ss,rfl,_⟩:=h;rfl
 obtain⟨l,ys,ss,rfl,hl,hn,hs,k⟩:=h;refine⟨_,
  (pss3
   (zu 1 WJ.nd (xq yV))
   (yo uO rfl (yk (pv 0)) (zB 2 WJ.nd) (zq (xk (xO uh AL BM Vs (pv 1) (pa1 (pv 2) zd)))))
   (zo (pv 1)))
  ,?_⟩
 dsimp! [L2.start]
 simp! [];intro D hD;have gD:=ze hD (HO.lst []);refine yq ?_;simp! [yi];refine⟨⟨_,.of (gD _ _ hl)⟩,?_⟩;refine xC (K:=K) (a:=l) (xs:=ys) (λi σ H'=>zg H H'/\∃(zs:List V)(o:Option V),σ=[some (.ref l),some (.ref D),o]/\H' D=some (.lst zs)/\zs.length=2*i/\LR QH H' zs ((ss.take i).flatMap λs=>[s.1,s.2])) ⟨gD,[],none,rfl,upd_same,rfl,by rw[ul];exact .nil⟩ (λi σ H' _ iv=>.of (iv.1 _ _ hl)) ?_ ?_
 ·intro _ _;rintro i v σ H2 hi ⟨g2,zs,o,rfl,hD2,hz,hq⟩;obtain⟨p,e,rfl,he',c,d,h1,h2,h3⟩:=hs.2 i v hi;have hi':=(pD.mp hi).1;have h1':=g2 _ _ h1;simp! [h1'];refine⟨xa hD2,D,p,zs,[.ref c,.ref d],rfl,rfl,hD2,h1',uq (small1000 (n:=zs.length+2) (by lia)),yt g2 hD,_,upd_same,by rw[pM,hz];show 2*i+2=_;lia,?_⟩
  rw[uP,he',List.flatMap_append];exact(hq.app ((LR.one (R:=QH) (h2.same g2)).app (.one (h3.same g2)))).ts wJ (xX hD2)
 ·rintro σ H2 ⟨g2,zs,o,rfl,hD2,hz,hq⟩;simp! [];rw[pz (Up hs.1.symm)] at hq;exact k D zs H2 hD g2 hD2 hz hq
noncomputable def lamFor(st:Stmt):Pos:=match(yD st).getD 6 (.Pass ⟨0,0,0,0⟩) with
 |.For _ (.Call _ _ (⟨_,.Lambda _ _ _ lp,_⟩::_) _) _ _ _=>lp
 |_=>⟨0,0,0,0⟩
noncomputable def wP:Pos:=lamFor xA
noncomputable def qlN:Str:=(gu "near_pairs" (zp xA) 0 0 .none).qual++"<lambda>"
def P2H(H:Hp)(p:Addr)(a:Int×Int):Prop:=H p=some (.tup [.int a.1,.int a.2])
def p2_ts:∀(H H':Hp)(p:Addr)(a:Int×Int),yF H H'->P2H H p a->P2H H' p a:=λ_ _ _ _ g h=>g _ _ h
theorem VB(a b:Int×Int):ltK a b=lt2 a b:=by
 unfold ltK lt2 lexB
 by_cases h:a.1=b.1
 ·rw[if_pos h,if_pos h]
  by_cases h2:a.2=b.2
  ·rw[if_pos h2];exact(decide_eq_false (by lia)).symm
  ·rw[if_neg h2]
 ·rw[if_neg h,if_neg h]
def PrH(H:Hp)(p:Addr)(e:Nat×Nat):Prop:=H p=some (.tup [.int (e.1:Int),.int (e.2:Int)])
def vD:∀(H H':Hp)(p:Addr)(a:Nat×Nat),yF H H'->PrH H p a->PrH H' p a:=λ_ _ _ _ g h=>g _ _ h
def ym.same{P:Addr}{H H' H'':Hp}(g:ym P H H')(g':zg H' H''):ym P H H'':=λb u nb e=>g' _ _ (g b u nb e)
def V4{n i:Nat}(h:i<n):(xc n).getD i .non=V.int (i:Int):=by
 unfold xc;rw[pE,pQ,Ci h];rfl
def lam_lst{H H':Hp}{tb Pa:Addr}{lp:Pos}{ql:Str}{xs:List V}(h:zE H tb lp ql)(g:ym Pa H H')(hp:H Pa=some (.lst xs)):zE H' tb lp ql:=by
 obtain⟨ps,h1,h2,h3⟩:=h;refine⟨ps,g _ _ (λz=>by rw[z,hp] at h1;cases h1) h1,h2,h3.imp id λ⟨c,e,hc⟩=>⟨c,e,g _ _ (λz=>by rw[z,hp] at hc;cases hc) hc⟩⟩
noncomputable def tri:Nat->Nat
 |0=>0
 |n+1=>tri n+n
theorem YW:∀{m n:Nat},m<=n->tri m<=tri n
 |m,0,h=>by rw[Hq.mp h];exact pJ _
 |m,n+1,h=>by
  rcases EI m (n+1) with c|c
  ·exact uK (YW (Fq c)) (gU _ _)
  ·rw[EQ h c];exact pJ _
def JX{n:Nat}(h:n<=63):tri n<=1953:=YW (n:=63) h
inductive ZP (tb:Addr) (lp:Pos) (ql:Str) (vs:List V) (H:Hp) (Q:VK) (E:XK):Prop
 |mk (l:Addr) (ys:List V) (ss:List (Q3×Q3)) (_:vs=[.ref l]) (_:H l=some (.lst ys)) (_:ys.length<=63) (_:LR S2H H ys ss) (_:zE H tb lp ql) (_:∀D pv(ps:List (Nat×Nat))(g:Int) H',H D=none->ym tb H H'->zE H' tb lp ql->H' D=some (.lst pv)->pv.length<=tri ys.length->LR PrH H' pv ps->0<g->(∀p,p∈ss.flatMap (λs=>[s.1,s.2])->p.w<=g)->(∀e,e∈ps->e.1<ys.length/\e.2<ys.length)->(∀a b,a<ys.length->b<ys.length->a≠b->Nigh g (ss.getD a zQ) (ss.getD b zQ)->(a,b)∈ps∨(b,a)∈ps)->Q (.ref D) H'):ZP tb lp ql vs H Q E
theorem zcp(T:Txt K mg ad fd)(hK:K.In base)(hB:∀b,b∈([ad 45,ad 47,ad 49]:List Addr)->base.BuiltinsAt mg b):zx P w K mg base CX0 3 (ad 19) (fd 19) ["stretches"] (ZP (ad 49) wP qlN):=by
 refine T.near_pairs_c.ok yU (λvs H Q E h=>?_) (λA outer s H vs Q E hr h=>?_)
 ·obtain⟨l,ys,ss,rfl,_⟩:=h;rfl
 obtain⟨l,ys,ss,rfl,hl,hn,hs,lt,k⟩:=h;refine⟨_,
  (pss8
   (zu 1 yU.nd (j8 (X9 T) (hr.mono (by lia)) rfl T.order_keys.mg T.order_keys.fn.kp T.order_keys.bn .nil pass0 (pa1 (j8 (zbk T) (hr.mono (by lia)) rfl T.ends_of.mg T.ends_of.fn.kp T.ends_of.bn .nil pass0 (pa1 (pv 0) zd)) zZ)))
   (zu 2 yU.nd (wM yU ["S"] [1] (yk (pv 0)) (λcl C fp s2 H2 xe=>⟨(zB 0 (show UK (["S","keys"]:List Str) from by decide+kernel)),x8,(ye (VR rfl) rfl T.b_min V3 (pa2 (zb zc (xK (yS hr) (pv 1) (zb zc (pv 0) za) λ_ _=>rfl) za) zr (zb zc (xK (yS hr) (pv 1) (zb zc (pv 0) za) λ_ _=>rfl) za) zr))⟩)))
   (zu 3 yU.nd (wM yU ["S"] [1] (yk (pv 0)) (λcl C fp s2 H2 xe=>⟨(zB 0 (show UK (["S","keys"]:List Str) from by decide+kernel)),x8,(ye (zey rfl) rfl T.b_max ZW (pa2 (zb zc (xK (yS hr) (pv 1) (zb zc (pv 0) za) λ_ _=>rfl) za) zr (zb zc (xK (yS hr) (pv 1) (zb zc (pv 0) za) λ_ _=>rfl) za) zr))⟩)))
   (zu 4 yU.nd (wM yU ["S"] [1] (yk (pv 0)) (λcl C fp s2 H2 xe=>⟨(zB 0 (show UK (["S","keys"]:List Str) from by decide+kernel)),x8,(xK (yS hr) (pv 1) (zb zc (pv 0) za) λ_ _=>rfl)⟩)))
   (zu 5 yU.nd (xq yV))
   (zu 6 yU.nd (xq yV))
   (yo uO rfl (yk (zc3 (P:=ad 49) (c0:=ad 48) (x:="k") (clos:=[("stretches",s.heap.objs.size+1),("keys",s.heap.objs.size+9)]) (js:=[0,1]) (Zt (hu80 hr)) hr rfl T.b_sorted rfl T.b_range (pa1 (ye xy rfl T.b_len xi (pa1 (pv 0) zd)) zZ) ⟨rfl,rfl,rfl,rfl,(show ∀y,y∈(["stretches","keys"]:List Str)->_=some QX from by decide+kernel),by decide+kernel,(show ∀z,z∈(Scope.names _)->z.2=QX->z.1∈(["stretches","keys"]:List Str) from by decide+kernel)⟩ (show UK (["stretches","keys"]:List Str) from by decide+kernel) (.cons rfl rfl rfl (.cons rfl rfl rfl .nil)) rfl rfl rfl (Cj hK T.near_pairs_c.hd) (hB _ (by simp)) (λ_ _ _ _=>rfl) (by intro fa2 c2 A2 s3 H3 hu2;exact(xK (by show A2.units+3+1<cLine;lia) (pv 2) (zb zc (zb zR (pv 1) (pv 0)) za) λ_ _=>rfl)))) (zB 7 yU.nd) (pss7
   (zu 8 yU.nd (xK (yS hr) (pv 1) (zb zc (zb zR (pv 0) (pv 7)) za) λ_ _=>rfl))
   (zu 9 yU.nd (zb zR (pv 2) (pv 7)))
   (zu 10 yU.nd (zb zR (pv 3) (pv 7)))
   (wA 6 yU ["other"] [4,8] (yk (pv 6)) (λcl C fp s2 H2 xe=>⟨(zB 0 (show UK (["other","lasts","first"]:List Str) from by decide+kernel)),(wO (zF (op_ge2 (hu64 hr)) (zb zR (pv 1) (pv 0)) (pv 2) (nomark _))),(pv 0)⟩))
   (wA 11 yU ["other"] [2,10] (yk (pv 6)) (λcl C fp s2 H2 xe=>⟨(zB 0 (show UK (["other","lows","high"]:List Str) from by decide+kernel)),(wO (zF op_le (zb zR (pv 1) (pv 0)) (pv 2) (nomark _))),(pv 0)⟩))
   (xk (xO uh AL BM zdg (pv 5) (pa1 (wM yU ["other"] [3,7,9] (yk (pv 11)) (λcl C fp s2 H2 xe=>⟨(zB 0 (show UK (["other","highs","number","low"]:List Str) from by decide+kernel)),(wO (zF op_ge (zb zR (pv 1) (pv 0)) (pv 3) (nomark _))),(yc (pa2 (pv 2) zd (pv 0) zd))⟩)) Xt)))
   (xk (xO uh QY QZ wq (pv 6) (pa1 (pv 7) zd)))))
   (zo (pv 5)))
  ,?_⟩
 dsimp! [L2.start]
 simp! [];refine⟨l,ys,ss,rfl,hl,hn,hs,λD zs H1 hD g1 hD1 n1 hq=>?_⟩;refine⟨D,zs,_,rfl,hD1,by lia,hq,λd kvs g qs H2 g2 hd2 gp gm ky q1 q2 q3 q4=>?_⟩
 have g02:=g1.trans g2;have hl2:=g02 _ _ hl;have hs2:=hs.ts y6 (zI g02);have kk:∀(i:Nat)(e:Q3×Q3),ss[i]?=some e->(∃b,zw kvs (kQ e.1)=some (.ref b)/\H2 b=some (.tup [.int (kyQ g e.1).1,.int (kyQ g e.1).2]))/\∃b,zw kvs (kQ e.2)=some (.ref b)/\H2 b=some (.tup [.int (kyQ g e.2).1,.int (kyQ g e.2).2]):=λi e he=>
  ⟨ky e.1 (Ax.mpr ⟨e,pS he,by simp⟩),ky e.2 (Ax.mpr ⟨e,pS he,by simp⟩)⟩
 refine yT ?_;simp! [yi];refine⟨⟨_,.of hl2⟩,λLa hL1=>?_⟩;refine xp (xs:=ys) (λi us H'=>zg H2 H'/\H' La=some (.lst us)/\us=((ss.take i).map (xI g)).map V.int) ⟨ze hL1 _,upd_same,by rw[ul];rfl⟩ (λi us H' q=>.of (q.1 _ _ hl2)) ?_ ?_
 ·rintro i us H3 v hi hv ⟨g3,hL3,eu⟩;obtain⟨p,e,rfl,he',c,c2,h1,h2,h3⟩:=hs2.2 i v hv;obtain⟨⟨b,b1,b2⟩,b',b3,b4⟩:=kk i e he';have h1':=g3 _ _ h1;simp! [xZ,h1'];refine⟨_,by rw[←b1];exact .t (k:=kQ e.1) (g3 _ _ hd2) (g3 _ _ h2.1),b,rfl,_,g3 _ _ b2,_,at1,_,by rw[←b3];exact .t (k:=kQ e.2) (g3 _ _ hd2) (g3 _ _ h3.1),b',rfl,_,g3 _ _ b4,_,at1,_,rfl,_,rfl,?_⟩
  refine cw_put hi hL3 (small1000 (by rw[eu,pL,pL,pV];lia)) ⟨yt g3 hL1,upd_same,?_⟩
  rw[uP,he',ug,ug,eu];rfl
 rintro us1 H3 ⟨g3,hL3,eu1⟩;have hl3:=g3 _ _ hl2;refine yT ?_;simp! [yi];refine⟨⟨_,.of hl3⟩,λLb hL2=>?_⟩;refine xp (xs:=ys) (λi us H'=>zg H3 H'/\H' Lb=some (.lst us)/\us=((ss.take i).map (xF g)).map V.int) ⟨ze hL2 _,upd_same,by rw[ul];rfl⟩ (λi us H' q=>.of (q.1 _ _ hl3)) ?_ ?_
 ·rintro i us H4 v hi hv ⟨g4,hL4,eu⟩;obtain⟨p,e,rfl,he',c,c2,h1,h2,h3⟩:=hs2.2 i v hv;obtain⟨⟨b,b1,b2⟩,b',b3,b4⟩:=kk i e he';have g24:=g3.trans g4;have h1':=g24 _ _ h1;simp! [xZ,h1'];refine⟨_,by rw[←b1];exact .t (k:=kQ e.1) (g24 _ _ hd2) (g24 _ _ h2.1),b,rfl,_,g24 _ _ b2,_,at1,_,by rw[←b3];exact .t (k:=kQ e.2) (g24 _ _ hd2) (g24 _ _ h3.1),b',rfl,_,g24 _ _ b4,_,at1,_,rfl,_,rfl,?_⟩
  refine cw_put hi hL4 (small1000 (by rw[eu,pL,pL,pV];lia)) ⟨yt g4 hL2,upd_same,?_⟩
  rw[uP,he',ug,ug,eu];rfl
 rintro us2 H4 ⟨g4,hL4,eu2⟩;have g24:=g3.trans g4;have hl4:=g24 _ _ hl2;refine yT ?_;simp! [yi];refine⟨⟨_,.of hl4⟩,λLc hLc=>?_⟩;refine xp (xs:=ys) (jz (λH p s=>P2H H p (kyQ g s.2)) ss H4 Lc) (V0 hLc) (λi us H' q=>.of (q.1 _ _ hl4)) ?_ ?_
 ·rintro i us H5 v hi hv iv;obtain⟨g5,hL5,lu,hu⟩:=id iv;obtain⟨p,e,rfl,he',c,c2,h1,h2,h3⟩:=hs2.2 i v hv;obtain⟨_,b',b3,b4⟩:=kk i e he';have g25:=g24.trans g5;have h1':=g25 _ _ h1;simp! [xZ,h1'];refine⟨_,by rw[←b3];exact .t (k:=kQ e.2) (g25 _ _ hd2) (g25 _ _ h3.1),?_⟩
  exact Ji (R:=λH p s=>P2H H p (kyQ g s.2)) (a:=e) (λ_ _ _ _=>p2_ts _ _ _ _) hLc (by lia) iv hi he' (.refl _) (g25 _ _ b4)
 rintro us3 H5 ⟨g5,hL5,lu3,hu3⟩;rw[pz (Up hs.1.symm)] at eu1 eu2 hu3;have g25:=g24.trans g5;intro Pa hPa;have nLa:La≠Pa:=zN ((g4.trans g5) _ _ hL3) hPa;have nLb:Lb≠Pa:=zN (g5 _ _ hL4) hPa;have nLc:Lc≠Pa:=zN hL5 hPa;have nl_:l≠Pa:=zN (g25 _ _ hl2) hPa;have nd_:d≠Pa:=zN (g25 _ _ hd2) hPa;have s6:=ze hPa (HO.lst []);have hPa6:upd H5 Pa (HO.lst []) Pa=some (.lst []):=upd_same;generalize upd H5 Pa (HO.lst [])=H6 at*;intro Sa hSa;have s7:=ze hSa (HO.lst []);have hSa7:upd H6 Sa (HO.lst []) Sa=some (.lst []):=upd_same;have nPS:Pa≠Sa:=zN hPa6 hSa;generalize upd H6 Sa (HO.lst [])=H7 at*;have g27:=(g25.trans s6).trans s7;have g07:=g02.trans g27;have hl7:=g27 _ _ hl2;have hd7:=g27 _ _ hd2;have lt7:=lt.same g07;refine yq ?_;simp! [yi,Zu,hl7];refine⟨ys.length,rfl,by lia,[V.ref l,V.ref d],rfl,lt7,λc' H8 st8 lt8 hc8=>⟨λi zs H'=>H'=H8/\zs.length=i/\LR (λH p s=>P2H H p (kyQ g s.1)) H8 zs (ss.take i),⟨⟨rfl,rfl,by rw[ul];exact .nil⟩,λi zs H' q=>q.1▸hc8,λi zs H' q=>q.2.1,?_,?_⟩⟩⟩
 ·rintro i zs' H' v hv ⟨rfl,lz,hz⟩;have hi:i<ys.length:=by
   have:=(pD.mp hv).1;unfold xc at this;rw[pL,QM] at this;exact this
  have ev:v=V.int (i:Int):=by
   have:=V4 hi;rw[pE,hv] at this;exact this
  subst ev;obtain⟨p,e,e1,he',c,c2,h1,h2,h3⟩:=hs2.at hi;obtain⟨⟨b,b1,b2⟩,_⟩:=kk i e he';have hp8:=st8.tup lt7 (g27 _ _ h1);have hl8:=st8.lst lt7 hl7;have hd8:=st8 d _ (lt7.ne hd7 λ_ z=>nomatch z) hd7;have ai:atI ys (i:Int)=some (.ref p):=yp e1;simp! [xZ,hl8,ai,hp8];refine⟨_,by rw[←b1];exact .t (k:=kQ e.1) hd8 (st8.tup lt7 (g27 _ _ h2.1)),?_⟩
  refine⟨by rw[pM,lz];rfl,?_⟩
  rw[uP,he'];exact hz.snoc (R:=λH p(s:Q3×Q3)=>P2H H p (kyQ g s.1)) (a:=e) (st8.tup lt7 (g27 _ _ b2))
 ·rintro zs' H' ⟨rfl,lz,hz⟩;have lv:(xc ys.length).length=ys.length:=by unfold xc;rw[pL,QM]
  rw[lv] at lz hz;rw[lv];refine⟨_,⟨λi=>kyQ g (ss.getD i zQ).1,λi hi=>?_,rfl⟩,λD3 pp hD3 or ep=>?_⟩
  ·rw[pz (Up hs.1.symm)] at hz;obtain⟨q,e,e1,e2,e3⟩:=hz.at hi;refine⟨q,e1,?_⟩;show H' q=some (HO.tup [V.int (kyQ g (ss.getD i zQ).1).1,V.int (kyQ g (ss.getD i zQ).1).2]);rw[pE,e2];exact e3
  ·have eos:(pp.toList.map λi=>(xc ys.length).getD i .non)=zj pp.toList:=by
    unfold zj;exact BC λi hi=>V4 (Qr.mp (or.mem_iff.mp hi))
   have up:∀a b:Nat,a<b->b<ys.length->lt2 (kyQ g (ss.getD (pp.getD b 0) zQ).1) (kyQ g (ss.getD (pp.getD a 0) zQ).1)=false:=λa b ab hb=>by
    have:=zb8 (n:=ys.length) (Wk.of sto2 λi=>kyQ g (ss.getD i zQ).1) (by lia)
    simp only[VB] at ep;rw[←ep (by lia)] at this
    exact this a b ab hb
   rw[eos];have nPD:Pa≠D3:=zN (st8.lst lt7 (s7 _ _ hPa6)) hD3;have s9:=ze hD3 (HO.lst (zj pp.toList));have hD9:upd H' D3 (HO.lst (zj pp.toList)) D3=some (.lst (zj pp.toList)):=upd_same;generalize upd H' D3 (HO.lst (zj pp.toList))=H9 at*;refine⟨D3,rfl,⟨_,.of hD9⟩,?_⟩;have st9:ym (ad 49) H7 H9:=ym.same st8 s9;have lt9:=lt8.same s9;have hl9:=st9.lst lt7 hl7;have hd9:=st9 d _ (lt7.ne hd7 λ_ z=>nomatch z) hd7;have hLa9:=st9.lst lt7 ((((g4.trans g5).trans s6).trans s7) _ _ hL3);have hLb9:=st9.lst lt7 (((g5.trans s6).trans s7) _ _ hL4);have hLc9:=st9.lst lt7 ((s6.trans s7) _ _ hL5);have hPa9:=st9.lst lt7 (s7 _ _ hPa6);have hSa9:=st9.lst lt7 hSa7;have tup9:∀{b:Addr}{xs:List V},H2 b=some (.tup xs)->H9 b=some (.tup xs):=λh=>st9.tup lt7 (g27 _ _ h);have hu9:LR (λH p(s:Q3×Q3)=>P2H H p (kyQ g s.2)) H9 us3 ss:=LR.ts (R:=λH p(s:Q3×Q3)=>P2H H p (kyQ g s.2)) (λ_ _ _ _ t h=>t _ _ h) hu3 (λb xs q=>st9.tup lt7 ((s6.trans s7) _ _ q));have pn:∀a,a<ys.length->pp.getD a 0<ys.length:=λa ha=>or.get (by lia) a
   refine xC (K:=K) (a:=D3) (xs:=zj pp.toList) (λi σ H'=>∃(Sx:Addr)(st:List Nat)(pv:List V)(ps:List (Nat×Nat))(o7 o8 o9 o10 o11:Option V),σ=[some (V.ref l),some (V.ref d),some (V.ref La),some (V.ref Lb),some (V.ref Lc),some (V.ref Pa),some (V.ref Sx),o7,o8,o9,o10,o11]/\ym Pa H9 H'/\H' Pa=some (.lst pv)/\LR PrH H' pv ps/\pv.length<=tri i/\H' Sx=some (.lst (zj st))/\st.length<=i/\(∀k,k∈st->k<ys.length)/\Sx≠Pa/\
    (∀a,a<i->pp.getD a 0∈st∨∃m,m<i/\lt2 (kyQ g (ss.getD (pp.getD a 0) zQ).2) (kyQ g (ss.getD (pp.getD m 0) zQ).1)=true)/\
    (∀a b,a<b->b<i->Nigh g (ss.getD (pp.getD a 0) zQ) (ss.getD (pp.getD b 0) zQ)->(pp.getD b 0,pp.getD a 0)∈ps)/\∀e,e∈ps->e.1<ys.length/\e.2<ys.length)
    ⟨Sa,[],[],[],none,none,none,none,none,rfl,.refl _ _,hPa9,.nil,pJ _,hSa9,pJ _,λk hk=>(by cases hk),nPS.symm,λa ha=>(by lia),λa b _ hb=>(by lia),λe he=>(by cases he)⟩ (λi σ H' _ iv=>?_) ?_ ?_
   ·obtain⟨Sx,st,pv,ps,o7,o8,o9,o10,o11,_,sT,_⟩:=iv;exact .of (sT D3 _ nPD.symm hD9)
   ·intro _ _;rintro i v σ H10 hi ⟨Sx,st,pv,ps,o7,o8,o9,o10,o11,rfl,sT,hPv,hpv,lpv,hSx,lst_,stn,nSP,hB_,hC_,hD_⟩;have hi':i<ys.length:=by
     have:=(pD.mp hi).1;unfold zj at this;rw[pL,or.length_eq,QM] at this;exact this
    have ev:v=V.int ((pp.getD i 0:Nat):Int):=by
     unfold zj at hi;rw[pQ] at hi;obtain⟨m,m1,m2⟩:=Qh.mp hi;rw[←m2,pZ,←ui,m1];rfl
    subst ev;have hm:=pn i hi';generalize em:pp.getD i 0=m at*;obtain⟨p,e,e1,he',c,c2,h1,h2,h3⟩:=hs2.at hm;obtain⟨⟨b,b1,b2⟩,_⟩:=kk m e he';have tup10:∀{b:Addr}{xs:List V},H2 b=some (.tup xs)->H10 b=some (.tup xs):=λ{b xs} h=>sT b _ (λz=>by have:=tup9 h;rw[z,hPa9] at this;cases this) (tup9 h)
    have h1':=tup10 h1;have hl10:=sT _ _ nl_ hl9;have hd10:=sT _ _ nd_ hd9;have hLa10:=sT _ _ nLa hLa9;have hLb10:=sT _ _ nLb hLb9;have hLc10:=sT _ _ nLc hLc9;have am:atI ys (m:Int)=some (.ref p):=yp e1;have aLa:atI us1 (m:Int)=some (.int (xI g e)):=yp (by rw[eu1,pQ,pQ,he'];rfl)
    have aLb:atI us2 (m:Int)=some (.int (xF g e)):=yp (by rw[eu2,pQ,pQ,he'];rfl)
    simp! [xZ,hl10,hLa10,hLb10,am,aLa,aLb,h1'];refine⟨_,by rw[←b1];exact .t (k:=kQ e.1) hd10 (tup10 h2.1),?_⟩
    refine yT ?_;simp! [yi];refine⟨⟨_,.of hSx⟩,λSn hSn=>?_⟩
    let fF:Nat->Bool:=λk=> !lt2 (kyQ g (ss.getD k zQ).2) (kyQ g e.1)
    refine xp (xs:=zj st) (λj us H'=>zg H10 H'/\H' Sn=some (.lst us)/\us=zj ((st.take j).filter fF)) ⟨ze hSn _,upd_same,rfl⟩ (λj us H' q=>.of (q.1 _ _ hSx)) ?_ ?_
    ·rintro j us H11 v hj hv ⟨g11,hSn11,eu⟩;obtain⟨kk',k1,rfl⟩:=wX hv;have hk:=stn kk' (pS k1);obtain⟨q,e',e1',e2',e3'⟩:=hu9.at (j:=kk') (by rw[hu9.1,←hs.1];exact hk)
     have hLc11:=g11 _ _ hLc10;have hq11:=g11 _ _ (sT q _ (λz=>by have z3:=e3';rw[z] at z3;rw[show H9 Pa=some (HO.tup _) from z3] at hPa9;cases hPa9) e3')
     have aLc:atI us3 (kk':Int)=some (.ref q):=yp e1';have hb11:=g11 _ _ (tup10 b2);simp! [hLc11,aLc];refine⟨q,b,_,_,_,_,rfl,rfl,hq11,hb11,_,rfl,?_⟩;refine jx hj k1 (by lia) g11 hSn hSn11 eu ?_
     show(!lt2 (kyQ g (ss.getD kk' zQ).2) (kyQ g e.1))=_
     rw[pE,e2'];rfl
    rintro us4 H11 ⟨g11,hSn11,eu4⟩;rw[yL,Qu] at eu4;subst eu4;have lst2:(st.filter fF).length<=i:=uK (QP _ _) lst_;have hst2:∀k,k∈st.filter fF->k<ys.length:=λk hk=>stn k (uW.mp hk).1;have hLa11:=g11 _ _ hLa10;have hLb11:=g11 _ _ hLb10;refine yT ?_;simp! [yi];refine⟨⟨_,.of hSn11⟩,λNa hNa=>?_⟩
    let f2:Nat->Bool:=λk=>decide (xI g (ss.getD k zQ)<=xF g e)
    refine xp (xs:=zj (st.filter fF)) (λj us H'=>zg H11 H'/\H' Na=some (.lst us)/\us=zj (((st.filter fF).take j).filter f2)) ⟨ze hNa _,upd_same,rfl⟩ (λj us H' q=>.of (q.1 _ _ hSn11)) ?_ ?_
    ·rintro j us H12 v hj hv ⟨g12,hNa12,eu⟩;obtain⟨kk',k1,rfl⟩:=wX hv;have hk:=hst2 kk' (pS k1);obtain⟨q,e',e1',e2',_⟩:=hs.at (j:=kk') hk;have aL:atI us1 (kk':Int)=some (.int (xI g e')):=yp (by rw[eu1,pQ,pQ,e2'];rfl)
     have hLa12:=g12 _ _ hLa11;simp! [hLa12,aL];refine jx hj k1 (by lia) g12 hNa hNa12 eu ?_
     show decide (xI g (ss.getD kk' zQ)<=xF g e)=_
     rw[pE,e2'];rfl
    rintro us5 H12 ⟨g12,hNa12,eu5⟩;rw[yL,Qu] at eu5;subst eu5;have lst3:((st.filter fF).filter f2).length<=i:=uK (QP _ _) lst2;have hst3:∀k,k∈(st.filter fF).filter f2->k<ys.length:=λk hk=>hst2 k (uW.mp hk).1;have hLb12:=g12 _ _ hLb11;have hPv12:=(g11.trans g12) _ _ hPv;refine⟨xa hPv12,?_⟩;refine yT ?_;simp! [yi];refine⟨⟨_,.of hNa12⟩,λNb hNb=>?_⟩
    let f3:Nat->Bool:=λk=>decide (xF g (ss.getD k zQ)≥xI g e)
    refine xp (xs:=zj ((st.filter fF).filter f2)) (λj us H'=>zg H12 H'/\H' Nb=some (.lst us)/\us.length<=j/\LR PrH H' us (((((st.filter fF).filter f2).take j).filter f3).map λk=>(m,k))) ⟨ze hNb _,upd_same,pJ _,.nil⟩ (λj us H' q=>.of (q.1 _ _ hNa12)) ?_ ?_
    ·rintro j us H13 v hj hv ⟨g13,hNb13,lu,hu⟩;obtain⟨kk',k1,rfl⟩:=wX hv;have hk:=hst3 kk' (pS k1);obtain⟨q,e',e1',e2',_⟩:=hs.at (j:=kk') hk;have aL:atI us2 (kk':Int)=some (.int (xF g e')):=yp (by rw[eu2,pQ,pQ,e2'];rfl)
     have hLb13:=g13 _ _ hLb12;simp! [hLb13,aL];have ef:f3 kk'=decide (xI g e<=xF g e'):=by
      show decide (xF g (ss.getD kk' zQ)≥xI g e)=_
      rw[pE,e2'];rfl
     refine ite2 (λc=>λt ht=>?_) (λc=>cw_skip hj (ys:=us) ⟨g13,hNb13,by lia,?_⟩)
     ·have g14:=ze ht (HO.tup [V.int (m:Int),V.int (kk':Int)]);have ht14:upd H13 t (HO.tup [V.int (m:Int),V.int (kk':Int)]) t=some (HO.tup [V.int (m:Int),V.int (kk':Int)]):=upd_same;generalize upd H13 t (HO.tup [V.int (m:Int),V.int (kk':Int)])=H14 at*;have hNb14:=g14 _ _ hNb13;have hjl:j<i:=by
       rw[yL] at hj;lia
      refine cw_put hj hNb14 (small1000 (by lia)) ⟨yt (g13.trans g14) hNb,upd_same,by rw[pM];exact AY lu,?_⟩
      rw[YB k1,ef,if_pos c,ug];exact((hu.ts vD (zI g14)).snoc (a:=(m,kk')) ht14).ts vD (xX hNb14)
     ·rw[YB k1,ef,if_neg c,UF];exact hu
    rintro us6 H13 ⟨g13,hNb13,lu6,hu6⟩;rw[yL] at lu6 hu6;rw[Qu] at hu6;have g1013:=g11.trans (g12.trans g13);have hPa13:=g13 _ _ hPv12;have hSn13:=(g12.trans g13) _ _ hSn11;have nSnP:Sn≠Pa:=(zN hPv hSn).symm;have eM:ss.getD m zQ=e:=by rw[pE,he'];rfl
    have t63:=JX (n:=i) (by lia)
    have tsu:tri (i+1)=tri i+i:=rfl;refine⟨Pa,Nb,pv,us6,rfl,rfl,hPa13,hNb13,uq (small10k (n:=pv.length+us6.length) (by lia)),?_⟩
    have hSn14:upd H13 Pa (HO.lst (pv++us6)) Sn=some (.lst (zj (st.filter fF))):=by rw[zh nSnP];exact hSn13
    refine⟨xa hSn14,_,hSn14,small1000 (by rw[yL];lia),λb o nb eb=>?_,st.filter fF++[m],pv++us6,?_,ps++((((st.filter fF).filter f2).filter f3).map λk=>(m,k)),?_,?_,?_,?_,λk hk=>?_,nSnP,λa ha=>?_,λa b ab hb nab=>?_,λx hx=>?_⟩
    ·have h10:=sT b o nb eb;rw[zh (zN h10 hSn),zh nb];exact g1013 _ _ h10
    ·rw[zh nSnP.symm];exact upd_same
    ·exact(((hpv.ts vD (zI g1013)).app hu6).ts vD (xX hPa13)).ts vD (xX hSn14)
    ·rw[pM];lia
    ·rw[vt];rfl
    ·rw[pM];exact AY lst2
    ·rcases pP.mp hk with h|h
     ·exact hst2 k h
     ·rw[pN.mp h];exact hm
    ·by_cases ai:a=i
     ·subst ai;rw[em];exact .inl (pI _ (pN.mpr rfl))
     ·rcases hB_ a (by lia) with h|⟨m',hm',z⟩
      ·cases ef:fF (pp.getD a 0) with
       |true=>exact .inl (uD _ (uW.mpr ⟨h,ef⟩))
       |false=>
        refine .inr ⟨i,by lia,?_⟩
        rw[em,eM];have ef':(!lt2 (kyQ g (ss.getD (pp.getD a 0) zQ).2) (kyQ g e.1))=false:=ef;rw[FS] at ef';exact ef'
      ·exact .inr ⟨m',by lia,z⟩
    ·by_cases bi:b=i
     ·subst bi;rw[em] at nab⊢;rw[eM] at nab;obtain⟨n1',n2',n3',n4'⟩:=nab;have hst:pp.getD a 0∈st:=by
       rcases hB_ a ab with h|⟨m',hm',z⟩
       ·exact h
       ·exfalso
        have u:=up m' b hm' hi';rw[em,eM] at u;have:lt2 (kyQ g (ss.getD (pp.getD a 0) zQ).2) (kyQ g e.1)=true:=by
         by_cases eq:kyQ g e.1=kyQ g (ss.getD (pp.getD m' 0) zQ).1
         ·rw[eq];exact z
         ·rcases sto2.tot _ _ eq with q|q
          ·rw[u] at q;cases q
          ·exact sto2.tr _ _ _ z q
        rw[this] at n1'
        cases n1'
      refine pI _ (uG.mpr ⟨pp.getD a 0,uW.mpr ⟨uW.mpr ⟨uW.mpr ⟨hst,?_⟩,?_⟩,?_⟩,rfl⟩)
      ·show(!lt2 (kyQ g (ss.getD (pp.getD a 0) zQ).2) (kyQ g e.1))=true
       rw[n1'];rfl
      ·exact decide_eq_true n3'
      ·exact decide_eq_true n4'
     ·exact uD _ (hC_ a b ab (by lia) nab)
    ·rcases pP.mp hx with h|h
     ·exact hD_ x h
     ·obtain⟨q,hq',rfl⟩:=uG.mp h;exact⟨hm,hst3 q (uW.mp hq').1⟩
   ·rintro σ H10 ⟨Sx,st,pv,ps,o7,o8,o9,o10,o11,rfl,sT,hPv,hpv,lpv,hSx,lst_,stn,nSP,hB_,hC_,hD_⟩;simp! [];have ln:(zj pp.toList).length=ys.length:=by unfold zj;rw[pL,or.length_eq,QM]
    rw[ln] at lpv hC_;refine k Pa pv ps g H10 ?_ (λb o nb e=>sT b o ?_ (st9 b o nb (g07 _ _ e))) (lam_lst lt9 sT hPa9) hPv lpv hpv gp gm hD_ λa b ha hb ab nab=>?_
    ·exact(g02.trans g25).free hPa
    ·intro z;rw[z,(g02.trans g25).free hPa] at e
     cases e
    ·have fnd:∀a,a<ys.length->∃ia,ia<ys.length/\pp.getD ia 0=a:=λa ha=>by
      have hm:a∈pp.toList:=or.mem_iff.mpr (Qr.mpr ha);obtain⟨ia,hia⟩:=uY.mp hm;have l1:=(pD.mp hia).1;have l2:=or.length_eq;rw[QM] at l2;refine⟨ia,by lia,?_⟩
      rw[pZ,←ui,hia];rfl
     obtain⟨ia,a1,a2⟩:=fnd a ha;obtain⟨ib,b1,b2⟩:=fnd b hb;rcases Fn ia ib with z|z|z
     ·have:=hC_ ia ib z b1 (by rw[a2,b2];exact nab)
      rw[a2,b2] at this;exact .inr this
     ·exact absurd (by rw[←a2,←b2,z]) ab
     ·have:=hC_ ib ia z a1 (by rw[a2,b2];exact nab.symm)
      rw[a2,b2] at this;exact .inl this
theorem WI(T:Txt K mg ad fd):zx P w K mg base CX0 1 (ad 21) (fd 21) ["_law_script","_law_k"] (Js K):=by
 refine T.law_cell_at.fn.ok zbj (λvs H Q E h=>?_) (λcdv A outer s H vs Q E hr h=>?_)
 ·obtain⟨l,ns,k,rfl,_⟩:=h;rfl
 obtain⟨l,ns,k,rfl,hl,h0,q⟩:=h;refine⟨_,
  (pss2
   (zK (zF wI (pv 1) (ye Xc rfl T.b_len xi (pa1 (pv 0) zd)) (nomark _)) (zq (zo (zb vH (pv 0) (pv 1)))) zL)
   (zo za))
  ,?_⟩
 dsimp! [L2.start]
 simp only[zC,qi,jt,Y9,qh,wE,gName,jN,tVar,tC,tOp,tUn,rI,rI0,rU,rEq,rNe,jW,tB,jg,qf,tOr,jR,tOrV,j9,tIf,tCB,v5,xx,yy,qt,jK,gTup,gCons,gNil,L2.start,rIsi,rIxT,rIxL,cx_K,tyN_non,tyN_bl,tyN_int,tyN_str,isi_ii,isi_ib,XJ,Y6,Xu,WH,isi_tt,XH,Wy,WO,Xn,X6,isi_ll,scal_ii,scal_bb,sz0,sz1,sz2,sz3,sz4,pj,Ux,uZ,BP,As,Aw,Al,UF,Bh,Bi,DL,DM,UL,V.int.injEq,V.bl.injEq,V.ref.injEq,V.ty.injEq,BQ,and_true,true_and,exists_eq_left,exists_eq_left',exists_and_left,exists_and_right,exists_eq,exists_eq',and_assoc,Df,Dg,Uz,Bu,uI,if_true,if_false,reduceIte,EN,decide_true,decide_false];refine⟨_,.inl hl,?_⟩;rw[pL];refine ite2 (λc=>?_) (λc=>?_)
 ·have c':k<(ns.length:Int):=of_decide_eq_true c;have hk:k.toNat<ns.length:=by lia
  refine⟨_,hl,_,?_,q⟩;have ek:k=((k.toNat:Nat):Int):=by lia
  have z:atI (ns.map V.int) ((k.toNat:Nat):Int)=some (.int (ns.getD k.toNat 0)):=yp (by
   rw[pQ,pG hk,pE,pG hk]<;>rfl)
  rw[←ek] at z;exact z
 ·have c':¬k<(ns.length:Int):=λz=>c (decide_eq_true z);have e:ns.getD k.toNat 0=0:=by rw[pE,UJ (by lia)];rfl
  rw[e] at q;exact q
def jP(T:Txt K mg ad fd):zx P w K mg base CX0 2 (ad 25) (fd 25) ["_law_x","_law_y","_law_w"] sp_qlow:=by
 refine T.law_lowest.fn.ok JY (λvs H Q E h=>?_) (λcdv A outer s H vs Q E hr h=>?_)
 ·obtain⟨n,x,y,w,rfl,_⟩:=h;rfl
 obtain⟨n,x,y,w,rfl,hn,b,hw,k⟩:=h;refine⟨_,
  (pss2
   (zu 3 JY.nd (zt (Ys T) T.law_divisor hr (pa2 (zt (Ys T) T.law_divisor hr (pa2 (pv 0) zd (pv 1) zd)) zZ (pv 2) zd)))
   (zo (yc (pa3 (zf x9 (pv 0) (pv 3)) zv (zf x9 (pv 1) (pv 3)) zv (zf x9 (pv 2) (pv 3)) zv))))
  ,?_⟩
 dsimp! [L2.start]
 simp! [jT];have lt:=zU (g3_lt (x:=x) (y:=y) hw b.2.2) hn;exact⟨cdivb (Y7 hw) lt,cdivb (Y7 hw) lt,cdivb (Y7 hw) lt,λp hp=>k p _ ⟨_,_,_⟩ (ze hp _) ⟨upd_same,g3_pt hw b.1 b.2.1 b.2.2⟩ (VZ x y w).1 (VZ x y w).2⟩
theorem jQ(T:Txt K mg ad fd):zx P w K mg base CX0 3 (ad 26) (fd 26) ["_law_number","_law_kind"] sp_qpt:=by
 refine T.law_point.fn.ok WL (λvs H Q E h=>?_) (λcdv A outer s H vs Q E hr h=>?_)
 ·obtain⟨n,k,rfl,_⟩:=h;rfl
 obtain⟨n,kd,rfl,k⟩:=h;refine⟨_,
  (pss3
   (zK (zF yQ (pv 1) za (nomark _)) (zq (zo (zt (jP T) T.law_lowest hr (pa3 (zf yh (zf zW (pv 0) za) za) zv (zf yh (zf zW (zf yw (pv 0) za) za) za) zv (zf zO za (zf zW (zf yw (pv 0) za) za)) zv)))) zL)
   (zK (zF yQ (pv 1) za (nomark _)) (pss3
   (zu 2 WL.nd (zf yh (zf zW (zf wc (pv 0) za) za) za))
   (zu 3 WL.nd (zf yh (zf zW (zf wc (pv 0) za) za) za))
   (zo (zt (jP T) T.law_lowest hr (pa3 (pv 2) zd (pv 3) zd (zf zO za (zf zW (pv 0) za)) zv)))) zL)
   (zo (yc (pa3 (zf yh (zf zW (pv 0) za) za) zv (zf yh (zf zW (zf yw (pv 0) za) za) za) zv za zP))))
  ,?_⟩
 dsimp! [L2.start]
 simp! [];have e60:(2:Nat)^60=1152921504606846976:=rfl;refine ite2 (λ_=>⟨by decide,⟨by decide,by decide⟩,by decide,⟨by decide,by decide⟩,by decide,60,_,_,_,rfl,by decide,⟨by lia,by lia,by lia⟩,by lia,λp H' r g h _ _=>k p H' r g h⟩) (λ_=>ite2 (λ_=>?_) λ_=>?_)
 ·exact⟨.inr ⟨by decide,by decide⟩,by decide,.inr ⟨by decide,by decide⟩,by decide,by decide,60,_,_,_,rfl,by decide,⟨by lia,by lia,by lia⟩,by lia,λp H' r g h _ _=>k p H' r g h⟩
 ·exact⟨by decide,⟨by decide,by decide⟩,by decide,λp hp=>k p _ ⟨_,_,_⟩ (ze hp _) ⟨upd_same,xN (by lia) (by lia)⟩⟩
theorem zcv(T:Txt K mg ad fd):zx P w K mg base CX0 1 (ad 23) (fd 23) ["_law_cell","_law_many"] zbb:=by
 refine T.law_stream.fn.ok qo (λvs H Q E h=>?_) (λcdv A outer s H vs Q E hr h=>?_)
 ·obtain⟨c,m,rfl,_⟩:=h;rfl
 obtain⟨c,m,rfl,hm,k⟩:=h;refine⟨_,
  (pss4
   (zu 2 qo.nd (xq yV))
   (zu 3 qo.nd (zf zO (zf zW (pv 0) za) za))
   (yo uO rfl (wW rfl T.b_range (pa1 (zf zO (pv 1) za) zv)) (zB 4 qo.nd) (pss2
   (zu 3 qo.nd (zf zW (zf zO (zf zO (zf zy (pv 3) (pv 3)) (zf wc za (pv 3))) (pv 4)) za))
   (xk (xO uh QY QZ wq (pv 2) (pa1 (pv 3) zd)))))
   (zo (jf vV (pv 2) (jS za) jl)))
  ,?_⟩
 dsimp! [L2.start]
 simp! [];intro R hR;have gR:=ze hR (HO.lst []);refine⟨by decide,?_⟩
 refine yq ?_;simp! [wu];have m0:=Ut c (show(2147483647:Int)≠0 by decide)
 have m1:=Uf c (show(0:Int)<2147483647 by decide)
 refine⟨by lia,by lia,?_⟩
 rw[show((m:Int)+1).toNat=m+1 by lia]
 refine vQ (n:=m+1) (λi σ H'=>zg H H'/\∃(ms:List Int)(v:Int)(u:Option V),σ=[some (.int c),some (.int m),some (V.ref R),some (.int v),u]/\H' R=some (.lst (ms.map V.int))/\ms.length=i/\0<=v/\v<2147531918) ⟨gR,[],_,none,rfl,upd_same,rfl,by lia,by lia⟩ ?_ ?_
 ·intro _ _;rintro i σ H2 hi ⟨g2,ms,m,u,rfl,hR2,hn,m0,m1⟩;have e40:(2:Nat)^40=1099511627776:=rfl;have lm:m.natAbs<2^40:=by lia
  simp! [];have v0:=Ut (m*m+48271*m+(0+(i:Int))) (show(2147483647:Int)≠0 by decide)
  have v1:=Uf (m*m+48271*m+(0+(i:Int))) (show(0:Int)<2147483647 by decide)
  generalize (m*m+48271*m+(0+(i:Int)))%2147483647=v at*;exact⟨cbig lm lm,.inl ⟨by decide,by decide⟩,by decide,xa hR2,_,hR2,small1000 (by rw[pL];lia),yt g2 hR,ms++[v],by rw[ug];rfl,by rw[pM,hn];rfl,v0,by lia⟩
 ·rintro σ H2 ⟨g2,ms,v,u,rfl,hR2,hn,m0,m1⟩;simp! [hR2,zak];intro p hp;rw[←List.map_drop];exact k p (ms.drop 1) _ (g2.free hp) (g2.trans (ze hp _)) upd_same (by rw[pg,hn];rfl)
def vZ(T:Txt K mg ad fd):zx P w K mg base CX0 1 (ad 27) (fd 27) ["_law_one","_law_other"] Xb:=by
 refine T.law_before.fn.ok ze0 (λvs H Q E h=>?_) (λcdv A outer s H vs Q E hr h=>?_)
 ·obtain⟨p,q,x1,y1,w1,x2,y2,w2,rfl,_⟩:=h;rfl
 obtain⟨p,q,x1,y1,w1,x2,y2,w2,rfl,⟨hp,pp⟩,⟨hq,pq⟩,k⟩:=h;refine⟨_,
  (pss2
   (zK (zF wR (zf zy (zb zc (pv 0) za) (zb zc (pv 1) za)) (zf zy (zb zc (pv 1) za) (zb zc (pv 0) za)) (nomark _)) (zq (zo (wa wI (zf zy (zb zc (pv 0) za) (zb zc (pv 1) za)) (zf zy (zb zc (pv 1) za) (zb zc (pv 0) za)) (nomark _)))) zL)
   (zo (wa wI (zf zy (zb zc (pv 0) za) (zb zc (pv 1) za)) (zf zy (zb zc (pv 1) za) (zb zc (pv 0) za)) (nomark _))))
  ,?_⟩
 dsimp! [L2.start]
 simp! [hp,hq];refine⟨cbig pp.1 pq.2.2,cbig pq.1 pp.2.2,?_⟩;unfold bef at k;refine ite2 (λc=>?_) (λc=>?_)
 ·have c':¬x1*w2=x2*w1:=by simpa using c
  rw[if_neg c'] at k;exact⟨cbig pp.1 pq.2.2,cbig pq.1 pp.2.2,k⟩
 ·have c':x1*w2=x2*w1:=by simpa using c
  rw[if_pos c'] at k;exact⟨cbig pp.2.1 pq.2.2,cbig pq.2.1 pp.2.2,k⟩
theorem vR(T:Txt K mg ad fd):zx P w K mg base CX0 2 (ad 32) (fd 32) ["_law_one","_law_other"] zd5:=by
 refine T.law_part.fn.ok Ja (λvs H Q E h=>?_) (λcdv A outer s H vs Q E hr h=>?_)
 ·obtain⟨n,p,q,a,b,rfl,_⟩:=h;rfl
 obtain⟨n,p,q,a,b,rfl,hn,ha,hb,k⟩:=h;obtain⟨tl,htl,hk⟩:∃tl,PSs (xM CX0 P w K mg base ["_law_one","_law_other"] "_law_part" (zp jF) (ad 32) cdv A outer s H E).nox ((yD jF).drop 1) tl/\∀(q':Addr)(b':Q3)(H1:Hp),zg H H1->PtQ (n+1) H1 q' b'->¬a=b'->
   tl {nx:=λ_ H'=>Q .non H',rt:=Q} [some (.ref p),some (.ref q')] H1:=by
  refine⟨_,
  (pss2
   (zK (yE (zt (vZ T) T.law_before hr (pa2 (pv 0) zd (pv 1) zd))) (zq (zo (yc (pa2 (pv 0) zd (pv 1) zd)))) zL)
   (zo (yc (pa2 (pv 1) zd (pv 0) zd))))
   ,λq' b' H1 g1 hb' ne=>?_⟩
  skip
  have ha1:PtQ (n+1) H1 p a:=PtH.mono (ha.same g1) (gS _);simp! [];refine⟨p,q',_,_,_,_,_,_,rfl,ha1.tb (by lia),hb'.tb (by lia),_,rfl,ite2 (λc=>?_) λc=>?_⟩
  ·intro z hz;have g:=ze hz (HO.tup [V.ref p,V.ref q']);exact k z _ (a,b') (g1.trans g) ⟨p,q',upd_same,ha1.same g,hb'.same g,c⟩
  ·intro z hz;have g:=ze hz (HO.tup [V.ref q',V.ref p]);have cb:bq b' a=true:=by
    cases eb:bq b' a with
    |true=>rfl
    |false=>exact absurd (YE ha1.pt hb'.pt (Uq.mpr c) eb) ne
   exact k z _ (b',a) (g1.trans g) ⟨q',p,upd_same,hb'.same g,ha1.same g,cb⟩
 refine⟨_,
  (zD (zK (zF (wY (hu64 hr)) (pv 0) (pv 1) (nomark _)) (zq (zu 1 Ja.nd (yc (pa3 (zf zO (zb zc (pv 1) za) (zb zc (pv 1) za)) zv (zb zc (pv 1) za) zr (zb zc (pv 1) za) zr)))) zL)
   htl)
  ,?_⟩
 clear htl;simp! [hb.1];refine⟨_,_,xU (.of ha.1),xU (.of hb.1),wN _ _ _,wN _ _ _,_,rfl,?_⟩;rw[qw]
 by_cases eq:a.x=b.x/\a.y=b.y/\a.w=b.w
 ·rw[decide_eq_true eq];refine vC ?_;simp! [hb.1];intro z hz;have g:=ze hz (HO.tup [V.int (b.x+b.w),V.int b.y,V.int b.w]);have hp:=hb.pt;refine hk z ⟨b.x+b.w,b.y,b.w⟩ _ g ⟨upd_same,hp.pos,(zdo _ _ _).trans hp.one,WC hp.lx hp.lw,zU hp.ly (gS _),zU hp.lw (gS _)⟩ λe=>?_;have e1:a.x=b.x+b.w:=congrArg Q3.x e;have:=hp.pos;lia
 ·rw[decide_eq_false eq];exact yP (hk q b H (.refl _) (PtH.mono hb (gS _)) λe=>eq ⟨congrArg Q3.x e,congrArg Q3.y e,congrArg Q3.w e⟩)
theorem VF{H:Hp}{R:Addr}{ys:List V}{ss:List (Q3×Q3)}{i:Nat}(hR:H R=none)(g2:zg H H2)(hR2:H2 R=some (.lst ys))(hn:ys.length=i)(hi:i<60)(hp:LR (StE 61) H2 ys ss)(a b:Q3)(ha:PQ 60 a)(hb:PQ 60 b)(hab:bq a b=true):
  ∀p,H2 p=none->∀p1,upd H2 p (HO.tup [.int a.x,.int a.y,.int a.w]) p1=none->∀p2,upd (upd H2 p (HO.tup [.int a.x,.int a.y,.int a.w])) p1 (HO.tup [.int b.x,.int b.y,.int b.w]) p2=none->
   ∃zs,upd (upd (upd H2 p (HO.tup [.int a.x,.int a.y,.int a.w])) p1 (HO.tup [.int b.x,.int b.y,.int b.w])) p2 (HO.tup [.ref p,.ref p1]) R=some (HO.lst zs)/\zs.length<sizeLine/\
    zg H (upd (upd (upd (upd H2 p (HO.tup [.int a.x,.int a.y,.int a.w])) p1 (HO.tup [.int b.x,.int b.y,.int b.w])) p2 (HO.tup [.ref p,.ref p1])) R (HO.lst (zs++[.ref p2])))/\(zs++[V.ref p2]).length=i+1/\∃ts,
    LR (StE 61) (upd (upd (upd (upd H2 p (HO.tup [.int a.x,.int a.y,.int a.w])) p1 (HO.tup [.int b.x,.int b.y,.int b.w])) p2 (HO.tup [.ref p,.ref p1])) R (HO.lst (zs++[.ref p2]))) (zs++[.ref p2]) ts:=by
 intro p hp1 p1 hp2 p2 hp3;have g3':=ze hp1 (HO.tup [.int a.x,.int a.y,.int a.w]);have a3:upd H2 p (HO.tup [.int a.x,.int a.y,.int a.w]) p=some (HO.tup [.int a.x,.int a.y,.int a.w]):=upd_same;generalize upd H2 p (HO.tup [.int a.x,.int a.y,.int a.w])=H3 at*;have g4:=ze hp2 (HO.tup [.int b.x,.int b.y,.int b.w]);have b4:upd H3 p1 (HO.tup [.int b.x,.int b.y,.int b.w]) p1=some (HO.tup [.int b.x,.int b.y,.int b.w]):=upd_same;generalize upd H3 p1 (HO.tup [.int b.x,.int b.y,.int b.w])=H4 at*;have g5:=ze hp3 (HO.tup [.ref p,.ref p1]);have c5:upd H4 p2 (HO.tup [.ref p,.ref p1]) p2=some (HO.tup [.ref p,.ref p1]):=upd_same;generalize upd H4 p2 (HO.tup [.ref p,.ref p1])=H5 at*;have g25:=g3'.trans (g4.trans g5);have hR5:=g25 _ _ hR2;exact⟨ys,hR5,small1000 (by lia),yt (g2.trans g25) hR,by rw[pM,hn];rfl,_,vJ hp g25 hR5 (e:=(a,b)) ⟨p,p1,c5,⟨g5 _ _ (g4 _ _ a3),Pt.mono ha (by decide)⟩,⟨g5 _ _ b4,Pt.mono hb (by decide)⟩,hab⟩⟩
theorem zfa(T:Txt K mg ad fd):zx P w K mg base CX0 1 (ad 34) (fd 34) ["_law_xs","_law_many"] YQ:=by
 refine T.law_net.fn.ok vW (λvs H Q E h=>?_) (λcdv A outer s H vs Q E hr h=>?_)
 ·obtain⟨l,xs,m,rfl,_⟩:=h;rfl
 obtain⟨l,xs,m,rfl,hm,hl,hx,k⟩:=h;have kT:=@pss3;have kf:=@zu;have kr:=@xq;have kG:=@yV;have kD:=@yo;have kB:=@wW;have kh:=@pa1;have qpv:=@pv;have kz:=@zB;have kC:=@pss4;have wF:=@zf;have kc:=@zb;have xR:=@za;have ku:=@zK;have ko:=@zF;have kq:=@zq;have kE:=@xk;have kF:=@xO;have ki:=@yc;have ke:=@pa2;have km:=@pa3;have kx:=@zo;generalize @PE=QE,@PT=QT,@PW=QW,@PA=QA,@PS=QS,@PSs=QSs,@PG=QG,@PGs=QGs,@L2.PI=QI,@PO=QO,@PIf=QIf at kT kf kr kG kD kB kh qpv kz kC wF kc xR ku ko kq kE kF ki ke km kx⊢;refine⟨_,
  (kT
   (kf 2 vW.nd (kr kG))
   (kD uO rfl (kB rfl T.b_range (kh (qpv 1) zd)) (kz 3 vW.nd) (kC
   (kf 4 vW.nd (wF zW (kc zR (qpv 0) (qpv 3)) xR))
   (kf 5 vW.nd (wF zW (wF yw (kc zR (qpv 0) (qpv 3)) xR) xR))
   (kf 6 vW.nd (wF zO xR (wF zW (wF yw (kc zR (qpv 0) (qpv 3)) xR) xR)))
   (ku (ko yQ (wF zW (wF yw (kc zR (qpv 0) (qpv 3)) xR) xR) xR (nomark _)) (kq (kE (kF uh QY QZ wq (qpv 2) (kh (ki (ke (ki (km (qpv 4) zd (qpv 5) zd xR zP)) yv (ki (km (qpv 4) zd (wF zO (qpv 5) (qpv 6)) zv xR zP)) yv)) yv)))) (kq (kE (kF uh QY QZ wq (qpv 2) (kh (ki (ke (ki (km (qpv 5) zd (qpv 4) zd xR zP)) yv (ki (km (wF zO (qpv 5) (qpv 6)) zv (qpv 4) zd xR zP)) yv)) yv)))))))
   (kx (qpv 2)))
  ,?_⟩
 clear kT kf kr kG kD kB kh qpv kz kC wF kc xR ku ko kq kE kF ki ke km kx QE QT QW QA QS QSs QG QGs QI QO QIf
 dsimp! [L2.start]
 simp! [];intro R hR;have gR:=ze hR (HO.lst []);refine yq ?_;simp! [wu];refine⟨by lia,by lia,?_⟩
 rw[show((m:Int)).toNat=m by lia]
 refine vQ (n:=m) (λi σ H'=>zg H H'/\∃(ys:List V)(ss:List (Q3×Q3))(u1 u2 u3 u4:Option V),σ=[some (V.ref l),some (.int m),some (V.ref R),u1,u2,u3,u4]/\H' R=some (.lst ys)/\ys.length=i/\LR (StE 61) H' ys ss) ⟨gR,[],[],none,none,none,none,rfl,upd_same,rfl,.nil⟩ ?_ ?_
 ·intro _ _;rintro i σ H2 hi ⟨g2,ys,ss,u1,u2,u3,u4,rfl,hR2,hn,hp⟩;obtain⟨x,ax⟩:=wD (xs:=xs) (j:=(i:Int)) (by lia) (by lia)
  have hl2:=g2 _ _ hl;simp! [Aj,hl2,ax];have e60:(2:Nat)^60=1152921504606846976:=rfl;have f1:0<=x%5/\x%5<5:=by lia
  have f2:0<=x/5%4/\x/5%4<4:=by lia
  have f3:0<=x/20%4/\x/20%4<4:=by lia
  generalize x%5=m1 at*;generalize x/5%4=m2 at*;generalize x/20%4=m3 at*;refine⟨by decide,⟨by decide,by decide⟩,by decide,⟨by decide,by decide⟩,by decide,⟨by decide,by decide⟩,by decide,ite2 (λ_=>⟨xa hR2,?_⟩) (λ_=>⟨xa hR2,?_⟩)⟩
  ·refine VF hR g2 hR2 hn (by lia) hp ⟨m1,m2,1⟩ ⟨m1,m2+(1+m3),1⟩ (xN (by lia) (by lia)) (xN (by lia) (by lia)) ?_
   unfold bq;rw[xh];right;exact⟨rfl,by show m2*1<(m2+(1+m3))*1;lia⟩
  ·refine VF hR g2 hR2 hn (by lia) hp ⟨m2,m1,1⟩ ⟨m2+(1+m3),m1,1⟩ (xN (by lia) (by lia)) (xN (by lia) (by lia)) ?_
   unfold bq;rw[xh];left;show m2*1<(m2+(1+m3))*1;lia
 ·rintro σ H2 ⟨g2,ys,ss,u1,u2,u3,u4,rfl,hR2,hn,hp⟩;simp! [];exact k R ys ss H2 hR g2 hR2 hn hp
theorem zat(T:Txt K mg ad fd):zx P w K mg base CX0 3 (ad 33) (fd 33) ["_law_xs","_law_many"] YQ:=by
 refine T.law_fan.fn.ok x6 (λvs H Q E h=>?_) (λcdv A outer s H vs Q E hr h=>?_)
 ·obtain⟨l,xs,m,rfl,_⟩:=h;rfl
 obtain⟨l,xs,m,rfl,hm,hl,hx,k⟩:=h;have kC:=@pss4;have kf:=@zu;have kg:=@zt;have km:=@pa3;have wF:=@zf;have kc:=@zb;have qpv:=@pv;have xR:=@za;have kr:=@xq;have kG:=@yV;have kD:=@yo;have kB:=@wW;have kh:=@pa1;have kz:=@zB;have kU:=@pss8;have ke:=@pa2;have kE:=@xk;have kF:=@xO;have kx:=@zo;generalize @PE=QE,@PT=QT,@PW=QW,@PA=QA,@PS=QS,@PSs=QSs,@PG=QG,@PGs=QGs,@L2.PI=QI,@PO=QO,@PIf=QIf at kC kf kg km wF kc qpv xR kr kG kD kB kh kz kU ke kE kF kx⊢;refine⟨_,
  (kC
   (kf 2 x6.nd (kg (jP T) T.law_lowest hr (km (wF yh (wF zW (kc zR (qpv 0) xR) xR) xR) zv (wF yh (wF zW (kc zR (qpv 0) xR) xR) xR) zv (wF zO xR (wF zW (wF yw (kc zR (qpv 0) xR) xR) xR)) zv)))
   (kf 3 x6.nd (kr kG))
   (kD uO rfl (kB rfl T.b_range (kh (qpv 1) zd)) (kz 4 x6.nd) (kU
   (kf 5 x6.nd (kc zR (qpv 0) (wF zO xR (qpv 4))))
   (kf 6 x6.nd (kc zR (kr (ke (wF yh (wF zW (qpv 5) xR) xR) zv (wF yh (qpv 4) xR) zv)) (wF zW (wF yw (qpv 5) xR) xR)))
   (kf 7 x6.nd (kc zR (kr (ke (wF yh (wF zW (wF yw (qpv 5) xR) xR) xR) zv xR zP)) (wF zW (wF yw (qpv 5) xR) xR)))
   (kf 8 x6.nd (wF zO xR (wF zW (wF yw (qpv 5) xR) xR)))
   (kf 9 x6.nd (wF zW (wF yw (qpv 5) xR) xR))
   (kf 10 x6.nd (kg (jP T) T.law_lowest hr (km (wF zO (kc zc (qpv 2) xR) (wF zy (wF zy (qpv 8) (qpv 6)) (kc zc (qpv 2) xR))) zv (wF zO (kc zc (qpv 2) xR) (wF zy (wF zy (qpv 8) (qpv 7)) (kc zc (qpv 2) xR))) zv (kc zc (qpv 2) xR) zr)))
   (kf 11 x6.nd (kg (jP T) T.law_lowest hr (km (wF yh (kc zc (qpv 2) xR) (wF zy (wF zy (qpv 9) (qpv 6)) (kc zc (qpv 2) xR))) zv (wF yh (kc zc (qpv 2) xR) (wF zy (wF zy (qpv 9) (qpv 7)) (kc zc (qpv 2) xR))) zv (kc zc (qpv 2) xR) zr)))
   (kE (kF uh QY QZ wq (qpv 3) (kh (kg (vR T) T.law_part hr (ke (qpv 10) zd (qpv 11) zd)) zZ)))))
   (kx (qpv 3)))
  ,?_⟩
 clear kC kf kg km wF kc qpv xR kr kG kD kB kh kz kU ke kE kF kx QE QT QW QA QS QSs QG QGs QI QO QIf
 dsimp! [L2.start]
 obtain⟨x0,ax0⟩:=wD (xs:=xs) (j:=0) (by lia) (by lia)
 obtain⟨x1,ax1⟩:=wD (xs:=xs) (j:=1) (by lia) (by lia)
 simp! [hl,ax0,ax1];have e6:(2:Nat)^6=64:=rfl;refine⟨by decide,by decide,⟨by decide,by decide⟩,by decide,6,_,_,_,rfl,by decide,⟨by lia,by lia,by lia⟩,by lia,λM H1 rM g1 hM _ _=>?_⟩
 obtain⟨a,b,c⟩:=rM;intro R hR;have gR:=ze hR (HO.lst []);have nR:=g1.free hR;refine yq ?_;simp! [wu];refine⟨by lia,by lia,?_⟩
 rw[show((m:Int)).toNat=m by lia]
 refine vQ (n:=m) (λi σ H'=>zg H1 H'/\∃(ys:List V)(ss:List (Q3×Q3))(u1 u2 u3 u4 u5 u6 u7 u8:Option V),σ=[some (V.ref l),some (.int m),some (V.ref M),some (V.ref R),u1,u2,u3,u4,u5,u6,u7,u8]/\H' R=some (.lst ys)/\ys.length=i/\LR (StE 61) H' ys ss) ⟨gR,[],[],none,none,none,none,none,none,none,none,rfl,upd_same,rfl,.nil⟩ ?_ ?_
 ·intro _ _;rintro i σ H2 hi ⟨g2,ys,ss,u1,u2,u3,u4,u5,u6,u7,u8,rfl,hR2,hn,hp⟩;obtain⟨x,ax⟩:=wD (xs:=xs) (j:=2+(i:Int)) (by lia) (by lia)
  have hl2:=(g1.trans g2) _ _ hl;have hM2:PtH 6 H2 M a b c:=hM.same g2;simp! [Aj,hl2,ax];have e4:(2:Nat)^4=16:=rfl;have e3:(2:Nat)^3=8:=rfl;refine⟨by decide,λq1 hq1=>⟨⟨by decide,by decide⟩,by decide,?_⟩⟩
  have g3':=ze hq1 (HO.lst [V.int (x%7-3),V.int ((i:Int)-2)]);generalize upd H2 q1 (HO.lst [V.int (x%7-3),V.int ((i:Int)-2)])=H3 at*;obtain⟨X,aX,lX⟩:∃X:Int,atI [V.int (x%7-3),V.int ((i:Int)-2)] (x/4096%2)=some (V.int X)/\X.natAbs<2^4:=by
   rcases(by lia:x/4096%2=0∨x/4096%2=1) with e|e
   ·rw[e];exact⟨_,at0,by lia⟩
   ·rw[e];exact⟨_,at1,by lia⟩
  refine⟨_,aX,⟨by decide,by decide⟩,by decide,λq2 hq2=>⟨⟨by decide,by decide⟩,by decide,?_⟩⟩
  have g4:=ze hq2 (HO.lst [V.int (x/7%7-3),V.int 1]);generalize upd H3 q2 (HO.lst [V.int (x/7%7-3),V.int 1])=H4 at*;obtain⟨Y,aY,lY⟩:∃Y:Int,atI [V.int (x/7%7-3),V.int 1] (x/8192%2)=some (V.int Y)/\Y.natAbs<2^4:=by
   rcases(by lia:x/8192%2=0∨x/8192%2=1) with e|e
   ·rw[e];exact⟨_,at0,by lia⟩
   ·rw[e];exact⟨_,at1,by lia⟩
  have hM4:=hM2.same (g3'.trans g4);refine⟨_,aY,⟨by decide,by decide⟩,by decide,⟨by decide,by decide⟩,by decide,?_⟩
  have lf:(1+x/49%3).natAbs<2^3:=by lia
  have ln:(x/147%3).natAbs<2^3:=by lia
  generalize 1+x/49%3=f at*;generalize x/147%3=n at*;have lM:=hM4.2;have bd:∀{u v z:Int},u.natAbs<2^6->v.natAbs<2^3->z.natAbs<2^4->(u+v*z*c).natAbs<2^60/\(u-v*z*c).natAbs<2^60:=λh1 h2 h3=>⟨zU (WC (m:=3+4+6) (zU h1 (by decide)) (zS (zS h2 h3) lM.lw)) (by decide),zU (xm (m:=3+4+6) (zU h1 (by decide)) (zS (zS h2 h3) lM.lw)) (by decide)⟩
  simp! [hM4.1];refine⟨cbig lf lX,cbig (zS lf lX) lM.lw,cbig lf lY,cbig (zS lf lY) lM.lw,60,_,_,_,rfl,by decide,⟨(bd lM.lx lf lX).1,(bd lM.ly lf lY).1,zU lM.lw (by decide)⟩,lM.pos,λO1 H5 r1 g5 h5 _ _=>?_⟩
  have hM5:=hM4.same g5;simp! [hM5.1];refine⟨cbig ln lX,cbig (zS ln lX) lM.lw,cbig ln lY,cbig (zS ln lY) lM.lw,60,_,_,_,rfl,by decide,⟨(bd lM.lx ln lX).2,(bd lM.ly ln lY).2,zU lM.lw (by decide)⟩,lM.pos,λO2 H6 r2 g6 h6 _ _=>?_⟩
  have g26:=g3'.trans (g4.trans (g5.trans g6));have hR6:=g26 _ _ hR2;simp! [];refine⟨xa hR6,60,O1,O2,r1,r2,rfl,by decide,h5.same g6,h6,λs' H7 e' g7 h7=>?_⟩
  have g27:=g26.trans g7;have hR7:=g27 _ _ hR2;exact⟨ys,hR7,small1000 (by lia),yt (g2.trans g27) hR,by rw[pM,hn];rfl,_,vJ hp g27 hR7 h7⟩
 ·rintro σ H2 ⟨g2,ys,ss,u1,u2,u3,u4,u5,u6,u7,u8,rfl,hR2,hn,hp⟩;simp! [];exact k R ys ss H2 nR (g1.trans g2) hR2 hn hp
theorem zbq(T:Txt K mg ad fd):zx P w K mg base CX0 4 (ad 35) (fd 35) ["_law_xs","_law_many"] YQ:=by
 refine T.law_row.fn.ok wT (λvs H Q E h=>?_) (λcdv A outer s H vs Q E hr h=>?_)
 ·obtain⟨l,xs,m,rfl,_⟩:=h;rfl
 obtain⟨l,xs,m,rfl,hm,hl,hx,k⟩:=h;have kC:=@pss4;have kf:=@zu;have kc:=@zb;have kr:=@xq;have kW:=@pa5;have ki:=@yc;have ke:=@pa2;have xR:=@za;have kX:=@jE;have wF:=@zf;have qpv:=@pv;have kG:=@yV;have kD:=@yo;have kB:=@wW;have kh:=@pa1;have kz:=@zB;have kY:=@pss5;have kg:=@zt;have km:=@pa3;have ku:=@zK;have ko:=@zF;have kq:=@zq;have kA:=@zL;have kE:=@xk;have kF:=@xO;have kx:=@zo;generalize @PE=QE,@PT=QT,@PW=QW,@PA=QA,@PS=QS,@PSs=QSs,@PG=QG,@PGs=QGs,@L2.PI=QI,@PO=QO,@PIf=QIf at kC kf kc kr kW ki ke xR kX wF qpv kG kD kB kh kz kY kg km ku ko kq kA kE kF kx⊢;refine⟨_,
  (kC
   (kf 2 wT.nd (kc zR (kr (kW (ki (ke xR zP xR zP)) yv (ki (ke xR zP xR zP)) yv (ki (ke xR zP xR zP)) yv (ki (ke xR zP (kX jn xR) Z3)) yv (ki (ke xR zP xR zP)) yv)) (wF zW (kc zR (qpv 0) xR) xR)))
   (kf 3 wT.nd (kr kG))
   (kD uO rfl (kB rfl T.b_range (kh (qpv 1) zd)) (kz 4 wT.nd) (kY
   (kf 5 wT.nd (wF zW (kc zR (qpv 0) (wF zO xR (qpv 4))) xR))
   (kf 6 wT.nd (wF zO (wF zO (qpv 5) xR) (wF zW (wF yw (kc zR (qpv 0) (wF zO xR (qpv 4))) xR) xR)))
   (kf 7 wT.nd (kg (vR T) T.law_part hr (ke (ki (km (wF zy (qpv 5) (kc zc (qpv 2) xR)) zv (wF zy (qpv 5) (kc zc (qpv 2) xR)) zv xR zP)) yv (ki (km (wF zy (qpv 6) (kc zc (qpv 2) xR)) zv (wF zy (qpv 6) (kc zc (qpv 2) xR)) zv xR zP)) yv)))
   (ku (ko yQ (wF zW (wF yw (kc zR (qpv 0) (wF zO xR (qpv 4))) xR) xR) xR (nomark _)) (kq (kf 7 wT.nd (kg (vR T) T.law_part hr (ke (kc zc (qpv 7) xR) zr (kg (jQ T) T.law_point hr (ke (wF yw (kc zR (qpv 0) (wF zO xR (qpv 4))) xR) zv xR zP)) zZ)))) kA)
   (kE (kF uh QY QZ wq (qpv 3) (kh (qpv 7) zd)))))
   (kx (qpv 3)))
  ,?_⟩
 clear kC kf kc kr kW ki ke xR kX wF qpv kG kD kB kh kz kY kg km ku ko kq kA kE kF kx QE QT QW QA QS QSs QG QGs QI QO QIf
 dsimp! [L2.start]
 simp! [];intro p1 n1;have g1:=ze n1 (HO.tup [V.int 1,V.int 0]);have h1:upd H p1 (HO.tup [V.int 1,V.int 0]) p1=some (HO.tup [V.int 1,V.int 0]):=upd_same;generalize upd H p1 (HO.tup [V.int 1,V.int 0])=H1 at*;intro p2 n2;have g2:=ze n2 (HO.tup [V.int 0,V.int 1]);have h2:upd H1 p2 (HO.tup [V.int 0,V.int 1]) p2=some (HO.tup [V.int 0,V.int 1]):=upd_same;generalize upd H1 p2 (HO.tup [V.int 0,V.int 1])=H2 at*;intro p3 n3;have g3':=ze n3 (HO.tup [V.int 1,V.int 1]);have h3:upd H2 p3 (HO.tup [V.int 1,V.int 1]) p3=some (HO.tup [V.int 1,V.int 1]):=upd_same;generalize upd H2 p3 (HO.tup [V.int 1,V.int 1])=H3 at*;intro p4 n4;have g4:=ze n4 (HO.tup [V.int 2,V.int (-1)]);have h4:upd H3 p4 (HO.tup [V.int 2,V.int (-1)]) p4=some (HO.tup [V.int 2,V.int (-1)]):=upd_same;generalize upd H3 p4 (HO.tup [V.int 2,V.int (-1)])=H4 at*;intro p5 n5;have g5:=ze n5 (HO.tup [V.int 1,V.int 3]);have h5:upd H4 p5 (HO.tup [V.int 1,V.int 3]) p5=some (HO.tup [V.int 1,V.int 3]):=upd_same;generalize upd H4 p5 (HO.tup [V.int 1,V.int 3])=H5 at*;refine⟨by decide,λL nL=>?_⟩
 have g6:=ze nL (HO.lst [V.ref p1,V.ref p2,V.ref p3,V.ref p4,V.ref p5]);generalize upd H5 L (HO.lst [V.ref p1,V.ref p2,V.ref p3,V.ref p4,V.ref p5])=H6 at*;have g46:=g5.trans g6;have g36:=g4.trans g46;have g26:=g3'.trans g36;have g16:=g2.trans g26;have g06:=g1.trans g16;obtain⟨x0,ax0⟩:=wD (xs:=xs) (j:=0) (by lia) (by lia)
 have hl6:=g06 _ _ hl;simp! [hl6,ax0];obtain⟨W,w0,w1,aW,hW,lw0,lw1⟩:∃(W:Addr)(w0 w1:Int),atI [V.ref p1,V.ref p2,V.ref p3,V.ref p4,V.ref p5] (x0%5)=some (V.ref W)/\H6 W=some (.tup [.int w0,.int w1])/\w0.natAbs<2^3/\w1.natAbs<2^3:=by
  rcases(by lia:x0%5=0∨x0%5=1∨x0%5=2∨x0%5=3∨x0%5=4) with e|e|e|e|e
  ·rw[e];exact⟨p1,_,_,at0,g16 _ _ h1,by decide,by decide⟩
  ·rw[e];exact⟨p2,_,_,at1,g26 _ _ h2,by decide,by decide⟩
  ·rw[e];exact⟨p3,_,_,at2,g36 _ _ h3,by decide,by decide⟩
  ·rw[e];exact⟨p4,_,_,at3,g46 _ _ h4,by decide,by decide⟩
  ·rw[e];exact⟨p5,_,_,at4,g6 _ _ h5,by decide,by decide⟩
 refine⟨by decide,_,aW,λR hR=>?_⟩
 have gR:=ze hR (HO.lst []);have nR:=g06.free hR;refine yq ?_;simp! [wu];refine⟨by lia,by lia,?_⟩
 rw[show((m:Int)).toNat=m by lia]
 refine vQ (n:=m) (λi σ H'=>zg H6 H'/\∃(ys:List V)(ss:List (Q3×Q3))(u1 u2 u3 u4:Option V),σ=[some (V.ref l),some (.int m),some (V.ref W),some (V.ref R),u1,u2,u3,u4]/\H' R=some (.lst ys)/\ys.length=i/\LR (StE 61) H' ys ss) ⟨gR,[],[],none,none,none,none,rfl,upd_same,rfl,.nil⟩ ?_ ?_
 ·intro _ _;rintro i σ H7 hi ⟨g7,ys,ss,u1,u2,u3,u4,rfl,hR7,hn,hp⟩;obtain⟨x,ax⟩:=wD (xs:=xs) (j:=1+(i:Int)) (by lia) (by lia)
  have hl7:=g7 _ _ hl6;have hW7:=g7 _ _ hW;simp! [Aj,hl7,ax,hW7];have e10:(2:Nat)^10=1024:=rfl;have f1:(x%6).natAbs<2^10:=by lia
  have f2:(x%6+1+x/6%4).natAbs<2^10:=by lia
  generalize x%6+1+x/6%4=hg at*;generalize x%6=lo at*;refine⟨by decide,⟨by decide,by decide⟩,by decide,cbig f1 lw0,cbig f1 lw1,λq1 m1=>?_⟩
  have g8:=ze m1 (HO.tup [V.int (lo*w0),V.int (lo*w1),V.int 1]);have h8:upd H7 q1 (HO.tup [V.int (lo*w0),V.int (lo*w1),V.int 1]) q1=some (HO.tup [V.int (lo*w0),V.int (lo*w1),V.int 1]):=upd_same;generalize upd H7 q1 (HO.tup [V.int (lo*w0),V.int (lo*w1),V.int 1])=H8 at*;have hW8:=g8 _ _ hW7;simp! [hW8];refine⟨cbig f2 lw0,cbig f2 lw1,λq2 m2=>?_⟩;have g9:=ze m2 (HO.tup [V.int (hg*w0),V.int (hg*w1),V.int 1]);have h9:upd H8 q2 (HO.tup [V.int (hg*w0),V.int (hg*w1),V.int 1]) q2=some (HO.tup [V.int (hg*w0),V.int (hg*w1),V.int 1]):=upd_same;generalize upd H8 q2 (HO.tup [V.int (hg*w0),V.int (hg*w1),V.int 1])=H9 at*;have bd:∀{u v:Int},u.natAbs<2^10->v.natAbs<2^3->(u*v).natAbs<2^20:=λh1 h2=>zU (zS h1 h2) (by decide)
  refine⟨20,q1,q2,⟨lo*w0,lo*w1,1⟩,⟨hg*w0,hg*w1,1⟩,rfl,by decide,⟨g9 _ _ h8,ZD (by decide) (bd f1 lw0) (bd f1 lw1)⟩,⟨h9,ZD (by decide) (bd f2 lw0) (bd f2 lw1)⟩,λs1 H10 e1 g10 h10=>?_⟩
  have g710:=g8.trans (g9.trans g10);have hl10:=g710 _ _ hl7;have hR10:=g710 _ _ hR7;simp! [hl10,ax];refine⟨⟨by decide,by decide⟩,by decide,ite2 (λ_=>?_) (λ_=>⟨xa hR10,ys,hR10,small1000 (by lia),yt (g7.trans g710) hR,by rw[pM,hn];rfl,_,vJ hp g710 hR10 (h10.mono (by decide))⟩)⟩
  obtain⟨pp,qq,hs1,hpp,hqq,hb1⟩:=h10;simp! [hs1];refine⟨⟨by decide,by decide⟩,_,_,rfl,λr H11 r11 g11 h11=>?_⟩
  refine⟨60,pp,r,e1.1,r11,rfl,by decide,PtH.mono (hpp.same g11) (by decide),h11,λs2 H12 e2 g12 h12=>?_⟩
  have g712:=g710.trans (g11.trans g12);have hR12:=g712 _ _ hR7;exact⟨xa hR12,ys,hR12,small1000 (by lia),yt (g7.trans g712) hR,by rw[pM,hn];rfl,_,vJ hp g712 hR12 h12⟩
 ·rintro σ H7 ⟨g7,ys,ss,u1,u2,u3,u4,rfl,hR7,hn,hp⟩;simp! [];exact k R ys ss H7 nR (g06.trans g7) hR7 hn hp
theorem ixN_nat{n j:Nat}(h:j<n):ixN n (j:Int)=some j:=by
 unfold ixN;rw[if_pos (by lia),if_pos (by lia),UX]
variable{α:Type}
def LR.set{R:Hp->Addr->α->Prop}{H:Hp}{ys:List V}{as:List α}{p:Addr}{a:α}(h:LR R H ys as)(r:R H p a):LR R H (ys.set j (.ref p)) (as.set j a):=by
 refine⟨by rw[gv,gv,h.1],λi v z=>?_⟩
 by_cases e:j=i
 ·subst e;have hl:j<ys.length:=by have:=(pD.mp z).1;rwa [gv] at this
  rw[Um hl] at z
  cases z;exact⟨p,a,rfl,Um (by rw[←h.1];exact hl),r⟩
 ·rw[hU e] at z;obtain⟨q,b,e1,e2,r'⟩:=h.2 i v z;exact⟨q,b,e1,by rw[hU e];exact e2,r'⟩
theorem zb1(T:Txt K mg ad fd):zx P w K mg base CX0 5 (ad 36) (fd 36) ["_law_cell","_law_many","_law_kind"] zet:=by
 refine T.law_drawn.fn.ok YK (λvs H Q E h=>?_) (λcdv A outer s H vs Q E hr h=>?_)
 ·obtain⟨c,m,d,rfl,_⟩:=h;rfl
 obtain⟨c,m,d,rfl,hm,k⟩:=h;have kZ:=@pss7;have kf:=@zu;have kg:=@zt;have ke:=@pa2;have qpv:=@pv;have wF:=@zf;have xR:=@za;have ku:=@zK;have ko:=@zF;have kq:=@zq;have kx:=@zo;have kA:=@zL;have kI:=@wA;unfold L2.CompBody at kI;have kB:=@wW;have kh:=@pa1;have kz:=@zB;have kJ:=@x8;have kc:=@zb;have kK:=@PW.pt;have kL:=@WN;have kM:=@XI;have uc:=@ps_asg;have ud:=@pg_sub;generalize @PE=QE,@PT=QT,@PW=QW,@PA=QA,@PS=QS,@PSs=QSs,@PG=QG,@PGs=QGs,@L2.PI=QI,@PO=QO,@PIf=QIf at kZ kf kg ke qpv wF xR ku ko kq kx kA kI kB kh kz kJ kc kK kL kM uc ud⊢;refine⟨_,
  (kZ
   (kf 3 YK.nd (kg (zcv T) T.law_stream hr (ke (qpv 0) zd (wF zO (wF wc xR (qpv 1)) xR) zv)))
   (ku (ko yQ (qpv 2) xR (nomark _)) (kq (kx (kg (zat T) T.law_fan hr (ke (qpv 3) zd (qpv 1) zd)))) kA)
   (ku (ko yQ (qpv 2) xR (nomark _)) (kq (kx (kg (zfa T) T.law_net hr (ke (qpv 3) zd (qpv 1) zd)))) kA)
   (ku (ko yQ (qpv 2) xR (nomark _)) (kq (kx (kg (zbq T) T.law_row hr (ke (qpv 3) zd (qpv 1) zd)))) kA)
   (kI 4 YK ["_law_k"] [2,3] (kB rfl T.b_range (kh (qpv 1) zd)) (λcl C fp s2 H2 xe=>⟨(kz 0 (show UK (["_law_k","_law_kind","_law_xs"]:List Str) from by decide+kernel)),kJ,(kg (vR T) T.law_part hr (ke (kg (jQ T) T.law_point hr (ke (kc zR (qpv 2) (wF wc xR (qpv 0))) zr (qpv 1) zd)) zZ (kg (jQ T) T.law_point hr (ke (kc zR (qpv 2) (wF zO (wF wc xR (qpv 0)) xR)) zr (qpv 1) zd)) zZ))⟩))
   (ku (kK (kL (ko yQ (qpv 2) xR (nomark _)) (kM (ko jm (qpv 1) xR (nomark _))))) (kq (uc (kg (vR T) T.law_part hr (ke (kc zc (kc zR (qpv 4) xR) xR) zr (kc zc (kc zR (qpv 4) xR) xR) zr)) (ud (qpv 4) xR za9))) kA)
   (kx (qpv 4)))
  ,?_⟩
 clear kZ kf kg ke qpv wF xR ku ko kq kx kA kI kB kh kz kJ kc kK kL kM uc ud QE QT QW QA QS QSs QG QGs QI QO QIf
 dsimp! [L2.start]
 simp! [];refine⟨.inl ⟨by decide,by decide⟩,c,2*m+4,by push_cast;rfl,by lia,λL xs H1 nL g1 hL hx=>?_⟩
 simp! [];have fin:∀(R:Addr)(ys:List V)(ss:List (Q3×Q3))(H':Hp),H1 R=none->zg H1 H'->H' R=some (.lst ys)->ys.length=m->LR (StE 61) H' ys ss->Q (.ref R) H':=λR ys ss H' n g h1 h2 h3=>k R ys ss H' (g1.free n) (g1.trans g) h1 h2 (LRe.mono h3 (by decide))
 refine ite2 (λ_=>⟨L,xs,m,rfl,hm,hL,hx,fin⟩) (λ_=>ite2 (λ_=>⟨L,xs,m,rfl,hm,hL,hx,fin⟩) (λ_=>ite2 (λ_=>⟨L,xs,m,rfl,hm,hL,hx,fin⟩) λ_=>?_));refine yT ?_;simp! [wu];refine⟨by lia,by lia,λD hD=>?_⟩
 rw[show((m:Int)).toNat=m by lia]
 refine XE (n:=m) (λi ys H'=>zg H1 H'/\H' D=some (.lst ys)/\ys.length=i/\∃ss,LR (StE 61) H' ys ss) ⟨ze hD _,upd_same,rfl,[],.nil⟩ ?_ ?_
 ·rintro j ys H2 hj ⟨g2,hD2,hn,ss,hp⟩;have hL2:=g2 _ _ hL;obtain⟨y0,ay0⟩:=wD (xs:=xs) (j:=2*(j:Int)) (by lia) (by lia)
  obtain⟨y1,ay1⟩:=wD (xs:=xs) (j:=2*(j:Int)+1) (by lia) (by lia)
  simp! [Aj,hL2,ay0];refine⟨.inl ⟨by decide,by decide⟩,_,_,rfl,λr1 H3 q1 g3' h3=>?_⟩
  have hL3:=g3' _ _ hL2;simp! [Aj,hL3,ay1];refine⟨.inl ⟨by decide,by decide⟩,_,_,rfl,λr2 H4 q2 g4 h4=>?_⟩
  refine⟨60,r1,r2,q1,q2,rfl,by decide,h3.same g4,h4,λs' H5 e' g5 h5=>?_⟩
  have g25:=g3'.trans (g4.trans g5);have hD5:=g25 _ _ hD2;exact cw_put hj hD5 (small1000 (by lia)) ⟨yt (g2.trans g25) hD,upd_same,by rw[pM,hn];rfl,_,vJ hp g25 hD5 h5⟩
 ·rintro ys H2 ⟨g,hD2,hn,ss,hp⟩;refine ite2 (λ_=>ite2 (λc4=>?_) λ_=>fin D ys ss H2 hD g hD2 hn hp) (λ_=>fin D ys ss H2 hD g hD2 hn hp);have h4:3<m:=by
   have:(3:Int)<m:=by simpa using c4
   lia
  obtain⟨b0,e0,i0,_,c0,d0,k0,k1,k2,_⟩:=hp.at (j:=0) (by lia)
  obtain⟨b1,e1,i1,_,c1,d1,j0,j1,j2,_⟩:=hp.at (j:=1) (by lia)
  have a0:atI ys 0=some (.ref b0):=yp (j:=0) i0;have a1:atI ys 1=some (.ref b1):=yp (j:=1) i1;refine⟨D,rfl,ys,hD2,_,a0,b0,rfl,_,k0,_,at1,D,rfl,ys,hD2,_,a1,b1,rfl,_,j0,_,at0,61,d0,c1,e0.2,e1.1,rfl,by decide,k2,j1,λs' H3 e' g3 h3=>⟨D,rfl,ys,g3 _ _ hD2,3,ixN_nat (j:=3) (by lia),?_⟩⟩
  have hD3:=g3 _ _ hD2;refine k D _ (ss.set 3 e') _ (g1.free hD) (g1.trans (yt (g.trans g3) hD)) upd_same (by rw[gv];exact hn) ((LR.set ((LRe.mono hp (by decide)).ts yb (zI g3)) h3).ts yb (xX hD3))
theorem zdt(T:Txt K mg ad fd):zx P w K mg base CX0 1 (ad 37) (fd 37) ["_law_cell"] zcf:=by
 refine T.law_comb.fn.ok qS (λvs H Q E h=>?_) (λcdv A outer s H vs Q E hr h=>?_)
 ·obtain⟨c,rfl,_⟩:=h;rfl
 obtain⟨c,rfl,k⟩:=h;have kC:=@pss4;have kf:=@zu;have wF:=@zf;have xR:=@za;have qpv:=@pv;have kI:=@wA;unfold L2.CompBody at kI;have kB:=@wW;have kh:=@pa1;have kz:=@zB;have kJ:=@x8;have ki:=@yc;have ke:=@pa2;have km:=@pa3;have kx:=@zo;have kr:=@xq;generalize @PE=QE,@PT=QT,@PW=QW,@PA=QA,@PS=QS,@PSs=QSs,@PG=QG,@PGs=QGs,@L2.PI=QI,@PO=QO,@PIf=QIf at kC kf wF xR qpv kI kB kh kz kJ ki ke km kx kr⊢;refine⟨_,
  (kC
   (kf 1 qS.nd (wF zO xR (wF zW (qpv 0) xR)))
   (kf 2 qS.nd (wF zW (wF yw (qpv 0) xR) xR))
   (kI 3 qS ["_law_k"] [0] (kB rfl T.b_range (kh (qpv 1) zd)) (λcl C fp s2 H2 xe=>⟨(kz 0 (show UK (["_law_k","_law_cell"]:List Str) from by decide+kernel)),kJ,(ki (ke (ki (km xR zP (qpv 0) zd xR zP)) yv (ki (km (wF zO xR (wF zW (wF yw (wF wc (qpv 0) (qpv 1)) xR) xR)) zv (qpv 0) zd xR zP)) yv))⟩))
   (kx (wF jM (qpv 3) (kr (ke (ki (ke (ki (km xR zP (wF yh xR (qpv 2)) zv xR zP)) yv (ki (km xR zP (qpv 1) zd xR zP)) yv)) yv (ki (ke (ki (km xR zP (wF yw (qpv 1) xR) zv xR zP)) yv (ki (km xR zP (wF zO (qpv 1) (qpv 2)) zv xR zP)) yv)) yv)))))
  ,?_⟩
 clear kC kf wF xR qpv kI kB kh kz kJ ki ke km kx kr QE QT QW QA QS QSs QG QGs QI QO QIf
 dsimp! [L2.start]
 simp! [];have c1:=Ut c (show(21:Int)≠0 by decide)
 have c2:=Uf c (show(0:Int)<21 by decide)
 have d1:=Ut (c/21) (show(3:Int)≠0 by decide)
 have d2:=Uf (c/21) (show(0:Int)<3 by decide)
 refine⟨by decide,⟨by decide,by decide⟩,by decide,?_⟩
 generalize c%21=cm at*;generalize c/21%3=cl at*;refine yT ?_;simp! [wu];refine⟨by lia,by lia,λD hD=>?_⟩
 have e60:(2:Nat)^60=1152921504606846976:=rfl;refine XE (n:=(20+cm).toNat) (λi ys H'=>zg H H'/\H' D=some (.lst ys)/\ys.length=i/\∃ss,LR (StE 61) H' ys ss) ⟨ze hD _,upd_same,rfl,[],.nil⟩ ?_ ?_
 ·rintro j ys H2 hj ⟨g2,hD2,hn,ss,hp⟩;simp! [Aj];intro p hp1;refine⟨.inl ⟨by lia,by lia⟩,⟨by decide,by decide⟩,by decide,λp1 hp2 p2 hp3=>?_⟩
  have e1:=Ut ((j:Int)*c/63) (show(9:Int)≠0 by decide)
  have e2:=Uf ((j:Int)*c/63) (show(0:Int)<9 by decide)
  generalize (j:Int)*c/63%9=v at*;obtain⟨g,st⟩:=Xq (a:=⟨0,j,1⟩) (b:=⟨1+v,j,1⟩) hp1 hp2 hp3 (xN (by lia) (by lia)) (xN (by lia) (by lia)) (by
   unfold bq;rw[xh];left;show(0:Int)*1<(1+v)*1;lia)
  exact cw_put hj (g _ _ hD2) (small1000 (by lia)) ⟨yt (g2.trans g) hD,upd_same,by rw[pM,hn];rfl,_,vJ hp g (g _ _ hD2) (StE.mono st (by decide))⟩
 ·rintro ys H2 ⟨g2,hD2,hn,ss,hp⟩;intro p hp1 p1 hp2 p2 hp3;obtain⟨g3,s3⟩:=Xq (a:=⟨0,0-cl,1⟩) (b:=⟨1,20+cm,1⟩) hp1 hp2 hp3 (xN (by lia) (by lia)) (xN (by lia) (by lia)) (by
   unfold bq;rw[xh];left;show(0:Int)*1<1*1;lia)
  generalize upd (upd (upd H2 p _) p1 _) p2 _=H3 at*;refine⟨⟨by decide,by decide⟩,λp3 hp4 p4 hp5 p5 hp6=>?_⟩
  obtain⟨g4,s4⟩:=Xq (a:=⟨0,(20+cm)/2,1⟩) (b:=⟨0,20+cm+cl,1⟩) hp4 hp5 hp6 (xN (by lia) (by lia)) (xN (by lia) (by lia)) (by
   unfold bq;rw[xh];right;refine⟨rfl,?_⟩;show(20+cm)/2*1<(20+cm+cl)*1;lia)
  generalize upd (upd (upd H3 p3 _) p4 _) p5 _=H4 at*;intro q hq;have g5:=ze hq (HO.lst [V.ref p2,V.ref p5]);have hq5:upd H4 q (HO.lst [V.ref p2,V.ref p5]) q=some (HO.lst [V.ref p2,V.ref p5]):=upd_same;generalize upd H4 q (HO.lst [V.ref p2,V.ref p5])=H5 at*;have g25:=g3.trans (g4.trans g5);refine⟨D,q,ys,[V.ref p2,V.ref p5],rfl,rfl,g25 _ _ hD2,hq5,uq (small1000 (n:=ys.length+2) (by lia)),λR hR=>?_⟩
  have g6:=ze hR (HO.lst (ys++[V.ref p2,V.ref p5]));have g26:=g25.trans g6;refine k R _ _ _ ((g2.trans g25).free hR) (g2.trans g26) upd_same ?_ ((hp.ts yb (zI g26)).app ((LR.one (R:=StE 61) (StE.mono (yb _ _ _ _ (zI ((g4.trans g5).trans g6)) s3) (by decide))).app (.one (StE.mono (yb _ _ _ _ (zI (g5.trans g6)) s4) (by decide)))))
  rw[pM,hn];show(20+cm).toNat+2<=42;lia
noncomputable def v8(f:Int)(a:Q3):Q3:=⟨a.x+f*a.w,a.y-2*f*a.w,a.w⟩
def zct(x y w k:Int):g3 (x+k*w) y w=g3 x y w:=by
 have e:∀z:Int,g3 z y w=CB y.natAbs (Hf z w):=λz=>by
  unfold g3;show _=CB y.natAbs (CB z.natAbs w.natAbs);rw[Ft z.natAbs y.natAbs,De]
 rw[e,e,Au w x k]
def zdy(x y w k:Int):g3 x (y+k*w) w=g3 x y w:=by
 have e:∀z:Int,g3 x z w=CB x.natAbs (Hf z w):=λz=>by
  unfold g3;show _=CB x.natAbs (CB z.natAbs w.natAbs);rw[De]
 rw[e,e,Au w y k]
theorem Vd{f:Int}{a:Q3}(hf:f.natAbs<2^60)(h:PQ 62 a):PQ 130 (v8 f a):=by
 have l2f:(2*f).natAbs<2^61:=by
  have:(2*f).natAbs=2*f.natAbs:=by rw[gd];rfl
  rw[this,EM];lia
 refine⟨h.pos,?_,?_,?_,zU h.lw (by decide)⟩
 ·show g3 (a.x+f*a.w) (a.y-2*f*a.w) a.w=1
  rw[zct,show a.y-2*f*a.w=a.y+ -(2*f)*a.w by rw[UQ];lia,zdy]
  exact h.one
 ·exact zU (WC (m:=122) (zU h.lx (by decide)) (zS hf h.lw)) (by decide)
 ·exact zU (xm (m:=123) (zU h.ly (by decide)) (zS l2f h.lw)) (by decide)
theorem off_bq{f:Int}{a b:Q3}(ha:0<a.w)(hb:0<b.w)(h:bq a b=true):bq (v8 f a) (v8 f b)=true:=by
 unfold bq at*;rw[xh] at*;unfold v8;have e1:(a.x+f*a.w)*b.w=a.x*b.w+f*(a.w*b.w):=by grind
 have e2:(b.x+f*b.w)*a.w=b.x*a.w+f*(a.w*b.w):=by grind
 have e3:(a.y-2*f*a.w)*b.w=a.y*b.w-2*f*(a.w*b.w):=by grind
 have e4:(b.y-2*f*b.w)*a.w=b.y*a.w-2*f*(a.w*b.w):=by grind
 dsimp only;rw[e1,e2,e3,e4];lia
theorem zbx(T:Txt K mg ad fd):zx P w K mg base CX0 1 (ad 38) (fd 38) ["_law_parts","_law_far"] sp_qoff:=by
 refine T.law_put_off.fn.ok jy (λvs H Q E h=>?_) (λcdv A outer s H vs Q E hr h=>?_)
 ·obtain⟨l,ys,ss,f,rfl,_⟩:=h;rfl
 obtain⟨l,ys,ss,f,rfl,hf,hl,hn,hs,k⟩:=h;refine⟨_,
  (pss3
   (zu 2 jy.nd (xq yV))
   (yo uO rfl (yk (pv 0)) (jd (n:=2) rfl (y8 (zB 3 jy.nd) (y8 (zB 4 jy.nd) vp))) (pss2
   (zu 5 jy.nd (yc (pa3 (zf zO (zb zc (pv 3) za) (zf zy (pv 1) (zb zc (pv 3) za))) zv (zf yh (zb zc (pv 3) za) (zf zy (zf wc za (pv 1)) (zb zc (pv 3) za))) zv (zb zc (pv 3) za) zr)))
   (xk (xO uh QY QZ wq (pv 2) (pa1 (yc (pa2 (pv 5) zd (yc (pa3 (zf zO (zb zc (pv 4) za) (zf zy (pv 1) (zb zc (pv 4) za))) zv (zf yh (zb zc (pv 4) za) (zf zy (zf wc za (pv 1)) (zb zc (pv 4) za))) zv (zb zc (pv 4) za) zr)) yv)) yv)))))
   (zo (pv 2)))
  ,?_⟩
 dsimp! [L2.start]
 simp! [];intro R hR;have gR:=ze hR (HO.lst []);refine yq ?_;simp! [yi];refine⟨⟨_,.of (gR _ _ hl)⟩,?_⟩;refine xC (K:=K) (a:=l) (xs:=ys) (λi σ H'=>zg H H'/\∃(zs:List V)(ts:List (Q3×Q3))(u1 u2 u3:Option V),σ=[some (V.ref l),some (.int f),some (V.ref R),u1,u2,u3]/\H' R=some (.lst zs)/\zs.length=i/\LR (StE 130) H' zs ts) ⟨gR,[],[],none,none,none,rfl,upd_same,rfl,.nil⟩ (λi σ H' _ iv=>.of (iv.1 _ _ hl)) ?_ ?_
 ·intro _ _;rintro i v σ H2 hi ⟨g2,zs,ts,u1,u2,u3,rfl,hR2,hz,ht⟩;obtain⟨p,e,rfl,he,c,d,h1,h2,h3,hb⟩:=hs.2 i v hi;have h1':=g2 _ _ h1;have h2':=g2 _ _ h2.1;have h3':=g2 _ _ h3.1;simp! [h1',h2'];have l1:=h2.2;have l2:=h3.2;have l2f:(2*f).natAbs<2^61:=by
   have:(2*f).natAbs=2*f.natAbs:=by rw[gd];rfl
   rw[this,EM];lia
  refine⟨cbig hf l1.lw,.inl ⟨by decide,by decide⟩,cbig l2f l1.lw,λp1 hp1=>?_⟩
  have g3:=ze hp1 (HO.tup [V.int (e.1.x+f*e.1.w),V.int (e.1.y-2*f*e.1.w),V.int e.1.w]);have hq3:upd H2 p1 (HO.tup [V.int (e.1.x+f*e.1.w),V.int (e.1.y-2*f*e.1.w),V.int e.1.w]) p1=some (HO.tup [V.int (e.1.x+f*e.1.w),V.int (e.1.y-2*f*e.1.w),V.int e.1.w]):=upd_same;generalize upd H2 p1 (HO.tup [V.int (e.1.x+f*e.1.w),V.int (e.1.y-2*f*e.1.w),V.int e.1.w])=H3 at*;have h33:=g3 _ _ h3';simp! [h33];refine⟨xa (g3 _ _ hR2),cbig hf l2.lw,.inl ⟨by decide,by decide⟩,cbig l2f l2.lw,λp2 hp2=>?_⟩
  have g4:=ze hp2 (HO.tup [V.int (e.2.x+f*e.2.w),V.int (e.2.y-2*f*e.2.w),V.int e.2.w]);have hq4:upd H3 p2 (HO.tup [V.int (e.2.x+f*e.2.w),V.int (e.2.y-2*f*e.2.w),V.int e.2.w]) p2=some (HO.tup [V.int (e.2.x+f*e.2.w),V.int (e.2.y-2*f*e.2.w),V.int e.2.w]):=upd_same;generalize upd H3 p2 (HO.tup [V.int (e.2.x+f*e.2.w),V.int (e.2.y-2*f*e.2.w),V.int e.2.w])=H4 at*;intro p3 hp3;have g5:=ze hp3 (HO.tup [V.ref p1,V.ref p2]);have hq5:upd H4 p3 (HO.tup [V.ref p1,V.ref p2]) p3=some (HO.tup [V.ref p1,V.ref p2]):=upd_same;generalize upd H4 p3 (HO.tup [V.ref p1,V.ref p2])=H5 at*;have g25:=g3.trans (g4.trans g5);have hR5:=g25 _ _ hR2;have st:StE 130 H5 p3 (v8 f e.1,v8 f e.2):=⟨p1,p2,hq5,⟨g5 _ _ (g4 _ _ hq3),Vd hf l1⟩,⟨g5 _ _ hq4,Vd hf l2⟩,off_bq l1.pos l2.pos hb⟩;exact⟨zs,hR5,small1000 (by have:=(pD.mp hi).1;lia),yt (g2.trans g25) hR,by rw[pM,hz];rfl,_,vJ ht g25 hR5 st⟩
 ·rintro σ H2 ⟨g2,zs,ts,u1,u2,u3,rfl,hR2,hz,ht⟩;simp! [];exact k R zs ts H2 hR g2 hR2 hz ht
def Wb(xs:List V)(n:Nat)(h:n<=xs.length):yr xs none (some (n:Int))=xs.take n:=by
 unfold yr;rw[HT.sIx_nat,HT.sIx_none,AS,Fm,AC h]
theorem Xd(xs:List V)(n:Nat)(h:n<=xs.length):yr xs (some (n:Int)) none=xs.drop n:=by
 unfold yr;rw[HT.sIx_nat,HT.sIx_none,AC h,pz (by rw[pg];lia)]
theorem zeq(T:Txt K mg ad fd):zx P w K mg base CX0 6 (ad 39) (fd 39) ["_law_script","_law_start","_law_most"] (sp_qstr K):=by
 refine T.law_stretches.fn.ok xH (λvs H Q E h=>?_) (λcdv A outer s H vs Q E hr h=>?_)
 ·obtain⟨a,ns,k,m,rfl,_⟩:=h;rfl
 obtain⟨a,ns,ks,m,rfl,hS,hn,hk,hm,k⟩:=h;obtain⟨tl,htl,hk2⟩:∃tl,PSs (xM CX0 P w K mg base ["_law_script","_law_start","_law_most","_law_first","_law_cell","_law_many","_law_parts","_law_k","_law_at","_law_one"] "_law_stretches" (zp vA) (ad 39) cdv A outer s H E).nox ((yD vA).drop 6) tl/\∀(R:Addr)(ys:List V)(ss:List (Q3×Q3))(H1:Hp)(F C M:Int),H R=none->zg H H1->H1 R=some (.lst ys)->ys.length<=42->LR (StE 130) H1 ys ss->
   tl {nx:=λ_ H'=>Q .non H',rt:=Q} [some (.ref a),some (.int ks),some (.int m),some (.int F),some (.int C),some (.int M),some (.ref R),none,none,none] H1:=by
  have ue:=@pss2;have kD:=@yo;have uf:=@zb2;have ke:=@pa2;have wF:=@zf;have qpv:=@pv;have xR:=@za;have kN:=@ye;have kh:=@pa1;have kz:=@zB;have kC:=@pss4;have kf:=@zu;have kc:=@zb;have kg:=@zt;have ku:=@zK;have kK:=@PW.pt;have kL:=@WN;have ko:=@zF;have kM:=@XI;have kq:=@zq;have kA:=@zL;have kO:=@jf;have kP:=@jl;have kR:=@jS;have kr:=@xq;have kx:=@zo;generalize @PE=QE,@PT=QT,@PW=QW,@PA=QA,@PS=QS,@PSs=QSs,@PG=QG,@PGs=QGs,@L2.PI=QI,@PO=QO,@PIf=QIf at ue kD uf ke wF qpv xR kN kh kz kC kf kc kg ku kK kL ko kM kq kA kO kP kR kr kx⊢;refine⟨_,
  (ue
   (kD uO rfl (uf rfl T.b_range (ke (wF zO (qpv 1) xR) zv (kN (VR rfl) rfl T.b_min V3 (ke (kN Xc rfl T.b_len xi (kh (qpv 0) zd)) zZ (wF zO (qpv 1) xR) zv)) zZ)) (kz 7 xH.nd) (kC
   (kf 8 xH.nd (wF jL (wF yw (kc vH (qpv 0) (qpv 7)) xR) (wF zO (kN xy rfl T.b_len xi (kh (qpv 6) zd)) xR)))
   (kf 9 xH.nd (kg (vR T) T.law_part hr (ke (kg (jQ T) T.law_point hr (ke (wF yw (kc vH (qpv 0) (qpv 7)) xR) zv xR zP)) zZ (kg (jQ T) T.law_point hr (ke (wF yw (kc vH (qpv 0) (qpv 7)) xR) zv xR zP)) zZ)))
   (ku (kK (kL (ko yQ (wF zW (kc vH (qpv 0) (qpv 7)) xR) xR (nomark _)) (kM (ko jm (kN xy rfl T.b_len xi (kh (qpv 6) zd)) xR (nomark _))))) (kq (kf 9 xH.nd (kc zR (qpv 6) (wF jL (wF yw (kc vH (qpv 0) (qpv 7)) xR) (kN xy rfl T.b_len xi (kh (qpv 6) zd)))))) kA)
   (kf 6 xH.nd (wF jM (wF jM (kO vV (qpv 6) kP (kR (qpv 8))) (kr (kh (qpv 9) zd))) (kO vV (qpv 6) (kR (qpv 8)) kP)))))
   (kx (qpv 6)))
   ,λR ys ss H1 F C M nR g1 hR hl hs=>?_⟩
  clear ue kD uf ke wF qpv xR kN kh kz kC kf kc kg ku kK kL ko kM kq kA kO kP kR kr kx QE QT QW QA QS QSs QG QGs QI QO QIf;simp! [];refine yq ?_;simp! [iRng2];refine⟨_,.inl (g1.seq hS),by lia,by lia,by rw[pL];split<;>lia,by rw[pL];split<;>lia,?_⟩
  rw[pL];have cn:((if(ks:Int)+5<(ns.length:Int) then(ks:Int)+5 else(ns.length:Int))-((ks:Int)+2)).toNat<=3/\∀i:Nat,i<((if(ks:Int)+5<(ns.length:Int) then(ks:Int)+5 else(ns.length:Int))-((ks:Int)+2)).toNat->ks+2+i<ns.length:=by
   split
   ·exact⟨by lia,λi hi=>by lia⟩
   ·exact⟨by lia,λi hi=>by lia⟩
  generalize ((if(ks:Int)+5<(ns.length:Int) then(ks:Int)+5 else(ns.length:Int))-((ks:Int)+2)).toNat=cnt at*;obtain⟨cn1,cn2⟩:=cn;refine vQ (lo:=(ks:Int)+2) (n:=cnt) (λi σ H'=>∃(R:Addr)(ys:List V)(ss:List (Q3×Q3))(u1 u2 u3:Option V),σ=[some (.ref a),some (.int ks),some (.int m),some (.int F),some (.int C),some (.int M),some (.ref R),u1,u2,u3]/\zg H H'/\H R=none/\H' R=some (.lst ys)/\ys.length<=42+i/\LR (StE 130) H' ys ss) ⟨R,ys,ss,none,none,none,rfl,g1,nR,hR,hl,hs⟩ ?_ ?_
  ·intro _ _;rintro i σ H2 hi ⟨R,ys,ss,u1,u2,u3,rfl,g2,nR,hR2,hl2,hs2⟩;have hki:=cn2 i hi;obtain⟨x,ax⟩:=wD (xs:=ns) (j:=(ks:Int)+2+(i:Int)) (by lia) (by lia)
   have hS2:=g2.seq hS;simp! [hR2];refine⟨_,hS2,_,ax,x,rfl,⟨by decide,by decide⟩,by lia,_,hS2,_,ax,x,rfl,⟨by decide,by decide⟩,_,_,rfl,λr1 H3 q1 g3 h3=>?_⟩
   have hS3:=g3.seq hS2;refine⟨_,hS3,_,ax,x,rfl,⟨by decide,by decide⟩,_,_,rfl,λr2 H4 q2 g4 h4=>?_⟩
   refine⟨60,r1,r2,q1,q2,rfl,by decide,h3.same g4,h4,λso H5 eo g5 h5=>?_⟩
   have g25:=g3.trans (g4.trans g5);have hS5:=g25.seq hS2;have hR5:=g25 _ _ hR2;have hs5:=hs2.ts yb (zI g25);have h5':StE 130 H5 so eo:=StE.mono h5 (by decide)
   refine⟨_,hS5,_,ax,x,rfl,by decide,?_⟩
   obtain⟨at_,ea,la⟩:∃n:Nat,(x/2).fmod ((ys.length:Int)+1)=(n:Int)/\n<=ys.length:=by
    have f0:0<=(x/2).fmod ((ys.length:Int)+1):=by rw[Qa _ (by lia)];exact Ut _ (by lia)
    have f1:(x/2).fmod ((ys.length:Int)+1)<ys.length+1:=by rw[Qa _ (by lia)];exact Uf _ (by lia)
    exact⟨((x/2).fmod ((ys.length:Int)+1)).toNat,(Ck f0).symm,by lia⟩
   rw[ea];refine ite2 (λ_=>⟨ys,.inl hR5,ite2 (λc=>?_) λ_=>?_⟩) (λ_=>?_)
   ·have c':0<ys.length:=by
     have:(0:Int)<ys.length:=by simpa using c
     lia
    obtain⟨ix,ei,li⟩:∃n:Nat,(x/20).fmod (ys.length:Int)=(n:Int)/\n<ys.length:=by
     have f0:0<=(x/20).fmod (ys.length:Int):=by rw[Qa _ (by lia)];exact Ut _ (by lia)
     have f1:(x/20).fmod (ys.length:Int)<ys.length:=by rw[Qa _ (by lia)];exact Uf _ (by lia)
     exact⟨((x/20).fmod (ys.length:Int)).toNat,(Ck f0).symm,by lia⟩
    obtain⟨vo,eo',i1,i2,hvo⟩:=hs5.at li;refine⟨_,hS5,_,ax,x,rfl,⟨by decide,by decide⟩,ys,.inl hR5,by lia,ys,hR5,V.ref vo,by rw[ei];exact yp i1,?_⟩
    refine⟨ys,hR5,λp1 n1 p2 n2=>?_⟩;rw[Wb ys at_ la] at n2⊢;have g6:=ze n1 (HO.lst (ys.take at_));have e6:upd H5 p1 (HO.lst (ys.take at_)) p1=some (HO.lst (ys.take at_)):=upd_same;generalize upd H5 p1 (HO.lst (ys.take at_))=H6 at*;have g7:=ze n2 (HO.lst [V.ref vo]);have e7:upd H6 p2 (HO.lst [V.ref vo]) p2=some (HO.lst [V.ref vo]):=upd_same;generalize upd H6 p2 (HO.lst [V.ref vo])=H7 at*;refine⟨p1,p2,ys.take at_,[V.ref vo],rfl,rfl,g7 _ _ e6,e7,uq (small1000 (n:=(ys.take at_).length+1) (by rw[pV];lia)),λp3 n3=>?_⟩
    have g8:=ze n3 (HO.lst (ys.take at_++[V.ref vo]));have e8:upd H7 p3 (HO.lst (ys.take at_++[V.ref vo])) p3=some (HO.lst (ys.take at_++[V.ref vo])):=upd_same;generalize upd H7 p3 (HO.lst (ys.take at_++[V.ref vo]))=H8 at*;have g58:=g6.trans (g7.trans g8);refine⟨ys,g58 _ _ hR5,λp4 n4=>?_⟩;rw[Xd ys at_ la];have g9:=ze n4 (HO.lst (ys.drop at_));have e9:upd H8 p4 (HO.lst (ys.drop at_)) p4=some (HO.lst (ys.drop at_)):=upd_same;generalize upd H8 p4 (HO.lst (ys.drop at_))=H9 at*;refine⟨p3,p4,ys.take at_++[V.ref vo],ys.drop at_,rfl,rfl,g9 _ _ e8,e9,uq (small1000 (n:=(ys.take at_++[V.ref vo]).length+(ys.drop at_).length) (by rw[pM,pV,pg];show _+1+_<=_;lia)),λp5 n5=>?_⟩
    have g10:=ze n5 (HO.lst (ys.take at_++[V.ref vo]++ys.drop at_));have g510:=g58.trans (g9.trans g10);have s10:=zI g510;exact⟨p5,rfl,g2.trans (g25.trans g510),(g2.trans (g25.trans (g58.trans g9))).free n5,_,upd_same,by rw[pM,pM,pV,pg];show _+1+_<=_;lia,_,(((hs5.take at_).ts yb s10).app (.one (yb _ _ _ _ s10 hvo))).app ((hs5.drop at_).ts yb s10)⟩
   ·skip
    refine⟨ys,hR5,λp1 n1 p2 n2=>?_⟩;rw[Wb ys at_ la] at n2⊢;have g6:=ze n1 (HO.lst (ys.take at_));have e6:upd H5 p1 (HO.lst (ys.take at_)) p1=some (HO.lst (ys.take at_)):=upd_same;generalize upd H5 p1 (HO.lst (ys.take at_))=H6 at*;have g7:=ze n2 (HO.lst [V.ref so]);have e7:upd H6 p2 (HO.lst [V.ref so]) p2=some (HO.lst [V.ref so]):=upd_same;generalize upd H6 p2 (HO.lst [V.ref so])=H7 at*;refine⟨p1,p2,ys.take at_,[V.ref so],rfl,rfl,g7 _ _ e6,e7,uq (small1000 (n:=(ys.take at_).length+1) (by rw[pV];lia)),λp3 n3=>?_⟩
    have g8:=ze n3 (HO.lst (ys.take at_++[V.ref so]));have e8:upd H7 p3 (HO.lst (ys.take at_++[V.ref so])) p3=some (HO.lst (ys.take at_++[V.ref so])):=upd_same;generalize upd H7 p3 (HO.lst (ys.take at_++[V.ref so]))=H8 at*;have g58:=g6.trans (g7.trans g8);refine⟨ys,g58 _ _ hR5,λp4 n4=>?_⟩;rw[Xd ys at_ la];have g9:=ze n4 (HO.lst (ys.drop at_));have e9:upd H8 p4 (HO.lst (ys.drop at_)) p4=some (HO.lst (ys.drop at_)):=upd_same;generalize upd H8 p4 (HO.lst (ys.drop at_))=H9 at*;refine⟨p3,p4,ys.take at_++[V.ref so],ys.drop at_,rfl,rfl,g9 _ _ e8,e9,uq (small1000 (n:=(ys.take at_++[V.ref so]).length+(ys.drop at_).length) (by rw[pM,pV,pg];show _+1+_<=_;lia)),λp5 n5=>?_⟩
    have g10:=ze n5 (HO.lst (ys.take at_++[V.ref so]++ys.drop at_));have g510:=g58.trans (g9.trans g10);have s10:=zI g510;exact⟨p5,rfl,g2.trans (g25.trans g510),(g2.trans (g25.trans (g58.trans g9))).free n5,_,upd_same,by rw[pM,pM,pV,pg];show _+1+_<=_;lia,_,(((hs5.take at_).ts yb s10).app (.one (yb _ _ _ _ s10 h5'))).app ((hs5.drop at_).ts yb s10)⟩
   ·skip
    refine⟨ys,hR5,λp1 n1 p2 n2=>?_⟩;rw[Wb ys at_ la] at n2⊢;have g6:=ze n1 (HO.lst (ys.take at_));have e6:upd H5 p1 (HO.lst (ys.take at_)) p1=some (HO.lst (ys.take at_)):=upd_same;generalize upd H5 p1 (HO.lst (ys.take at_))=H6 at*;have g7:=ze n2 (HO.lst [V.ref so]);have e7:upd H6 p2 (HO.lst [V.ref so]) p2=some (HO.lst [V.ref so]):=upd_same;generalize upd H6 p2 (HO.lst [V.ref so])=H7 at*;refine⟨p1,p2,ys.take at_,[V.ref so],rfl,rfl,g7 _ _ e6,e7,uq (small1000 (n:=(ys.take at_).length+1) (by rw[pV];lia)),λp3 n3=>?_⟩
    have g8:=ze n3 (HO.lst (ys.take at_++[V.ref so]));have e8:upd H7 p3 (HO.lst (ys.take at_++[V.ref so])) p3=some (HO.lst (ys.take at_++[V.ref so])):=upd_same;generalize upd H7 p3 (HO.lst (ys.take at_++[V.ref so]))=H8 at*;have g58:=g6.trans (g7.trans g8);refine⟨ys,g58 _ _ hR5,λp4 n4=>?_⟩;rw[Xd ys at_ la];have g9:=ze n4 (HO.lst (ys.drop at_));have e9:upd H8 p4 (HO.lst (ys.drop at_)) p4=some (HO.lst (ys.drop at_)):=upd_same;generalize upd H8 p4 (HO.lst (ys.drop at_))=H9 at*;refine⟨p3,p4,ys.take at_++[V.ref so],ys.drop at_,rfl,rfl,g9 _ _ e8,e9,uq (small1000 (n:=(ys.take at_++[V.ref so]).length+(ys.drop at_).length) (by rw[pM,pV,pg];show _+1+_<=_;lia)),λp5 n5=>?_⟩
    have g10:=ze n5 (HO.lst (ys.take at_++[V.ref so]++ys.drop at_));have g510:=g58.trans (g9.trans g10);have s10:=zI g510;exact⟨p5,rfl,g2.trans (g25.trans g510),(g2.trans (g25.trans (g58.trans g9))).free n5,_,upd_same,by rw[pM,pM,pV,pg];show _+1+_<=_;lia,_,(((hs5.take at_).ts yb s10).app (.one (yb _ _ _ _ s10 h5'))).app ((hs5.drop at_).ts yb s10)⟩
  ·rintro σ H2 ⟨R,ys,ss,u1,u2,u3,rfl,g2,nR,hR2,hl2,hs2⟩;simp! [];exact k R ys ss H2 nR g2 hR2 (by lia) hs2
 obtain⟨tl1,htl1,hk1⟩:∃tl,PSs (xM CX0 P w K mg base ["_law_script","_law_start","_law_most","_law_first","_law_cell","_law_many","_law_parts","_law_k","_law_at","_law_one"] "_law_stretches" (zp vA) (ad 39) cdv A outer s H E).nox ((yD vA).drop 5) tl/\∀(R:Addr)(ys:List V)(ss:List (Q3×Q3))(H1:Hp)(F C M:Int),H R=none->zg H H1->H1 R=some (.lst ys)->ys.length<=42->LR (StE 62) H1 ys ss->
   tl {nx:=λ_ H'=>Q .non H',rt:=Q} [some (.ref a),some (.int ks),some (.int m),some (.int F),some (.int C),some (.int M),some (.ref R),none,none,none] H1:=by
  have kH:=@zD;have ku:=@zK;have ko:=@zF;have wF:=@zf;have qpv:=@pv;have xR:=@za;have kq:=@zq;have kf:=@zu;have kg:=@zt;have ke:=@pa2;have kc:=@zb;have kr:=@xq;have kA:=@zL;generalize @PE=QE,@PT=QT,@PW=QW,@PA=QA,@PS=QS,@PSs=QSs,@PG=QG,@PGs=QGs,@L2.PI=QI,@PO=QO,@PIf=QIf at kH ku ko wF qpv xR kq kf kg ke kc kr kA htl⊢;refine⟨_,
  (kH (ku (ko yQ (wF zW (qpv 4) xR) xR (nomark _)) (kq (kf 6 xH.nd (kg (zbx T) T.law_put_off hr (ke (qpv 6) zd (kc zR (kr (ke (wF zO (wF VE xR xR) xR) zv (wF yh xR (wF VE xR xR)) zv)) (wF zW (wF yw (qpv 4) xR) xR)) zr)))) kA)
   htl)
   ,λR ys ss H1 F C M nR g1 hR hl hs=>?_⟩
  clear htl kH ku ko wF qpv xR kq kf kg ke kc kr kA QE QT QW QA QS QSs QG QGs QI QO QIf;simp! [];refine⟨by decide,ite2 (λ_=>?_) λ_=>?_⟩
  ·refine⟨⟨by decide,by decide,by decide⟩,⟨by decide,by decide,by decide⟩,λp hp=>⟨⟨by decide,by decide⟩,by decide,?_⟩⟩
   have g2:=ze hp (HO.lst [V.int (10^CL 12+7),V.int (0-10^CL 18)]);generalize upd H1 p (HO.lst [V.int (10^CL 12+7),V.int (0-10^CL 18)])=H2 at*;obtain⟨f,af,lf⟩:∃f:Int,atI [V.int (10^CL 12+7),V.int (0-10^CL 18)] (C/16%2)=some (V.int f)/\f.natAbs<2^60:=by
    rcases(by lia:C/16%2=0∨C/16%2=1) with e|e
    ·rw[e];exact⟨_,at0,by decide+kernel⟩
    ·rw[e];exact⟨_,at1,by decide+kernel⟩
   exact⟨_,af,R,ys,ss,f,rfl,lf,g2 _ _ hR,hl,hs.ts yb (zI g2),λR2 zs ts H3 nR2 g3 hR3 hz ht=>hk2 R2 zs ts H3 F C M ((g1.trans g2).free nR2) (g1.trans (g2.trans g3)) hR3 (by lia) ht⟩
  ·exact hk2 R ys ss H1 F C M nR g1 hR hl (LRe.mono hs (by decide))
 have kH:=@zD;have kf:=@zu;have kg:=@zt;have ke:=@pa2;have qpv:=@pv;have wF:=@zf;have xR:=@za;have km:=@pa3;have ku:=@zK;have ko:=@zF;have kq:=@zq;have kh:=@pa1;have kA:=@zL;generalize @PE=QE,@PT=QT,@PW=QW,@PA=QA,@PS=QS,@PSs=QSs,@PG=QG,@PGs=QGs,@L2.PI=QI,@PO=QO,@PIf=QIf at kH kf kg ke qpv wF xR km ku ko kq kh kA htl1⊢;refine⟨_,
  (kH (kf 3 xH.nd (kg (WI T) T.law_cell_at hr (ke (qpv 0) zd (qpv 1) zd)))
   (kH (kf 4 xH.nd (wF x9 (qpv 3) (wF zO (wF wc xR (qpv 2)) xR)))
   (kH (kf 5 xH.nd (wF jL (qpv 3) (wF zO (qpv 2) xR)))
   (kH (kf 6 xH.nd (kg (zb1 T) T.law_drawn hr (km (kg (WI T) T.law_cell_at hr (ke (qpv 0) zd (wF zO (qpv 1) xR) zv)) zZ (qpv 5) zd (wF zW (wF x9 (qpv 3) (wF zO (qpv 2) xR)) xR) zv)))
   (kH (ku (ko yQ (wF zW (qpv 4) xR) xR (nomark _)) (kq (kf 6 xH.nd (kg (zdt T) T.law_comb hr (kh (kg (WI T) T.law_cell_at hr (ke (qpv 0) zd (wF zO (qpv 1) xR) zv)) zZ)))) kA)
   htl1)))))
  ,?_⟩
 clear htl1 kH kf kg ke qpv wF xR km ku ko kq kh kA QE QT QW QA QS QSs QG QGs QI QO QIf;simp! [Js];have m6:((6:Int)*m+6).natAbs<2^8:=by
  have:(2:Nat)^8=256:=rfl;lia
 have m1:((m:Int)+1).natAbs<2^8:=by
  have:(2:Nat)^8=256:=rfl;lia
 refine⟨ns,hS,by lia,.inl ⟨by decide,by decide⟩,cdivb (by lia) m6,by lia,ns,hS,by lia,cdivb (by lia) m1,by decide,?_⟩
 generalize ns.getD (ks:Int).toNat 0=F at*;have f0:0<=F.fmod ((m:Int)+1):=by rw[Qa _ (by lia)];exact Ut _ (by lia)
 have f1:F.fmod ((m:Int)+1)<m+1:=by rw[Qa _ (by lia)];exact Uf _ (by lia)
 refine⟨_,(F.fmod ((m:Int)+1)).toNat,_,by rw[Ck f0],by lia,λR ys ss H1 nR g1 hR hl hs=>?_⟩
 exact⟨by decide,ite2 (λ_=>⟨ns,g1.seq hS,by lia,_,rfl,λR2 ys2 ss2 H2 nR2 g2 hR2 hl2 hs2=>hk1 R2 ys2 ss2 H2 _ _ _ (g1.free nR2) (g1.trans g2) hR2 hl2 (LRe.mono hs2 (by decide))⟩) (λ_=>hk1 R ys ss H1 _ _ _ nR g1 hR (by lia) hs)⟩
def W1(T:Txt K mg ad fd):zx P w K mg base CX0 1 (ad 0) (fd 0) ["thing"] je:=by
 refine T.is_whole.fn.ok zf3 (λvs H Q E h=>?_) (λcdv A outer s H vs Q E hr h=>?_)
 ·obtain⟨i,rfl,_⟩:=h;rfl
 obtain⟨i,rfl,q⟩:=h;refine⟨_,
  (zq (zo (qm (ye (wv Z0) rfl T.b_isinstance wG (pa2 (pv 0) zd (wK (v:=.ty "int") rfl T.b_int Vq rfl) zd)) (qR (Yo (ye (wv Zg) rfl T.b_isinstance wG (pa2 (pv 0) zd (wK (v:=.ty "bool") rfl T.b_bool JW rfl) zd)))))))
  ,?_⟩
 dsimp! [L2.start]
 simp! [];exact q
theorem W8(T:Txt K mg ad fd):zx P w K mg base CX0 1 (ad 1) (fd 1) ["one","other"] jT:=by
 refine T.divisor.fn.ok vP (λvs H Q E h=>?_) (λcdv A outer s H vs Q E hr h=>?_)
 ·obtain⟨a,b,rfl,_⟩:=h;rfl
 obtain⟨a,b,rfl,q⟩:=h;refine⟨_,
  (pss4
   (zu 2 vP.nd (ye Wq rfl T.b_abs Y5 (pa1 (pv 0) zd)))
   (zu 3 vP.nd (ye Wq rfl T.b_abs Y5 (pa1 (pv 1) zd)))
   (Jv uO (zF wR (pv 3) za (nomark _)) (pss3
   (zu 4 vP.nd (zf jL (pv 2) (pv 3)))
   (zu 2 vP.nd (pv 3))
   (zu 3 vP.nd (pv 4))))
   (zo (pv 2)))
  ,?_⟩
 dsimp! [L2.start]
 simp only[zC,qi,jt,Y9,qh,wE,gName,jN,tVar,tC,tOp,tUn,rI,rI0,rU,rEq,rNe,jW,tB,jg,qf,tOr,jR,tOrV,j9,tIf,tCB,v5,xx,yy,qt,jK,gTup,gCons,gNil,L2.start,rIsi,rIxT,rIxL,cx_K,tyN_non,tyN_bl,tyN_int,tyN_str,isi_ii,isi_ib,XJ,Y6,Xu,WH,isi_tt,XH,Wy,WO,Xn,X6,isi_ll,scal_ii,scal_bb,sz0,sz1,sz2,sz3,sz4,pj,Ux,uZ,BP,As,Aw,Al,UF,Bh,Bi,DL,DM,UL,V.int.injEq,V.bl.injEq,V.ref.injEq,V.ty.injEq,BQ,and_true,true_and,exists_eq_left,exists_eq_left',exists_and_left,exists_and_right,exists_eq,exists_eq',and_assoc,Df,Dg,Uz,Bu,uI,if_true,if_false,reduceIte,EN,decide_true,decide_false];refine VU (zb3 a b H) (λσ _=>(getI σ 3).toNat) ⟨rfl,_,_,_,rfl,by split<;>lia,by split<;>lia,G_abs a b⟩ ?_
  (λσ H Q Q' m h=>by obtain⟨v,e,s,k,e2,q⟩:=h;exact⟨v,e,s,k,e2,m _ _ q⟩)
 rintro σ H' ⟨rfl,x,y,r,rfl,hx,hy,e⟩;simp only[zC,qi,jt,Y9,qh,wE,gName,jN,tVar,tC,tOp,tUn,rI,rI0,rU,rEq,rNe,jW,tB,jg,qf,tOr,jR,tOrV,j9,tIf,tCB,v5,xx,yy,qt,jK,gTup,gCons,gNil,L2.start,rIsi,rIxT,rIxL,cx_K,tyN_non,tyN_bl,tyN_int,tyN_str,isi_ii,isi_ib,XJ,Y6,Xu,WH,isi_tt,XH,Wy,WO,Xn,X6,isi_ll,scal_ii,scal_bb,sz0,sz1,sz2,sz3,sz4,pj,Ux,uZ,BP,As,Aw,Al,UF,Bh,Bi,DL,DM,UL,V.int.injEq,V.bl.injEq,V.ref.injEq,V.ty.injEq,BQ,and_true,true_and,exists_eq_left,exists_eq_left',exists_and_left,exists_and_right,exists_eq,exists_eq',and_assoc,Df,Dg,Uz,Bu,uI,if_true,if_false,reduceIte,EN,decide_true,decide_false];refine ite2 (λc=>?_) (λc=>?_)
 ·have hy0:0<y:=by
   rcases Int.lt_or_eq_of_le hy with z|z
   ·exact z
   ·subst z;simp at c
  obtain⟨h1,h2,h3⟩:=turn e hy0;exact⟨by lia,⟨rfl,_,_,_,rfl,h1,h2,h3⟩,less hy0⟩
 ·have hy0:y=0:=by simpa using c
  rw[←e,←G_zero hx hy0] at q;exact q
def zew(T:Txt K mg ad fd):zx P w K mg base CX0 2 (ad 2) (fd 2) ["x","y","w"] Ju:=by
 refine T.point.fn.ok Xk (λvs H Q E h=>?_) (λcdv A outer s H vs Q E hr h=>?_)
 ·obtain⟨a,b,w,rfl,_⟩:=h;rfl
 obtain⟨a,b,w,rfl,hb,hz,q⟩:=h;refine⟨_,
  (pss5
   (zK (PW.pt (xj (xb (yE (zt (W1 T) T.is_whole hr (pa1 (pv 0) zd)))) (xj (xb (yE (zt (W1 T) T.is_whole hr (pa1 (pv 1) zd)))) (wx (xb (yE (zt (W1 T) T.is_whole hr (pa1 (pv 2) zd)))))))) (zq za0) zL)
   (zK (zF yQ (pv 2) za (nomark _)) (zq za0) zL)
   (zu 3 Xk.nd (zt (W8 T) T.divisor hr (pa2 (zt (W8 T) T.divisor hr (pa2 (pv 2) zd (pv 0) zd)) zZ (pv 1) zd)))
   (zK (zF wI (pv 2) za (nomark _)) (zq (zu 3 Xk.nd (jE jn (pv 3)))) zL)
   (zo (yc (pa3 (zf x9 (pv 0) (pv 3)) zv (zf x9 (pv 1) (pv 3)) zv (zf x9 (pv 2) (pv 3)) zv))))
  ,?_⟩
 dsimp! [L2.start]
 simp! [je,jT];have hg:(fac3 a b w).natAbs<2^8000:=Ud (fac3_le hb) hz;have hn:=XC (x:=a) (y:=b) hb;refine ite2 (λc=>absurd (of_decide_eq_true c) hb) (λ_=>ite2 (λc=>?_) λc=>?_)
 ·have ef: -G (G w a) b=fac3 a b w:=(if_pos (of_decide_eq_true c)).symm;rw[ef];exact⟨cdivb hn hg,cdivb hn hg,cdivb hn hg,λp hp=>q p _ (ze hp _) upd_same⟩
 ·have ef:G (G w a) b=fac3 a b w:=(if_neg λz=>c (decide_eq_true z)).symm;rw[ef];exact⟨cdivb hn hg,cdivb hn hg,cdivb hn hg,λp hp=>q p _ (ze hp _) upd_same⟩
def YR(T:Txt K mg ad fd):zx P w K mg base CX0 1 (ad 3) (fd 3) ["P","Q"] Xb:=by
 refine T.before.fn.ok Xg (λvs H Q E h=>?_) (λcdv A outer s H vs Q E hr h=>?_)
 ·obtain⟨p,q,x1,y1,w1,x2,y2,w2,rfl,_⟩:=h;rfl
 obtain⟨p,q,x1,y1,w1,x2,y2,w2,rfl,⟨hp,pp⟩,⟨hq,pq⟩,k⟩:=h;refine⟨_,
  (pss4
   (zu 2 Xg.nd (zf zy (zb zc (pv 0) za) (zb zc (pv 1) za)))
   (zu 3 Xg.nd (zf zy (zb zc (pv 1) za) (zb zc (pv 0) za)))
   (zK (zF wR (pv 2) (pv 3) (nomark _)) (zq (zo (wa wI (pv 2) (pv 3) (nomark _)))) zL)
   (zo (wa wI (zf zy (zb zc (pv 0) za) (zb zc (pv 1) za)) (zf zy (zb zc (pv 1) za) (zb zc (pv 0) za)) (nomark _))))
  ,?_⟩
 dsimp! [L2.start]
 simp! [hp,hq];refine⟨cbig pp.1 pq.2.2,cbig pq.1 pp.2.2,?_⟩;unfold bef at k;refine ite2 (λc=>?_) (λc=>⟨cbig pp.2.1 pq.2.2,cbig pq.2.1 pp.2.2,?_⟩)
 ·have c':¬x1*w2=x2*w1:=by simpa using c
  rw[if_neg c'] at k;exact k
 ·have c':x1*w2=x2*w1:=by simpa using c
  rw[if_pos c'] at k;exact k
def zco(T:Txt K mg ad fd):zx P w K mg base CX0 1 (ad 4) (fd 4) ["number"] Jb:=by
 refine T.sign_of.fn.ok zbo (λvs H Q E h=>?_) (λcdv A outer s H vs Q E hr h=>?_)
 ·obtain⟨z,rfl,_⟩:=h;rfl
 obtain⟨z,rfl,k⟩:=h;refine⟨_,
  (pss3
   (zK (zF jm (pv 0) za (nomark _)) (zq (zo za)) zL)
   (zK (zF wI (pv 0) za (nomark _)) (zq (zo (jE jn za))) zL)
   (zo za))
  ,?_⟩
 dsimp! [L2.start]
 simp! [];unfold sgn at k;refine ite2 (λc=>?_) (λc=>ite2 (λc2=>?_) λc2=>?_)
 ·rw[if_pos (of_decide_eq_true c)] at k;exact k
 ·rw[if_neg (λz=>c (decide_eq_true z)),if_pos (of_decide_eq_true c2)] at k;exact k
 ·rw[if_neg (λz=>c (decide_eq_true z)),if_neg (λz=>c2 (decide_eq_true z))] at k;exact k
def Jn(T:Txt K mg ad fd):zx P w K mg base CX0 1 (ad 5) (fd 5) ["P","Q"] sp_line:=by
 refine T.line_of.fn.ok zbu (λvs H Q E h=>?_) (λcdv A outer s H vs Q E hr h=>?_)
 ·obtain⟨p,q,x1,y1,w1,x2,y2,w2,rfl,_⟩:=h;rfl
 obtain⟨p,q,x1,y1,w1,x2,y2,w2,rfl,⟨hp,pp⟩,⟨hq,pq⟩,k⟩:=h;refine⟨_,
  (zq (zo (yc (pa3 (zf yh (zf zy (zb zc (pv 0) za) (zb zc (pv 1) za)) (zf zy (zb zc (pv 0) za) (zb zc (pv 1) za))) zv (zf yh (zf zy (zb zc (pv 0) za) (zb zc (pv 1) za)) (zf zy (zb zc (pv 0) za) (zb zc (pv 1) za))) zv (zf yh (zf zy (zb zc (pv 0) za) (zb zc (pv 1) za)) (zf zy (zb zc (pv 0) za) (zb zc (pv 1) za))) zv))))
  ,?_⟩
 dsimp! [L2.start]
 simp! [hp,hq];exact⟨cbig pp.2.1 pq.2.2,cbig pp.2.2 pq.2.1,cbig pp.2.2 pq.1,cbig pp.1 pq.2.2,cbig pp.1 pq.2.1,cbig pp.2.1 pq.1,λr hr=>k r _ (ze hr _) upd_same⟩
def qZ(T:Txt K mg ad fd):zx P w K mg base CX0 2 (ad 6) (fd 6) ["line","P"] sp_side:=by
 refine T.side_of.fn.ok zcx (λvs H Q E h=>?_) (λcdv A outer s H vs Q E hr h=>?_)
 ·obtain⟨l,p,a,b,c,x,y,w,rfl,_⟩:=h;rfl
 obtain⟨l,p,a,b,c,x,y,w,rfl,hl,⟨la,lb,lc⟩,hp,⟨lx,ly,lw⟩,k⟩:=h;refine⟨_,
  (zq (zo (zt (zco T) T.sign_of hr (pa1 (zf zO (zf zO (zf zy (zb zc (pv 0) za) (zb zc (pv 1) za)) (zf zy (zb zc (pv 0) za) (zb zc (pv 1) za))) (zf zy (zb zc (pv 0) za) (zb zc (pv 1) za))) zv))))
  ,?_⟩
 dsimp! [L2.start]
 simp! [Jb,hl,hp];exact⟨cbig la lx,cbig lb ly,cbig lc lw,k⟩
def ok_met(T:Txt K mg ad fd):zx P w K mg base CX0 3 (ad 7) (fd 7) ["one","other"] sp_met:=by
 refine T.met.fn.ok Yb (λvs H Q E h=>?_) (λcdv A outer s H vs Q E hr h=>?_)
 ·obtain⟨p,q,a,b,c,a',b',c',rfl,_⟩:=h;rfl
 obtain⟨p,q,a,b,c,a',b',c',rfl,hp,⟨la,lb,lc⟩,hq,⟨la',lb',lc'⟩,k0,k1⟩:=h;refine⟨_,
  (pss5
   (zu 2 Yb.nd (zf yh (zf zy (zb zc (pv 0) za) (zb zc (pv 1) za)) (zf zy (zb zc (pv 0) za) (zb zc (pv 1) za))))
   (zK (zF yQ (pv 2) za (nomark _)) (zq (zo qg)) zL)
   (zu 3 Yb.nd (zf yh (zf zy (zb zc (pv 0) za) (zb zc (pv 1) za)) (zf zy (zb zc (pv 0) za) (zb zc (pv 1) za))))
   (zu 4 Yb.nd (zf yh (zf zy (zb zc (pv 0) za) (zb zc (pv 1) za)) (zf zy (zb zc (pv 0) za) (zb zc (pv 1) za))))
   (zo (zt (zew T) T.point hr (pa3 (pv 3) zd (pv 4) zd (pv 2) zd))))
  ,?_⟩
 dsimp! [L2.start]
 simp! [Ju,hp,hq];have lw:(a*b'-b*a').natAbs<2^(2001+2001+1):=xm (zS la lb') (zS lb la');refine⟨cbig la lb',cbig lb la',ite2 (λe=>k0 (of_decide_eq_true e)) λe=>?_⟩;have ne:a*b'-b*a'≠0:=λz=>e (decide_eq_true z);exact⟨cbig lb lc',cbig lc lb',cbig lc la',cbig la lc',ne,zU lw (by decide),k1 ne⟩
def zdj(T:Txt K mg ad fd):zx P w K mg base CX0 2 (ad 13) (fd 13) ["one","other"] sp_mol:=by
 refine T.meet_on_line.fn.ok XO (λvs H Q E h=>?_) (λcdv A outer s H vs Q E hr h=>?_)
 ·obtain⟨s,t,p,q,r,u,a,b,c,d,rfl,_⟩:=h;rfl
 obtain⟨sA,t,p,q,r,u,a,b,c,d,rfl,⟨hs,ht,ha,hb,hc,hd⟩,k⟩:=h
 obtain⟨tl,htl,hk⟩:∃tl,PSs (xM CX0 P w K mg base ["one","other","first","second"] "meet_on_line" (zp jO) (ad 13) cdv A outer s H E).nox ((yD jO).drop 2) tl/\∀(F S:Addr),PtQ 130 H F (fst3 a c)->PtQ 130 H S (snd3 b d)->
   tl {nx:=λ_ H'=>Q .non H',rt:=Q} [some (.ref sA),some (.ref t),some (.ref F),some (.ref S)] H:=by
  refine⟨_,
  (pss3
   (zK (yE (zt (YR T) T.before hr (pa2 (pv 3) zd (pv 2) zd))) (zq (zo qg)) zL)
   (zK (zF (wY (hu64 hr)) (pv 2) (pv 3) (nomark _)) (zq (zo (yc (pa2 jV zP (pv 2) zd)))) zL)
   (zo (yc (pa2 jV zP (yc (pa2 (pv 2) zd (pv 3) zd)) yv))))
   ,λF S hF hS=>?_⟩
  skip
  simp! [];unfold mtL at k;refine⟨S,F,_,_,_,_,_,_,rfl,hS.tb,hF.tb,_,rfl,ite2 (λe=>?_) λe=>?_⟩
  ·rw[if_pos (show bq (snd3 b d) (fst3 a c)=true from e)] at k;exact k .non H (.refl _) rfl
  ·rw[if_neg (show ¬bq (snd3 b d) (fst3 a c)=true from e)] at k;refine⟨_,_,xU (.of hF.1),xU (.of hS.1),wN _ _ _,wN _ _ _,_,rfl,?_⟩;rw[qw]
   by_cases eq:(fst3 a c).x=(snd3 b d).x/\(fst3 a c).y=(snd3 b d).y/\(fst3 a c).w=(snd3 b d).w
   ·rw[decide_eq_true eq];rw[if_pos eq] at k;refine vC λx hx=>?_;have g:=ze hx (HO.tup [V.str "spot",V.ref F]);exact k _ _ g ⟨x,F,rfl,upd_same,g _ _ hF.1⟩
   ·rw[decide_eq_false eq];rw[if_neg eq] at k;refine yP λy hy=>?_;have g1:=ze hy (HO.tup [V.ref F,V.ref S]);have y1:upd H y (HO.tup [V.ref F,V.ref S]) y=some (HO.tup [V.ref F,V.ref S]):=upd_same;generalize upd H y (HO.tup [V.ref F,V.ref S])=H1 at*;intro x hx;have g:=ze hx (HO.tup [V.str "part",V.ref y]);have g2:=g1.trans g;exact k _ _ g2 ⟨x,y,F,S,rfl,upd_same,g _ _ y1,g2 _ _ hF.1,g2 _ _ hS.1⟩
 refine⟨_,
  (zD (zu 2 XO.nd (Vf (yE (zt (YR T) T.before hr (pa2 (zb zc (pv 0) za) zr (zb zc (pv 1) za) zr))) (zb zc (pv 1) za) (zb zc (pv 0) za)))
   (zD (zu 3 XO.nd (Vf (yE (zt (YR T) T.before hr (pa2 (zb zc (pv 0) za) zr (zb zc (pv 1) za) zr))) (zb zc (pv 0) za) (zb zc (pv 1) za)))
   htl))
  ,?_⟩
 clear htl;have f1:bq a c=true->PtQ 130 H r (fst3 a c):=λe=>by unfold fst3;rw[if_pos e];exact hc
 have f2:¬bq a c=true->PtQ 130 H p (fst3 a c):=λe=>by unfold fst3;rw[if_neg e];exact ha
 have s1:bq b d=true->PtQ 130 H q (snd3 b d):=λe=>by unfold snd3;rw[if_pos e];exact hb
 have s2:¬bq b d=true->PtQ 130 H u (snd3 b d):=λe=>by unfold snd3;rw[if_neg e];exact hd
 simp! [hs,ht];refine⟨p,r,_,_,_,_,_,_,rfl,ha.tb,hc.tb,_,rfl,ite2 (λe=>?_) λe=>?_⟩
 ·simp! [hs,ht];refine⟨q,u,_,_,_,_,_,_,rfl,hb.tb,hd.tb,_,rfl,ite2 (λe2=>?_) λe2=>?_⟩
  ·simp! [hs,ht];exact hk r q (f1 e) (s1 e2)
  ·simp! [hs,ht];exact hk r u (f1 e) (s2 e2)
 ·simp! [hs,ht];refine⟨q,u,_,_,_,_,_,_,rfl,hb.tb,hd.tb,_,rfl,ite2 (λe2=>?_) λe2=>?_⟩
  ·simp! [hs,ht];exact hk p q (f2 e) (s1 e2)
  ·simp! [hs,ht];exact hk p u (f2 e) (s2 e2)
theorem ok_meet(T:Txt K mg ad fd):zx P w K mg base CX0 4 (ad 12) (fd 12) ["one","other"] sp_meet:=by
 refine T.meet.fn.ok vz (λvs H Q E h=>?_) (λcdv A outer s H vs Q E hr h=>?_)
 ·obtain⟨s,t,p,q,r,u,a,b,c,d,rfl,_⟩:=h;rfl
 obtain⟨s,t,p,q,r,u,a,b,c,d,rfl,h4,k⟩:=h;refine⟨_,
  (pss9
   (zu 2 vz.nd (zt (Jn T) T.line_of hr (pa2 (zb zc (pv 0) za) zr (zb zc (pv 0) za) zr)))
   (zu 3 vz.nd (yc (pa2 (zt (qZ T) T.side_of hr (pa2 (pv 2) zd (zb zc (pv 1) za) zr)) zZ (zt (qZ T) T.side_of hr (pa2 (pv 2) zd (zb zc (pv 1) za) zr)) zZ)))
   (zK (zF (wY (hu64 hr)) (pv 3) (yc (pa2 za zP za zP)) (nomark _)) (zq (zo (zt (zdj T) T.meet_on_line hr (pa2 (pv 0) zd (pv 1) zd)))) zL)
   (zK (zF yQ (zb zc (pv 3) za) (zb zc (pv 3) za) (nomark _)) (zq (zo qg)) zL)
   (zu 4 vz.nd (zt (Jn T) T.line_of hr (pa2 (zb zc (pv 1) za) zr (zb zc (pv 1) za) zr)))
   (zu 5 vz.nd (yc (pa2 (zt (qZ T) T.side_of hr (pa2 (pv 4) zd (zb zc (pv 0) za) zr)) zZ (zt (qZ T) T.side_of hr (pa2 (pv 4) zd (zb zc (pv 0) za) zr)) zZ)))
   (zK (zF yQ (zb zc (pv 5) za) (zb zc (pv 5) za) (nomark _)) (zq (zo qg)) zL)
   (yo uO rfl (pi_zipT rfl T.b_zip (pa2 (zf ZY (pv 1) (pv 0)) zv (zf ZY (pv 3) (pv 5)) zv)) (Vy (n:=2) rfl (y8 (zB 6 vz.nd) (y8 (zB 7 vz.nd) vp))) (zq (zK (zF yQ (pv 7) za (nomark _)) (zq (zo (yc (pa2 jV zP (pv 6) zd)))) zL)))
   (zo (yc (pa2 jV zP (zt (ok_met T) T.met hr (pa2 (pv 2) zd (pv 4) zd)) zZ))))
  ,?_⟩
 dsimp! [L2.start]
 have e0:sgn (lnA a.x a.y a.w b.x b.y b.w*c.x+lnB a.x a.y a.w b.x b.y b.w*c.y+lnC a.x a.y a.w b.x b.y b.w*c.w)=sgn (dt a b c):=rfl;have e1:sgn (lnA a.x a.y a.w b.x b.y b.w*d.x+lnB a.x a.y a.w b.x b.y b.w*d.y+lnC a.x a.y a.w b.x b.y b.w*d.w)=sgn (dt a b d):=rfl;have e2:sgn (lnA c.x c.y c.w d.x d.y d.w*a.x+lnB c.x c.y c.w d.x d.y d.w*a.y+lnC c.x c.y c.w d.x d.y d.w*a.w)=sgn (dt c d a):=rfl;have e3:sgn (lnA c.x c.y c.w d.x d.y d.w*b.x+lnB c.x c.y c.w d.x d.y d.w*b.y+lnC c.x c.y c.w d.x d.y d.w*b.w)=sgn (dt c d b):=rfl;unfold mtF at k;simp! [h4.s,h4.t];refine⟨p,q,_,_,_,_,_,_,rfl,h4.a.tb,h4.b.tb,λl H1 g1 hl=>?_⟩;have i1:=h4.same g1;simp! [i1.s,i1.t];refine⟨l,r,_,_,_,_,_,_,rfl,hl,vL i1.a.tb.2 i1.b.tb.2,i1.c.1,i1.c.tb.2,?_⟩;simp! [i1.s,i1.t];refine⟨l,u,_,_,_,_,_,_,rfl,hl,vL i1.a.tb.2 i1.b.tb.2,i1.d.1,i1.d.tb.2,?_⟩;simp! [e0,e1];intro SD hSD;have g2:=ze hSD (HO.tup [V.int (sgn (dt a b c)),V.int (sgn (dt a b d))]);have s2:upd H1 SD (HO.tup [V.int (sgn (dt a b c)),V.int (sgn (dt a b d))]) SD=some (HO.tup [V.int (sgn (dt a b c)),V.int (sgn (dt a b d))]):=upd_same;generalize upd H1 SD (HO.tup [V.int (sgn (dt a b c)),V.int (sgn (dt a b d))])=H2 at*;have i2:=i1.same g2;intro Z hZ;have g3':=ze hZ (HO.tup [V.int 0,V.int 0]);have z3:upd H2 Z (HO.tup [V.int 0,V.int 0]) Z=some (HO.tup [V.int 0,V.int 0]):=upd_same;generalize upd H2 Z (HO.tup [V.int 0,V.int 0])=H3 at*;have i3:=i2.same g3';have s3:=g3' _ _ s2;have g13:=g1.trans (g2.trans g3');refine⟨_,_,rd_i2 (.of s3),rd_i2 (.of z3),JF _ _,JF _ _,_,rfl,?_⟩;rw[dI2_eqv]
 by_cases cl:sgn (dt a b c)=0/\sgn (dt a b d)=0
 ·rw[decide_eq_true cl];rw[if_pos cl] at k;exact vC ⟨s,t,p,q,r,u,a,b,c,d,rfl,i3,λv H' g h=>k v H' (g13.trans g) h⟩
 rw[decide_eq_false cl];rw[if_neg cl] at k;refine yP ?_;simp! [s3];refine ite2 (λc1=>?_) (λc1=>?_)
 ·rw[if_pos (of_decide_eq_true c1)] at k;exact k .non _ g13 rfl
 have n1:sgn (dt a b c)≠sgn (dt a b d):=λz=>c1 (decide_eq_true z);rw[if_neg n1] at k;simp! [i3.s,i3.t];refine⟨r,u,_,_,_,_,_,_,rfl,i3.c.tb,i3.d.tb,λm H4 g4 hm=>?_⟩;have i4:=i3.same g4;have s4:=g4 _ _ s3;simp! [i4.s,i4.t];refine⟨m,p,_,_,_,_,_,_,rfl,hm,vL i4.c.tb.2 i4.d.tb.2,i4.a.1,i4.a.tb.2,?_⟩;simp! [i4.s,i4.t];refine⟨m,q,_,_,_,_,_,_,rfl,hm,vL i4.c.tb.2 i4.d.tb.2,i4.b.1,i4.b.tb.2,?_⟩;simp! [e2,e3];intro SO hSO;have g5:=ze hSO (HO.tup [V.int (sgn (dt c d a)),V.int (sgn (dt c d b))]);have o5:upd H4 SO (HO.tup [V.int (sgn (dt c d a)),V.int (sgn (dt c d b))]) SO=some (HO.tup [V.int (sgn (dt c d a)),V.int (sgn (dt c d b))]):=upd_same;generalize upd H4 SO (HO.tup [V.int (sgn (dt c d a)),V.int (sgn (dt c d b))])=H5 at*;have i5:=i4.same g5;have s5:=g5 _ _ s4;have g15:=g13.trans (g4.trans g5);refine ite2 (λc2=>?_) (λc2=>?_)
 ·rw[if_pos (of_decide_eq_true c2)] at k;exact k .non _ g15 rfl
 have n2:sgn (dt c d a)≠sgn (dt c d b):=λz=>c2 (decide_eq_true z);rw[if_neg n2] at k;refine yq ?_;simp! [iZipU,rCatT];refine⟨_,.of i5.t,_,.of i5.s,by simp,by show 4<=sizeLine;decide,λz=>by simp at z,λ_ E1 hE1=>?_⟩
 have g6:=ze hE1 (HO.tup ([V.ref r,V.ref u]++[V.ref p,V.ref q]));have e6:upd H5 E1 (HO.tup ([V.ref r,V.ref u]++[V.ref p,V.ref q])) E1=some (HO.tup [V.ref r,V.ref u,V.ref p,V.ref q]):=upd_same;generalize upd H5 E1 (HO.tup ([V.ref r,V.ref u]++[V.ref p,V.ref q]))=H6 at*;have s6:=g6 _ _ s5;have o6:=g6 _ _ o5;refine⟨_,.of s6,_,.of o6,by simp,by show 4<=sizeLine;decide,λz=>by simp at z,λ_ E2 hE2=>?_⟩
 have g7:=ze hE2 (HO.tup ([V.int (sgn (dt a b c)),V.int (sgn (dt a b d))]++[V.int (sgn (dt c d a)),V.int (sgn (dt c d b))]));have f7:upd H6 E2 (HO.tup ([V.int (sgn (dt a b c)),V.int (sgn (dt a b d))]++[V.int (sgn (dt c d a)),V.int (sgn (dt c d b))])) E2=some (HO.tup [V.int (sgn (dt a b c)),V.int (sgn (dt a b d)),V.int (sgn (dt c d a)),V.int (sgn (dt c d b))]):=upd_same;generalize upd H6 E2 (HO.tup ([V.int (sgn (dt a b c)),V.int (sgn (dt a b d))]++[V.int (sgn (dt c d a)),V.int (sgn (dt c d b))]))=H7 at*;have e7:=g7 _ _ e6;have g57:=g6.trans g7;have i7:=i5.same g57;have l7:=g57 _ _ (g5 _ _ (g4 _ _ (g3' _ _ (g2 _ _ hl))));have m7:=g57 _ _ (g5 _ _ hm);have g17:=g15.trans g57;refine⟨⟨_,e7⟩,?_⟩;refine zen (xs:=[V.ref r,V.ref u,V.ref p,V.ref q]) (ys:=[V.int (sgn (dt a b c)),V.int (sgn (dt a b d)),V.int (sgn (dt c d a)),V.int (sgn (dt c d b))]) (λi σ H'=>zg H7 H'/\∃x y,σ=[some (V.ref s),some (V.ref t),some (V.ref l),some (V.ref SD),some (V.ref m),some (V.ref SO),x,y]/\(1<=i->sgn (dt a b c)≠0)/\(2<=i->sgn (dt a b d)≠0)/\(3<=i->sgn (dt c d a)≠0)/\(4<=i->sgn (dt c d b)≠0))
  ⟨.refl _,none,none,rfl,λz=>absurd z (by decide),λz=>absurd z (by decide),λz=>absurd z (by decide),λz=>absurd z (by decide)⟩ (λi σ H' iv=>⟨iv.1 _ _ e7,iv.1 _ _ f7⟩) rfl ?_ ?_
 ·intro _ _;rintro i x y T' σ H8 hx hy ⟨g8,u1,u2,rfl,c1,c2,c3,c4⟩ hT';have i8:=i7.same g8;obtain⟨e,sd',P',rfl,rfl,hP,hz,hnz⟩:∃(e:Addr)(sd':Int)(P':Q3),x=.ref e/\y=.int sd'/\PtQ 130 H8 e P'/\(sd'=0->mtS a b c d=P')/\(sd'≠0->(1<=i+1->sgn (dt a b c)≠0)/\(2<=i+1->sgn (dt a b d)≠0)/\(3<=i+1->sgn (dt c d a)≠0)/\(4<=i+1->sgn (dt c d b)≠0)):=by
   match i,hx,hy with
   |0,hx,hy=>
    cases hx;cases hy;exact⟨r,_,c,rfl,rfl,i8.c,λz=>by unfold mtS;rw[if_pos z],λz=>⟨λ_=>z,λz=>absurd z (by decide),λz=>absurd z (by decide),λz=>absurd z (by decide)⟩⟩
   |1,hx,hy=>
    cases hx;cases hy;exact⟨u,_,d,rfl,rfl,i8.d,λz=>by unfold mtS;rw[if_neg (c1 (by decide)),if_pos z],λz=>⟨λ_=>c1 (by decide),λ_=>z,λz=>absurd z (by decide),λz=>absurd z (by decide)⟩⟩
   |2,hx,hy=>
    cases hx;cases hy;exact⟨p,_,a,rfl,rfl,i8.a,λz=>by unfold mtS;rw[if_neg (c1 (by decide)),if_neg (c2 (by decide)),if_pos z],λz=>⟨λ_=>c1 (by decide),λ_=>c2 (by decide),λ_=>z,λz=>absurd z (by decide)⟩⟩
   |3,hx,hy=>
    cases hx;cases hy;exact⟨q,_,b,rfl,rfl,i8.b,λz=>by unfold mtS;rw[if_neg (c1 (by decide)),if_neg (c2 (by decide)),if_neg (c3 (by decide)),if_pos z],λz=>⟨λ_=>c1 (by decide),λ_=>c2 (by decide),λ_=>c3 (by decide),λ_=>z⟩⟩
  have g9:=ze hT' (HO.tup [V.ref e,V.int sd']);have t9:upd H8 T' (HO.tup [V.ref e,V.int sd']) T'=some (HO.tup [V.ref e,V.int sd']):=upd_same;generalize upd H8 T' (HO.tup [V.ref e,V.int sd'])=H9 at*;simp! [gTup];refine⟨_,.of t9,rfl,_,_,rfl,_,_,rfl,rfl,?_⟩;refine⟨rfl,ite2 (λc=>λz hz'=>?_) (λc=>⟨g8.trans g9,hnz (by simpa using c)⟩)⟩
  have s0:sd'=0:=by simpa using c
  have g10:=ze hz' (HO.tup [V.str "spot",V.ref e]);refine k _ _ (g17.trans (g8.trans (g9.trans g10))) ?_;rw[hz s0];exact⟨z,e,rfl,upd_same,g10 _ _ (g9 _ _ hP.1)⟩
 ·rintro σ H8 ⟨g8,u1,u2,rfl,c1,c2,c3,c4⟩;have cw:=Xl (a:=a) (b:=b) h4.c.pt.pos h4.d.pt.pos n1;simp! [];refine⟨l,m,_,_,_,_,_,_,rfl,g8 _ _ l7,vL h4.a.tb.2 h4.b.tb.2,g8 _ _ m7,vL h4.c.tb.2 h4.d.tb.2,λz=>absurd z cw,λ_ M H9 g9 hM=>?_⟩;simp! [];intro z hz;have g10:=ze hz (HO.tup [V.str "spot",V.ref M]);have em:mtS a b c d=crP a b c d:=by unfold mtS;rw[if_neg (c1 (by show 1<=4;decide)),if_neg (c2 (by show 2<=4;decide)),if_neg (c3 (by show 3<=4;decide)),if_neg (c4 (by show 4<=4;decide))]
  refine k _ _ (g17.trans (g8.trans (g9.trans g10))) ?_;rw[em];exact⟨z,M,rfl,upd_same,g10 _ _ hM⟩
def zan{κ:Type}[DecidableEq κ]{kvs:List (κ×V)}{k:κ}(v:V)(h:(zw kvs k).isSome=true):(yj kvs k v).map UG=kvs.map UG:=by
 unfold yj;rw[vd,if_pos h,UD];refine BC λkv _=>?_;show(if kv.1=k then(kv.1,v) else kv).1=kv.1
 split<;>rfl
theorem Vn{κ:Type}[DecidableEq κ]{kvs:List (κ×V)}{k:κ}(h:k∈kvs.map UG):(zw kvs k).isSome=true:=by
 cases e:zw kvs k with
 |some v=>rfl
 |none=>exact absurd h (zdp e)
noncomputable def jI(ns:List Nat):List Key:=ns.map λi:Nat=>(AD (i:Int):Key)
theorem Za{ns:List Nat}{i:Nat}:(AD (i:Int):Key)∈jI ns↔i∈ns:=by
 unfold jI
 constructor
 ·intro h;obtain⟨j,hj,e⟩:=uG.mp h;have:(j:Int)=(i:Int):=Hk e;have e':j=i:=by lia
  rw[←e'];exact hj
 ·intro h;exact uG.mpr ⟨i,h,rfl⟩
structure Ly(H:Hp)(d:Addr)(os:List Addr)(n:Nat)(T:Q3->Nat->Prop)(kvs:List (List Key×V))(qs:List Q3):Prop where
 own:d∈os
 at_:H d=some (.dT kvs)
 keys:kvs.map UG=qs.map kQ
 nd:qs.Nodup
 pq:∀q,q∈qs->PQ 700 q
 mem:∀q,q∈qs↔∃i,T q i
 len:kvs.length<=n
 inn:∀q,q∈qs->∃b kws ns,zw kvs (kQ q)=some (.ref b)/\b∈os/\H b=some (.dK kws)/\kws.map UG=jI ns/\kws.length<=n/\ns.Nodup/\∀i,i∈ns↔T q i
 inj:∀q q' b,zw kvs (kQ q)=some (.ref b)->zw kvs (kQ q')=some (.ref b)->q=q'
 live:∀b,b∈os->(∃x,H b=some (.dT x))∨∃x,H b=some (.dK x)
variable{n:Nat}{T:Q3->Nat->Prop}
theorem Ly.has{H:Hp}{d:Addr}{os:List Addr}{kvs:List (List Key×V)}{qs:List Q3}(L:Ly H d os n T kvs qs){q:Q3}:(zw kvs (kQ q)).isSome=true↔q∈qs:=by
 constructor
 ·intro h
  cases e:zw kvs (kQ q) with
  |none=>rw[e] at h;cases h
  |some v=>
   have m:=W4 e;have m':kQ q∈kvs.map UG:=m;rw[L.keys] at m';obtain⟨r,hr,er⟩:=uG.mp m';rw[←wS er];exact hr
 ·intro h;refine Vn ?_;rw[L.keys];exact uG.mpr ⟨q,h,rfl⟩
def Ly.keep{H H':Hp}{d:Addr}{os:List Addr}{kvs:List (List Key×V)}{qs:List Q3}(L:Ly H d os n T kvs qs)(g:∀b o,b∈os->H b=some o->H' b=some o):Ly H' d os n T kvs qs:=
 ⟨L.own,g _ _ L.own L.at_,L.keys,L.nd,L.pq,L.mem,L.len,λq hq=>by
  obtain⟨b,kws,ns,h1,h2,h3,h4⟩:=L.inn q hq;exact⟨b,kws,ns,h1,h2,g _ _ h2 h3,h4⟩,L.inj,λb hb=>(L.live b hb).imp (λ⟨x,h⟩=>⟨x,g _ _ hb h⟩) λ⟨x,h⟩=>⟨x,g _ _ hb h⟩⟩
def Ly.same{H H':Hp}{d:Addr}{os:List Addr}{kvs:List (List Key×V)}{qs:List Q3}(L:Ly H d os n T kvs qs)(g:zg H H'):Ly H' d os n T kvs qs:=L.keep λb o _ h=>g _ _ h
def Ly.to{H:Hp}{d:Addr}{os:List Addr}{T':Q3->Nat->Prop}{kvs:List (List Key×V)}{qs:List Q3}(L:Ly H d os n T kvs qs)(h:∀q i,T q i↔T' q i):Ly H d os n T' kvs qs:=by
 have:T=T':=funext λq=>funext λi=>propext (h q i);rw[←this];exact L
def Ly.le{H:Hp}{d:Addr}{os:List Addr}{kvs:List (List Key×V)}{qs:List Q3}(L:Ly H d os m T kvs qs)(h:m<=n):Ly H d os n T kvs qs:=
 ⟨L.own,L.at_,L.keys,L.nd,L.pq,L.mem,uK L.len h,λq hq=>by
  obtain⟨b,kws,ns,h1,h2,h3,h4,h5,h6⟩:=L.inn q hq;exact⟨b,kws,ns,h1,h2,h3,h4,uK h5 h,h6⟩,L.inj,L.live⟩
def Ly.not{H:Hp}{d:Addr}{os:List Addr}{kvs:List (List Key×V)}{qs:List Q3}(L:Ly H d os n T kvs qs){b:Addr}(h:H b=some o)(h1:∀x,o≠.dT x)(h2:∀x,o≠.dK x):b∉os:=λz=>by
 rcases L.live b z with⟨x,e⟩|⟨x,e⟩
 ·rw[h] at e;exact h1 x (uN e)
 ·rw[h] at e;exact h2 x (uN e)
def sp_note:Sp:=λvs H Q _=>∃(d p:Addr)(os:List Addr)(n:Nat)(T:Q3->Nat->Prop)(kvs:List (List Key×V))(qs:List Q3)(r:Q3)(i:Nat),vs=[.ref d,.ref p,.int i]/\Ly H d os n T kvs qs/\n<=17000/\QH H p r/\∀os' kvs' qs' H',(∀b o,H b=some o->b∉os->H' b=some o)->(∀b,b∈os'->b∈os∨H b=none)->Ly H' d os' (n+1) (λq j=>T q j∨(q=r/\j=i)) kvs' qs'->Q .non H'
variable{r:Q3}
theorem Ly.put{H:Hp}{d b:Addr}{os:List Addr}{kvs:List (List Key×V)}{qs:List Q3}{kws:List (Key×V)}{ns:List Nat}{i:Nat}(L:Ly H d os n T kvs qs)(hr:r∈qs)(e1:zw kvs (kQ r)=some (.ref b))(hb:H b=some (.dK kws)):
  Ly (upd H b (.dK (yj kws (AD (i:Int)) (.bl true)))) d os (n+1) (λq j=>T q j∨(q=r/\j=i)) kvs qs:=by
 obtain⟨b',kws',ns',f1,f2,f3,f4,f5,f6,f7⟩:=L.inn r hr;rw[e1] at f1
 cases f1;rw[hb] at f3
 cases f3;have nbd:d≠b:=λz=>by rw[←z,L.at_] at hb;cases hb
 refine⟨L.own,by rw[zh nbd];exact L.at_,L.keys,L.nd,L.pq,λq=>?_,DW L.len,λq hq=>?_,L.inj,λb' hb'=>?_⟩
 ·rw[L.mem]
  constructor
  ·rintro⟨j,hj⟩;exact⟨j,.inl hj⟩
  ·rintro⟨j,hj|⟨rfl,rfl⟩⟩
   ·exact⟨j,hj⟩
   ·exact(L.mem q).mp hr
 ·by_cases e:q=r
  ·subst e;refine⟨b,_,if i∈ns' then ns' else ns'++[i],e1,f2,upd_same,?_,?_,?_,λj=>?_⟩
   ·by_cases m:i∈ns'
    ·rw[if_pos m,zan _ (Vn (by rw[f4];exact Za.mpr m)),f4]
    ·have nv:zw kws (AD (i:Int))=none:=by
      cases ev:zw kws (AD (i:Int)) with
      |none=>rfl
      |some v=>
       have mm:(AD (i:Int):Key)∈kws.map UG:=W4 ev;rw[f4] at mm;exact absurd (Za.mp mm) m
     rw[if_neg m,qE _ nv,ug,f4];unfold jI;rw[ug];rfl
   ·exact uK (wZ _ _ _) (AY f5)
   ·split
    ·exact f6
    ·rename_i m
     exact WE f6 m
   ·by_cases m:i∈ns'
    ·rw[if_pos m,f7];refine⟨.inl,λh=>h.elim id λ⟨_,z⟩=>?_⟩;rw[z];exact(f7 i).mp m
    ·rw[if_neg m,pP,f7,pN]
     constructor
     ·rintro(h|h)
      ·exact .inl h
      ·exact .inr ⟨rfl,h⟩
     ·rintro(h|⟨_,h⟩)
      ·exact .inl h
      ·exact .inr h
  ·obtain⟨b2,kws2,ns2,j1,j2,j3,j4,j5,j6,j7⟩:=L.inn q hq;have nb:b2≠b:=λz=>by
    rw[z] at j1;exact e (L.inj _ _ _ j1 e1)
   refine⟨b2,kws2,ns2,j1,j2,by rw[zh nb];exact j3,j4,DW j5,j6,λj=>?_⟩
   rw[j7];exact⟨.inl,λh=>h.elim id λ⟨z,_⟩=>absurd z e⟩
 ·by_cases e:b'=b
  ·rw[e];exact .inr ⟨_,upd_same⟩
  ·rw[zh e];exact L.live b' hb'
def Ly.new{H:Hp}{d b:Addr}{os:List Addr}{kvs:List (List Key×V)}{qs:List Q3}(i:Nat)(L:Ly H d os n T kvs qs)(hr:zw kvs (kQ r)=none)(pr:PQ 700 r)(hb:H b=none):
  Ly (upd (upd (upd H b (.dK [])) d (.dT (yj kvs (kQ r) (.ref b)))) b (.dK (yj [] (AD (i:Int)) (.bl true)))) d (b::os) (n+1) (λq j=>T q j∨(q=r/\j=i)) (yj kvs (kQ r) (.ref b)) (qs++[r]):=by
 have nbd:d≠b:=λz=>by rw[←z,L.at_] at hb;cases hb
 have rq:r∉qs:=λz=>by
  have:=L.has.mpr z;rw[hr] at this
  cases this
 have nT:∀j,¬T r j:=λj hj=>rq ((L.mem r).mpr ⟨j,hj⟩);refine⟨pY _ L.own,by rw[zh nbd];exact upd_same,?_,WE L.nd rq,λq hq=>?_,λq=>?_,uK (wZ _ _ _) (AY L.len),λq hq=>?_,λq q' c h1 h2=>?_,λb' hb'=>?_⟩
 ·rw[qE _ hr,ug,ug,L.keys];rfl
 ·rcases pP.mp hq with h|h
  ·exact L.pq q h
  ·rw[pN.mp h];exact pr
 ·rw[pP,L.mem,pN]
  constructor
  ·rintro(⟨j,h⟩|h)
   ·exact⟨j,.inl h⟩
   ·exact⟨i,.inr ⟨h,rfl⟩⟩
  ·rintro⟨j,h|⟨h,_⟩⟩
   ·exact .inl ⟨j,h⟩
   ·exact .inr h
 ·by_cases e:q=r
  ·subst e;refine⟨b,_,[i],by rw[vh,if_pos rfl],pX,upd_same,?_,?_,Ui _ _,λj=>?_⟩
   ·rw[qE _ rfl];rfl
   ·exact uK (wZ _ _ _) (by simp)
   ·rw[pN];exact⟨λh=>.inr ⟨rfl,h⟩,λh=>h.elim (λh=>absurd h (nT j)) λh=>h.2⟩
  ·have hq':q∈qs:=(pP.mp hq).resolve_right λz=>e (pN.mp z);obtain⟨b2,kws2,ns2,j1,j2,j3,j4,j5,j6,j7⟩:=L.inn q hq';have nb:b2≠b:=λz=>by rw[z,hb] at j3;cases j3
   have nd2:b2≠d:=λz=>by rw[z,L.at_] at j3;cases j3
   refine⟨b2,kws2,ns2,by rw[vh,if_neg λz=>e (wS z)];exact j1,pY _ j2,by rw[zh nb,zh nd2,zh nb];exact j3,j4,DW j5,j6,λj=>?_⟩
   rw[j7];exact⟨.inl,λh=>h.elim id λ⟨z,_⟩=>absurd z e⟩
 ·rw[vh] at h1 h2;have old:∀q,¬kQ q=kQ r->zw kvs (kQ q)=some (.ref b)->False:=λq ne h=>by
   have hq:=L.has.mp (by rw[h];rfl)
   obtain⟨b2,_,_,j1,j2,j3,_⟩:=L.inn q hq;rw[h] at j1
   cases j1;rw[hb] at j3
   cases j3
  by_cases e1:kQ q=kQ r<;>by_cases e2:kQ q'=kQ r
  ·rw[wS e1,wS e2]
  ·rw[if_pos e1] at h1;rw[if_neg e2] at h2
   cases h1;exact(old q' e2 h2).elim
  ·rw[if_neg e1] at h1;rw[if_pos e2] at h2
   cases h2;exact(old q e1 h1).elim
  ·rw[if_neg e1] at h1;rw[if_neg e2] at h2;exact L.inj _ _ _ h1 h2
 ·by_cases e:b'=b
  ·rw[e];exact .inr ⟨_,upd_same⟩
  ·rw[zh e]
   by_cases e2:b'=d
   ·rw[e2];exact .inl ⟨_,upd_same⟩
   ·rw[zh e2,zh e];exact L.live b' ((pR.mp hb').resolve_left e)
theorem Xz(T:Txt K mg ad fd):zx P w K mg base CX0 1 (ad 17) (fd 17) ["lying","P","number"] sp_note:=by
 refine T.note.fn.ok sc_note (λvs H Q E h=>?_) (λcdv A outer s H vs Q E hr h=>?_)
 ·obtain⟨d,p,os,n,T,kvs,qs,r,i,rfl,_⟩:=h;rfl
 obtain⟨d,p,os,n,T',kvs,qs,r,i,rfl,L,hn,hp,k⟩:=h;refine⟨_,
  (pss2
   (zK (YF (Yv (yS hr) (pv 1) (pv 0))) (zq (jB (yS hr) (pv 0) (pv 1) Jj rfl)) zL)
   (jB (yS hr) (xK (yS hr) (pv 0) (pv 1) λ_ _=>rfl) (pv 2) xf rfl))
  ,?_⟩
 dsimp! [L2.start]
 simp! [qP,qv,xZ,Y0];refine⟨_,.t (k:=kQ r) L.at_ hp.1,ite2 (λc=>?_) λc=>?_⟩
 ·have nv:zw kvs (kQ r)=none:=by
   cases e:zw kvs (kQ r) with
   |none=>rfl
   |some u=>rw[e] at c;cases c
  intro b hb;have nbd:d≠b:=zN L.at_ hb;have nbp:p≠b:=zN hp.1 hb;refine⟨_,.t (k:=kQ r) (by rw[zh nbd];exact L.at_) (by rw[zh nbp];exact hp.1) (small10k (by have:=L.len;lia)),.ref b,?_,b,rfl,_,.k (k:=AD (i:Int)) (kvs:=[]) (by rw[zh nbd.symm];exact upd_same) (small10k (by simp)),k (b::os) _ _ _ (λb' o h n=>?_) (λb' h=>?_) (L.new i nv hp.2 hb)⟩
  ·have npd:p≠d:=λz=>by
    have h1:=hp.1;rw[z,L.at_] at h1
    cases h1
   have:=x5.t (k:=kQ r) (a:=d) (b:=p) (kvs:=yj kvs (kQ r) (V.ref b)) (H:=upd (upd H b (HO.dK [])) d (HO.dT (yj kvs (kQ r) (V.ref b)))) upd_same (by rw[zh npd,zh nbp];exact hp.1)
   rw[vh,if_pos rfl] at this;exact this
  ·have n1:b'≠b:=zN h hb;have n2:b'≠d:=λz=>n (by rw[z];exact L.own)
   rw[zh n1,zh n2,zh n1];exact h
  ·rcases pR.mp h with h|h
   ·rw[h];exact .inr hb
   ·exact .inl h
 ·have z:(zw kvs (kQ r)).isSome=true:=by
   cases e:(zw kvs (kQ r)).isSome with
   |true=>rfl
   |false=>exact absurd (by rw[e];rfl) c
  have hr':=L.has.mp z;obtain⟨b,kws,ns,f1,f2,f3,f4,f5,f6,f7⟩:=L.inn r hr';refine⟨.ref b,by rw[←f1];exact .t (k:=kQ r) L.at_ hp.1,b,rfl,_,.k (k:=AD (i:Int)) f3 (small10k (by lia)),k os kvs qs _ (λb' o h n=>?_) (λb' h=>.inl h) (L.put (ns:=ns) hr' f1 f3)⟩
  rw[zh (λz=>n (by rw[z];exact f2))]
  exact h
def Shr:MR->Q3->Prop
 |.none,_=>False
 |.spot q,p=>p=q
 |.part a b,p=>p=a∨p=b
def ze9:Sp:=λvs H Q _=>∃(v:V)(r:MR),vs=[v]/\MtV H v r/\(∀p,Shr r p->PQ 700 p)/\∀(t:Addr)(xs:List V)(ps:List Q3)(H':Hp),zg H H'->H' t=some (.tup xs)->xs.length<=2->LR QH H' xs ps->(∀p,p∈ps↔Shr r p)->Q (.ref t) H'
theorem zc7(T:Txt K mg ad fd):zx P w K mg base CX0 1 (ad 18) (fd 18) ["common"] ze9:=by
 refine T.shared_ends.fn.ok zcj (λvs H Q E h=>?_) (λcdv A outer s H vs Q E hr h=>?_)
 ·obtain⟨v,r,rfl,_⟩:=h;rfl
 obtain⟨v,r,rfl,hv,hq,k⟩:=h;refine⟨_,
  (pss3
   (zK (zF op_isN (pv 0) qg (nomark _)) (zq (zo (yc yV))) zL)
   (zK (zF yQ (zb zc (pv 0) za) jV (nomark _)) (zq (zo (yc (pa1 (zb zc (pv 0) za) zr)))) zL)
   (zo (zb zc (pv 0) za)))
  ,?_⟩
 dsimp! [L2.start]
 simp! []
 cases r with
 |none=>
  have ev:v=.non:=hv;subst ev;rw[decide_eq_true (rfl:V.non=V.non)];exact vC λt ht=>k t [] [] _ (ze ht _) upd_same (by simp) .nil (λp=>⟨λh=>(by cases h),λh=>h.elim⟩)
 |spot q=>
  obtain⟨x,y,rfl,h1,h2⟩:=hv;simp! [h1];refine⟨rfl,λt ht=>?_⟩;have g:=ze ht (HO.tup [V.ref y]);exact k t [.ref y] [q] _ g upd_same (by simp) (.one ⟨g _ _ h2,hq q rfl⟩) (λp=>pN)
 |part a b=>
  obtain⟨x,y,m,n,rfl,h1,h2,h3,h4⟩:=hv;simp! [h1];refine⟨rfl,?_⟩;rw[decide_eq_false (by decide:¬(V.str (uT "part")=V.str (uT "spot")))]
  refine yP (k y [.ref m,.ref n] [a,b] H (.refl _) h2 (by simp) ((LR.one (R:=QH) (a:=a) ⟨h3,hq a (.inl rfl)⟩).app (.one ⟨h4,hq b (.inr rfl)⟩)) λp=>?_)
  show p∈[a,b]↔p=a∨p=b
  simp
def vN{H H':Hp}{tb tc:Addr}{lp lp':Pos}{ql ql':Str}(h:zE H tb lp ql)(h':zE H tc lp' ql')(ne:tb≠tc)(g:ym tc H H'):zE H' tb lp ql:=by
 obtain⟨ps,h1,h2,h3⟩:=h;refine⟨ps,g _ _ ne h1,h2,h3.imp id λ⟨c,e,hc⟩=>⟨c,e,g _ _ (h'.ne hc λ_ z=>nomatch z) hc⟩⟩
noncomputable def mtI(ss:List (Q3×Q3))(x:Nat×Nat):MR:=mtF (ss.getD x.1 zQ).1 (ss.getD x.1 zQ).2 (ss.getD x.2 zQ).1 (ss.getD x.2 zQ).2
def wH(ss:List (Q3×Q3))(q:Q3)(i:Nat):Prop:=∃e,ss[i]?=some e/\(q=e.1∨q=e.2)
def LyT(ss:List (Q3×Q3))(ps:List (Nat×Nat))(q:Q3)(i:Nat):Prop:=wH ss q i∨∃x,x∈ps/\(i=x.1∨i=x.2)/\Shr (mtI ss x) q
theorem Vr{a b c d:Q3}(ha:PQ 130 a)(hb:PQ 130 b)(hc:PQ 130 c)(hd:PQ 130 d)(bab:bq a b=true)(bcd:bq c d=true){p:Q3}(h:Shr (mtF a b c d) p):PQ 700 p/\on3 a b p=true/\on3 c d p=true:=by
 obtain⟨b1,b2,b3⟩:=qF ha hb hc hd
 cases e:mtF a b c d with
 |none=>rw[e] at h;cases h
 |spot q=>
  rw[e] at h;have h':p=q:=h;subst h';obtain⟨_,p1,p2,p3,_⟩:=JA (m:=700) (by decide) ha hb hc hd bab bcd (zU b1 (by decide)) (zU b2 (by decide)) (zU b3 (by decide)) e
  exact⟨p1,p2,p3⟩
 |part u v=>
  rw[e] at h;have h':p=u∨p=v:=h;obtain⟨_,_,p1,p2,_,p3,p4,_⟩:=Xj ha hb hc hd bab bcd e;rcases h' with rfl|rfl
  ·exact⟨Pt.mono p1 (by decide),p3.1,p3.2⟩
  ·exact⟨Pt.mono p2 (by decide),p4.1,p4.2⟩
inductive VJ (tb:Addr) (lp:Pos) (ql:Str) (vs:List V) (H:Hp) (Q:VK) (E:XK):Prop
 |mk (l:Addr) (ys:List V) (ss:List (Q3×Q3)) (_:vs=[.ref l]) (_:H l=some (.lst ys)) (_:ys.length<=63) (_:LR (StE 130) H ys ss) (_:zE H tb lp ql) (_:∀(d:Addr)(os:List Addr)(kvs:List (List Key×V))(qs:List Q3)(ps:List (Nat×Nat))(g:Int)(H':Hp),ym tb H H'->zE H' tb lp ql->(∀b,b∈os->H b=none)->Ly H' d os 17000 (LyT ss ps) kvs qs->0<g->(∀p,p∈ss.flatMap (λs=>[s.1,s.2])->p.w<=g)->(∀e,e∈ps->e.1<ys.length/\e.2<ys.length)->(∀a b,a<ys.length->b<ys.length->a≠b->Nigh g (ss.getD a zQ) (ss.getD b zQ)->(a,b)∈ps∨(b,a)∈ps)->ps.length<=tri ys.length->Q (.ref d) H'):VJ tb lp ql vs H Q E
def qU{H:Hp}{ys:List V}{ss:List (Q3×Q3)}(h:LR (StE 130) H ys ss):LR S2H H ys ss:=⟨h.1,λj v z=>by
 obtain⟨p,e,e1,e2,c,d,h1,h2,h3,_⟩:=h.2 j v z;exact⟨p,e,e1,e2,c,d,h1,PtH.mono h2 (by decide),PtH.mono h3 (by decide)⟩⟩
structure LI(tb:Addr)(H H':Hp)(Dp t:Addr)(pv xs:List V)(ps:List (Nat×Nat))(rs:List Q3)(os:List Addr):Prop where
 st:ym tb H H'
 lt:zE H' tb wP qlN
 dp:H' Dp=some (.lst pv)
 pvs:LR PrH H' pv ps
 tt:H' t=some (.tup xs)
 rr:LR QH H' xs rs
 ow:∀b,b∈os->H b=none
variable{qs:List Q3}
def LI.note{tb:Addr}{H H8 H9:Hp}{Dp t d:Addr}{pv xs:List V}{ps:List (Nat×Nat)}{rs:List Q3}{os os':List Addr}{kvs:List (List Key×V)}(I:LI tb H H8 Dp t pv xs ps rs os)(L:Ly H8 d os n T kvs qs)(fr:∀b o,H8 b=some o->b∉os->H9 b=some o)(ow:∀b,b∈os'->b∈os∨H8 b=none)(ht:∀b,H8 b=none->H b=none):LI tb H H9 Dp t pv xs ps rs os':=by
 have ts:yF H8 H9:=λb ys h=>fr b _ h (L.not h (λ_ z=>nomatch z) λ_ z=>nomatch z);refine⟨λb o nb h=>fr b o (I.st b o nb h) λz=>?_,?_,fr _ _ I.dp (L.not I.dp (λ_ z=>nomatch z) λ_ z=>nomatch z),I.pvs.ts vD ts,ts _ _ I.tt,I.rr.ts wJ ts,λb hb=>?_⟩
 ·rw[I.ow b z] at h
  cases h
 ·obtain⟨tp,h1,h2,h3⟩:=I.lt;exact⟨tp,fr _ _ h1 (L.not h1 (λ_ z=>nomatch z) λ_ z=>nomatch z),h2,h3.imp id λ⟨c,e,hc⟩=>⟨c,e,fr _ _ hc (L.not hc (λ_ z=>nomatch z) λ_ z=>nomatch z)⟩⟩
 ·rcases ow b hb with z|z
  ·exact I.ow b z
  ·exact ht b z
theorem zd8(T:Txt K mg ad fd)(hK:K.In base)(hB:∀b,b∈([ad 45,ad 47,ad 49]:List Addr)->base.BuiltinsAt mg b):zx P w K mg base CX0 5 (ad 16) (fd 16) ["stretches"] (VJ (ad 49) wP qlN):=by
 refine T.lying_at.fn.ok w5 (λvs H Q E h=>?_) (λcdv A outer s H vs Q E hr h=>?_)
 ·obtain⟨l,ys,ss,rfl,_⟩:=h;rfl
 obtain⟨l,ys,ss,rfl,hl,hn,hs,lt,k⟩:=h;refine⟨_,
  (pss4
   (zu 1 w5.nd WY)
   (yo uO rfl (pi_enu rfl T.b_enumerate (pa1 (pv 0) zd)) (jd (n:=2) rfl (y8 (zB 2 w5.nd) (y8 (zB 3 w5.nd) vp))) (zq (yo uO rfl (YU (pv 3)) (zB 4 w5.nd) (zq (xk (zt (Xz T) T.note hr (pa3 (pv 1) zd (pv 4) zd (pv 2) zd)))))))
   (yo uO rfl (yk (zt (zcp T hK hB) T.near_pairs hr (pa1 (pv 0) zd))) (jd (n:=2) rfl (y8 (zB 5 w5.nd) (y8 (zB 6 w5.nd) vp))) (zq (yo uO rfl (YU (zt (zc7 T) T.shared_ends hr (pa1 (zt (ok_meet T) T.meet hr (pa2 (zb zR (pv 0) (pv 5)) zr (zb zR (pv 0) (pv 6)) zr)) zZ))) (zB 4 w5.nd) (pss2
   (xk (zt (Xz T) T.note hr (pa3 (pv 1) zd (pv 4) zd (pv 5) zd)))
   (xk (zt (Xz T) T.note hr (pa3 (pv 1) zd (pv 4) zd (pv 6) zd)))))))
   (zo (pv 1)))
  ,?_⟩
 dsimp! [L2.start]
 simp! [YM];intro d hd;have g1:=ze hd (HO.dT []);have hd1:upd H d (HO.dT []) d=some (.dT []):=upd_same;generalize upd H d (HO.dT [])=H1 at*;have L1:Ly H1 d [d] 0 (λq i=>i<0/\wH ss q i) [] []:=⟨pN.mpr rfl,hd1,rfl,.nil,λq hq=>(by cases hq),λq=>⟨λh=>(by cases h),λ⟨i,h,_⟩=>(by lia)⟩,pJ _,λq hq=>(by cases hq),λq q' b h=>(by cases h),λb hb=>(by rw[pN.mp hb];exact .inl ⟨_,hd1⟩)⟩
 refine yq ?_;simp! [iEnu];refine⟨⟨ys,g1 _ _ hl⟩,λK'=>?_⟩;refine zex (K:=K') (l:=l) (xs:=ys) (λi σ H'=>∃(os:List Addr)(kvs:List (List Key×V))(qs:List Q3)(o2 o3 o4 o5 o6:Option V),σ=[some (V.ref l),some (V.ref d),o2,o3,o4,o5,o6]/\zg H H'/\(∀b,b∈os->H b=none)/\Ly H' d os (2*i) (λq j=>j<i/\wH ss q j) kvs qs) ⟨[d],[],[],none,none,none,none,none,rfl,g1,λb hb=>(by rw[pN.mp hb];exact hd),L1⟩ (λi σ H' iv=>?_) ?_ ?_
 ·obtain⟨os,kvs,qs,o2,o3,o4,o5,o6,_,g,_⟩:=iv;exact g _ _ hl
 ·intro _ _;rintro i v Tn σ H2 hi ⟨os,kvs,qs,o2,o3,o4,o5,o6,rfl,g2,hos,L2'⟩ hTn;have hi':=(pD.mp hi).1;obtain⟨p,e,rfl,he,c,c2,h1,h2,h3,hb⟩:=hs.2 i v hi;have g3:=ze hTn (HO.tup [V.int (i:Int),V.ref p]);have t3:upd H2 Tn (HO.tup [V.int (i:Int),V.ref p]) Tn=some (HO.tup [V.int (i:Int),V.ref p]):=upd_same;generalize upd H2 Tn (HO.tup [V.int (i:Int),V.ref p])=H3 at*;simp! [t3];have g03:=g2.trans g3;have hp3:=g03 _ _ h1;refine yq ?_;simp! [jk];refine⟨⟨_,.of hp3⟩,?_⟩;refine Jk (K:=K) (a:=p) (xs:=[V.ref c,V.ref c2]) (λm σ H'=>∃(os:List Addr)(kvs:List (List Key×V))(qs:List Q3)(o4 o5 o6:Option V),σ=[some (V.ref l),some (V.ref d),some (V.int (i:Int)),some (V.ref p),o4,o5,o6]/\zg H H'/\H' p=some (.tup [.ref c,.ref c2])/\(∀b,b∈os->H b=none)/\Ly H' d os (2*i+m) (λq j=>(j<i/\wH ss q j)∨(j=i/\((1<=m/\q=e.1)∨(2<=m/\q=e.2)))) kvs qs)
   ⟨os,kvs,qs,o4,o5,o6,rfl,g03,hp3,hos,(L2'.same g3).to λq j=>⟨.inl,λh=>h.elim id λ⟨_,h⟩=>(by lia)⟩⟩ (λm σ H' _ iv=>?_) ?_ ?_
  ·obtain⟨_,_,_,_,_,_,_,_,h,_⟩:=iv;exact .of h
  ·intro _ _;rintro m v σ H4 hm ⟨os,kvs,qs,o4,o5,o6,rfl,g4,hp4,hos4,L4⟩;obtain⟨cc,r,rfl,hcc,hmr⟩:∃(cc:Addr)(r:Q3),v=.ref cc/\QH H4 cc r/\∀q,((1<=m/\q=e.1)∨(2<=m/\q=e.2)∨q=r)↔((1<=m+1/\q=e.1)∨(2<=m+1/\q=e.2)):=by
    match m,hm with
    |0,hm=>
     cases hm;exact⟨c,e.1,rfl,⟨g4 _ _ h2.1,Pt.mono h2.2 (by decide)⟩,λq=>⟨λh=>(by rcases h with h|h|h;lia;lia;exact .inl ⟨by lia,h⟩),λh=>(by rcases h with h|h;exact .inr (.inr h.2);lia)⟩⟩
    |1,hm=>
     cases hm;exact⟨c2,e.2,rfl,⟨g4 _ _ h3.1,Pt.mono h3.2 (by decide)⟩,λq=>⟨λh=>(by rcases h with h|h|h;exact .inl ⟨by lia,h.2⟩;lia;exact .inr ⟨by lia,h⟩),λh=>(by rcases h with h|h;exact .inl ⟨by lia,h.2⟩;exact .inr (.inr h.2))⟩⟩
    |(n+2),hm=>cases hm
   have hm2:m<2:=(pD.mp hm).1;simp! [];refine⟨d,cc,os,_,_,kvs,qs,r,i,rfl,L4,by lia,hcc,λos' kvs' qs' H5 fr ow L5=>?_⟩
   have g5:zg H H5:=λb o h=>fr b o (g4 _ _ h) λz=>by
    have:=hos4 b z;rw[this] at h
    cases h
   refine⟨g5,g5 _ _ h1,os',λb hb=>?_,kvs',qs',?_⟩
   ·rcases ow b hb with z|z
    ·exact hos4 b z
    ·exact g4.free z
   ·refine L5.to λq j=>?_;have:=hmr q
    constructor
    ·rintro((h|⟨h,h'⟩)|⟨h,h'⟩)
     ·exact .inl h
     ·exact .inr ⟨h,this.mp (h'.elim .inl λz=>.inr (.inl z))⟩
     ·exact .inr ⟨h',this.mp (.inr (.inr h))⟩
    ·rintro(h|⟨h,h'⟩)
     ·exact .inl (.inl h)
     ·rcases this.mpr h' with z|z|z
      ·exact .inl (.inr ⟨h,.inl z⟩)
      ·exact .inl (.inr ⟨h,.inr z⟩)
      ·exact .inr ⟨z,h⟩
  ·rintro σ H4 ⟨os,kvs,qs,o4,o5,o6,rfl,g4,hp4,hos4,L4⟩;simp! [];refine⟨g4,os,hos4,kvs,qs,?_⟩;have e2:2*(i+1)=2*i+[V.ref c,V.ref c2].length:=rfl;rw[e2];refine L4.to λq j=>?_
   constructor
   ·rintro(⟨h,h'⟩|⟨rfl,h|h⟩)
    ·exact⟨by lia,h'⟩
    ·exact⟨by lia,e,he,.inl h.2⟩
    ·exact⟨by lia,e,he,.inr h.2⟩
   ·rintro⟨h,h'⟩
    by_cases ji:j=i
    ·subst ji;obtain⟨e',he',h'⟩:=h';rw[he] at he'
     cases he';rcases h' with h'|h'
     ·exact .inr ⟨rfl,.inl ⟨by show 1<=2;lia,h'⟩⟩
     ·exact .inr ⟨rfl,.inr ⟨by show 2<=2;lia,h'⟩⟩
    ·exact .inl ⟨by lia,h'⟩
 ·rintro σ H2 ⟨os,kvs,qs,o2,o3,o4,o5,o6,rfl,g2,hos,L2'⟩;simp! [];have lss:ss.length=ys.length:=hs.1.symm;have L3:Ly H2 d os (2*ys.length) (wH ss) kvs qs:=L2'.to λq j=>⟨λh=>h.2,λh=>⟨by
   obtain⟨e,he,_⟩:=h;have:=(pD.mp he).1;lia,h⟩⟩
  refine yq ?_;simp! [yi];refine⟨l,ys,ss,rfl,g2 _ _ hl,hn,(qU hs).ts y6 (zI g2),lt.same g2,λDp pv ps g H3 hDp st3 lt3 hDp3 lpv hpv gp gm hps hnear=>?_⟩;have t63:=JX hn;have tbo:∀b,H b=none->b≠(ad 49):=λb hb z=>by
   obtain⟨tp,e,_⟩:=lt;rw[←z,hb] at e
   cases e
  have st03:ym (ad 49) H H3:=λb o nb h=>st3 b o nb (g2 _ _ h);have L4:=L3.keep (H':=H3) λb o hb h=>st3 b o (tbo b (hos b hb)) h;refine⟨Dp,rfl,⟨_,.of hDp3⟩,?_⟩;refine xC (K:=K) (a:=Dp) (xs:=pv) (λi σ H'=>∃(os:List Addr)(kvs:List (List Key×V))(qs:List Q3)(o2 o3 o4 o5 o6:Option V),σ=[some (V.ref l),some (V.ref d),o2,o3,o4,o5,o6]/\ym (ad 49) H H'/\zE H' (ad 49) wP qlN/\H' Dp=some (.lst pv)/\LR PrH H' pv ps/\(∀b,b∈os->H b=none)/\Ly H' d os (2*ys.length+4*i) (λq j=>wH ss q j∨∃x,x∈ps.take i/\(j=x.1∨j=x.2)/\Shr (mtI ss x) q) kvs qs)
   ⟨os,kvs,qs,o2,o3,o4,o5,o6,rfl,st03,lt3,hDp3,hpv,hos,L4.to λq j=>⟨.inl,λh=>h.elim id λ⟨x,hx,_⟩=>(by rw[ul] at hx;cases hx)⟩⟩ (λi σ H' _ iv=>?_) ?_ ?_
  ·obtain⟨_,_,_,_,_,_,_,_,_,_,_,h,_⟩:=iv;exact .of h
  ·intro _ _;rintro i v σ H5 hi ⟨os,kvs,qs,o2,o3,o4,o5,o6,rfl,st5,lt5,hDp5,hpv5,hos5,L5⟩;have hi':=(pD.mp hi).1;obtain⟨pp,x,rfl,hx,hpp⟩:=hpv5.2 i v hi;have hpp':H5 pp=some (.tup [.int (x.1:Int),.int (x.2:Int)]):=hpp;obtain⟨x1,x2⟩:=hps x (pS hx);have hl5:=st5.lst lt hl;have tup5:∀{b:Addr}{xs:List V},H b=some (.tup xs)->H5 b=some (.tup xs):=λh=>st5.tup lt h;obtain⟨s1,e1,i1,j1,c1,d1,k1,k2,k3,k4⟩:=hs.at x1;obtain⟨s2,e2,i2,j2,c2,d2,m1,m2,m3,m4⟩:=hs.at x2;have a1:atI ys (x.1:Int)=some (.ref s1):=yp i1;have a2:atI ys (x.2:Int)=some (.ref s2):=yp i2;have em:mtI ss x=mtF e1.1 e1.2 e2.1 e2.2:=by
    unfold mtI;rw[pE,pE,j1,j2];rfl
   simp! [hpp'];refine yq ?_;simp! [jk,hl5,a1,a2];refine⟨s1,s2,c1,d1,c2,d2,e1.1,e1.2,e2.1,e2.2,rfl,⟨tup5 k1,tup5 m1,⟨tup5 k2.1,k2.2⟩,⟨tup5 k3.1,k3.2⟩,⟨tup5 m2.1,m2.2⟩,⟨tup5 m3.1,m3.2⟩⟩,λv6 H6 g6 mv=>?_⟩;refine⟨v6,_,rfl,mv,λp hp=>(Vr k2.2 k3.2 m2.2 m3.2 k4 m4 hp).1,λt xs rs H7 g7 ht7 lx hr7 mr=>?_⟩;have g57:=g6.trans g7;have L7:=L5.same g57;refine⟨t,rfl,⟨_,.of ht7⟩,?_⟩;have I7:LI (ad 49) H H7 Dp t pv xs ps rs os:=⟨ym.same st5 g57,lt5.same g57,g57 _ _ hDp5,hpv5.ts vD (zI g57),ht7,hr7,hos5⟩;refine Jk (K:=K) (a:=t) (xs:=xs) (λm σ H'=>∃(os:List Addr)(kvs:List (List Key×V))(qs:List Q3)(o2 o3 o4:Option V),σ=[some (V.ref l),some (V.ref d),o2,o3,o4,some (V.int (x.1:Int)),some (V.int (x.2:Int))]/\LI (ad 49) H H' Dp t pv xs ps rs os/\Ly H' d os (2*ys.length+4*i+2*m) (λq j=>(wH ss q j∨∃x,x∈ps.take i/\(j=x.1∨j=x.2)/\Shr (mtI ss x) q)∨(q∈rs.take m/\(j=x.1∨j=x.2))) kvs qs)
    ⟨os,kvs,qs,o2,o3,o4,rfl,I7,L7.to λq j=>⟨.inl,λh=>h.elim id λh=>(by have:=h.1;rw[ul] at this;cases this)⟩⟩ (λm σ H' _ iv=>?_) ?_ ?_
   ·obtain⟨_,_,_,_,_,_,_,h,_⟩:=iv;exact .of h.tt
   ·intro _ _;rintro m v σ H8 hm ⟨os,kvs,qs,o2,o3,o4,rfl,I8,L8⟩;have hm':=(pD.mp hm).1;obtain⟨cc,r,rfl,hr,hcc⟩:=I8.rr.2 m v hm;simp! [];refine⟨d,cc,os,_,_,kvs,qs,r,x.1,rfl,L8,by lia,hcc,λos9 kvs9 qs9 H9 fr9 ow9 L9=>?_⟩
    have nn:∀{H':Hp},ym (ad 49) H H'->zE H' (ad 49) wP qlN->∀b,H' b=none->H b=none:=λ{H'} s' l' b hb=>by
     cases e:H b with
     |none=>rfl
     |some o=>
      by_cases nb:b=(ad 49)
      ·obtain⟨tp,e3,_⟩:=l';rw[←nb,hb] at e3
       cases e3
      ·rw[s' b o nb e] at hb
       cases hb
    have I9:=I8.note L8 fr9 ow9 (nn I8.st I8.lt);obtain⟨cc',r',ecc,hr',hcc'⟩:=I9.rr.2 m _ hm
    cases ecc;rw[hr] at hr'
    cases hr';simp! [];refine⟨d,cc,os9,_,_,kvs9,qs9,r,x.2,rfl,L9,by lia,hcc',λos10 kvs10 qs10 H10 fr10 ow10 L10=>?_⟩
    have I10:=I9.note L9 fr10 ow10 (nn I9.st I9.lt);refine⟨os10,I10,kvs10,qs10,?_⟩;rw[show 2*ys.length+4*i+2*(m+1)=2*ys.length+4*i+2*m+1+1 by lia]
    refine L10.to λq j=>?_;rw[uP,hr];show((_∨_)∨_)↔_∨(q∈rs.take m++[r]/\_);rw[pP,pN]
    constructor
    ·rintro((h|h)|h)
     ·rcases h with h|h
      ·exact .inl h
      ·exact .inr ⟨.inl h.1,h.2⟩
     ·exact .inr ⟨.inr h.1,.inl h.2⟩
     ·exact .inr ⟨.inr h.1,.inr h.2⟩
    ·rintro(h|⟨h|h,h'|h'⟩)
     ·exact .inl (.inl (.inl h))
     ·exact .inl (.inl (.inr ⟨h,.inl h'⟩))
     ·exact .inl (.inl (.inr ⟨h,.inr h'⟩))
     ·exact .inl (.inr ⟨h,h'⟩)
     ·exact .inr ⟨h,h'⟩
   ·rintro σ H8 ⟨os,kvs,qs,o2,o3,o4,rfl,I8,L8⟩;simp! [];refine⟨I8.st,I8.lt,I8.dp,I8.pvs,os,I8.ow,kvs,qs,(L8.le (by lia)).to λq j=>?_⟩
    rw[pz (Up hr7.1.symm),mr,uP,hx,←em]
    constructor
    ·rintro((h|⟨y,h1,h2⟩)|h)
     ·exact .inl h
     ·exact .inr ⟨y,uD _ h1,h2⟩
     ·exact .inr ⟨x,pI _ (by simp),h.2,h.1⟩
    ·rintro(h|⟨y,h1,h2,h3⟩)
     ·exact .inl (.inl h)
     ·rcases pP.mp h1 with h1|h1
      ·exact .inl (.inr ⟨y,h1,h2,h3⟩)
      ·have e':y=x:=by simpa using h1
       rw[e'] at h2 h3;exact .inr ⟨h3,h2⟩
  ·rintro σ H5 ⟨os,kvs,qs,o2,o3,o4,o5,o6,rfl,st5,lt5,hDp5,hpv5,hos5,L5⟩;simp! [];rw[pz (Up hpv5.1.symm)] at L5;exact k d os kvs qs ps g H5 st5 lt5 hos5 (L5.le (by lia)) gp gm hps hnear (by rw[←hpv5.1];exact lpv)
theorem V9(a b p q r:Q3):dt a b r*dX p q=dt p q r*dX a b+dt a b p*dX r q+dt a b q*dX p r:=by unfold dt dX det3 lnA lnB lnC;grind
theorem Zs(a b p q r:Q3):dt a b r*dY p q=dt p q r*dY a b+dt a b p*dY r q+dt a b q*dY p r:=by unfold dt dY det3 lnA lnB lnC;grind
theorem X4{p q:Q3}(h:bq p q=true):dX p q≠0∨dY p q≠0:=by
 have:=va.mp h;unfold Lt LP at this;simp only[Hu] at this;rcases this with h|⟨_,h⟩
 ·exact .inl (by lia)
 ·exact .inr (by lia)
def on_line{a b p q:Q3}(hpq:bq p q=true)(hp:dt a b p=0)(hq:dt a b q=0)(hr:dt p q r=0):dt a b r=0:=by
 have e1:=V9 a b p q r;have e2:=Zs a b p q r;rw[hp,hq,hr] at e1 e2;simp only[CA,Fx] at e1 e2;rcases X4 hpq with h|h
 ·exact(uU.mp e1).resolve_right h
 ·exact(uU.mp e2).resolve_right h
def Wg{a b p q:Q3}(ha:PQ n a)(hb:PQ n b)(hp:PQ n p)(hq:PQ n q)(hr:PQ n r)(hpq:bq p q=true)(op:on3 a b p=true)(oq:on3 a b q=true)(h0:dt p q r=0)(h1:bq r p=false)(h2:bq q r=false):on3 a b r=true:=by
 obtain⟨p1,p2,p3⟩:=zV op;obtain⟨q1,q2,q3⟩:=zV oq;exact x4 (on_line hpq p1 q1 h0) (qB ha.pos hp.pos hr.pos p2 h1) (qB hr.pos hq.pos hb.pos h2 q3)
theorem cr_same(a b:Q3):crW a b a b=0:=by unfold crW;grind
variable{d:Q3}
theorem cr_on{a b c q:Q3}(h1:dt a b q=0)(h2:dt c d q=0):q.x*crW a b c d=crX a b c d*q.w/\q.y*crW a b c d=crY a b c d*q.w:=by
 unfold dt det3 at h1 h2;unfold crX crY crW;generalize lnA a.x a.y a.w b.x b.y b.w=A at*;generalize lnB a.x a.y a.w b.x b.y b.w=B at*;generalize lnC a.x a.y a.w b.x b.y b.w=C at*;generalize lnA c.x c.y c.w d.x d.y d.w=A' at*;generalize lnB c.x c.y c.w d.x d.y d.w=B' at*;generalize lnC c.x c.y c.w d.x d.y d.w=C' at*
 constructor<;>grind
theorem ln_dir(a b:Q3):lnA a.x a.y a.w b.x b.y b.w= -dY a b/\lnB a.x a.y a.w b.x b.y b.w=dX a b:=by
 unfold lnA lnB dX dY
 constructor<;>grind
theorem par_tr{A B A1 B1 A2 B2:Int}(h:A≠0∨B≠0)(e1:A*B1-B*A1=0)(e2:A*B2-B*A2=0):A1*B2-B1*A2=0:=by
 have f1:A*(A1*B2-B1*A2)=0:=by grind
 have f2:B*(A1*B2-B1*A2)=0:=by grind
 rcases h with h|h
 ·exact(uU.mp f1).resolve_left h
 ·exact(uU.mp f2).resolve_left h
theorem ln_ne{a b:Q3}(h:bq a b=true):lnA a.x a.y a.w b.x b.y b.w≠0∨lnB a.x a.y a.w b.x b.y b.w≠0:=by
 obtain⟨e1,e2⟩:=ln_dir a b;rw[e1,e2];rcases X4 h with h|h
 ·exact .inr h
 ·exact .inl (by lia)
def cr_par{a b c e f:Q3}(h:bq a b=true)(h1:crW a b c d=0)(h2:crW a b e f=0):crW c d e f=0:=par_tr (ln_ne h) h1 h2
theorem ve{a b c q:Q3}(hq:0<q.w)(bcd:bq c d=true)(z:crW a b c d=0)(h1:dt a b q=0)(h2:dt c d q=0)(hr:dt c d r=0):dt a b r=0:=by
 have ln:=ln_ne bcd;unfold crW at z;unfold dt det3 at*;generalize lnA a.x a.y a.w b.x b.y b.w=A at*;generalize lnB a.x a.y a.w b.x b.y b.w=B at*;generalize lnC a.x a.y a.w b.x b.y b.w=C at*;generalize lnA c.x c.y c.w d.x d.y d.w=A' at*;generalize lnB c.x c.y c.w d.x d.y d.w=B' at*;generalize lnC c.x c.y c.w d.x d.y d.w=C' at*;have e:q.w*(A*r.x+B*r.y+C*r.w)=0:=by
  have f1:A'*(q.w*(A*r.x+B*r.y+C*r.w))=0:=by grind
  have f2:B'*(q.w*(A*r.x+B*r.y+C*r.w))=0:=by grind
  rcases ln with h|h
  ·exact(uU.mp f1).resolve_left h
  ·exact(uU.mp f2).resolve_left h
 exact(uU.mp e).resolve_left (by lia)
def jj(a b:Q3):dt a b a=0/\dt a b b=0:=⟨Ym a b,qI a b⟩
def Vk{a b:Q3}(h:bq a b=true):on3 a b a=true/\on3 a b b=true:=⟨x4 (Ym a b) (yl a) (yH h),x4 (qI a b) (yH h) (yl b)⟩
theorem VL{a b c q:Q3}(ha:PQ n a)(hb:PQ n b)(hc:PQ n c)(hd:PQ n d)(hq:PQ n q)(s0:dt a b c=0)(s1:dt a b d=0)(h1:on3 a b q=true)(h2:on3 c d q=true)(e:q=a∨q=b∨q=c∨q=d):Shr (mtF a b c d) q:=by
 obtain⟨_,i1,i2⟩:=zV h1;obtain⟨_,j1,j2⟩:=zV h2;unfold mtF;rw[s0,s1,if_pos ⟨vY,vY⟩];have F:fst3 a c=q∨(bq (fst3 a c) q=true/\bq q (fst3 a c)=false):=by
  unfold fst3
  split
  ·by_cases z:bq c q=true
   ·exact .inr ⟨z,j1⟩
   ·exact .inl (xz hc hq z (by rw[j1];decide))
  ·by_cases z:bq a q=true
   ·exact .inr ⟨z,i1⟩
   ·exact .inl (xz ha hq z (by rw[i1];decide))
 have S:snd3 b d=q∨(bq q (snd3 b d)=true/\bq (snd3 b d) q=false):=by
  unfold snd3
  split
  ·by_cases z:bq q b=true
   ·exact .inr ⟨z,i2⟩
   ·exact .inl (xz hb hq (by rw[i2];decide) z)
  ·by_cases z:bq q d=true
   ·exact .inr ⟨z,j2⟩
   ·exact .inl (xz hd hq (by rw[j2];decide) z)
 have E:fst3 a c=q∨snd3 b d=q:=by
  rcases e with rfl|rfl|rfl|rfl
  ·left;unfold fst3;rw[if_neg (by rw[j1];decide)]
  ·right;unfold snd3
   split
   ·rfl
   ·rename_i z
    exact xz hd hq (by rw[j2];decide) z
  ·left;unfold fst3
   split
   ·rfl
   ·rename_i z
    exact xz ha hq z (by rw[i1];decide)
  ·right;unfold snd3;rw[if_neg (by rw[i2];decide)]
 have nb:¬bq (snd3 b d) (fst3 a c)=true:=by
  rcases E with E|E
  ·rw[E];rcases S with S|S
   ·rw[S,yl];decide
   ·rw[S.2];decide
  ·rw[E];rcases F with F|F
   ·rw[F,yl];decide
   ·rw[F.2];decide
 unfold mtL;rw[if_neg nb]
 by_cases z:(fst3 a c).x=(snd3 b d).x/\(fst3 a c).y=(snd3 b d).y/\(fst3 a c).w=(snd3 b d).w
 ·rw[if_pos z];show q=fst3 a c;rcases E with E|E
  ·exact E.symm
  ·rw[←E];exact(Q3.ext' z).symm
 ·rw[if_neg z];rcases E with E|E
  ·exact .inl E.symm
  ·exact .inr E.symm
structure zM(ss:List (Q3×Q3))(ps:List (Nat×Nat))(g:Int):Prop where
 ok:∀s,s∈ss->PQ 130 s.1/\PQ 130 s.2/\bq s.1 s.2=true
 gp:∀s,s∈ss->s.1.w<=g/\s.2.w<=g
 lt:∀e,e∈ps->e.1<ss.length/\e.2<ss.length
 all:∀a b,a<ss.length->b<ss.length->a≠b->Nigh g (ss.getD a zQ) (ss.getD b zQ)->(a,b)∈ps∨(b,a)∈ps
variable{a:Q3}
section
variable{ss:List (Q3×Q3)}{ps:List (Nat×Nat)}{g:Int}
variable{i:Nat}
def yn(h:i<ss.length):ss.getD i zQ∈ss:=by
 rw[pE,pG h];exact AU h
def OnI(ss:List (Q3×Q3))(q:Q3)(i:Nat):Prop:=on3 (ss.getD i zQ).1 (ss.getD i zQ).2 q=true
variable{q:Q3}
def xL:wH ss q i↔i<ss.length/\(q=(ss.getD i zQ).1∨q=(ss.getD i zQ).2):=by
 constructor
 ·rintro⟨e,h,z⟩;have hi:=(pD.mp h).1;rw[pE,h];exact⟨hi,z⟩
 ·rintro⟨hi,z⟩;rw[pE,pG hi] at z;exact⟨ss[i],pG hi,z⟩
def zM.lies(T:zM ss ps g)(h:LyT ss ps q i):i<ss.length/\PQ 700 q/\OnI ss q i:=by
 rcases h with h|⟨x,hx,hi,hs⟩
 ·obtain⟨hi,z⟩:=xL.mp h;obtain⟨o1,o2,o3⟩:=T.ok _ (yn hi);refine⟨hi,?_⟩;unfold OnI;rcases z with z|z
  ·rw[z];exact⟨Pt.mono o1 (by decide),(Vk o3).1⟩
  ·rw[z];exact⟨Pt.mono o2 (by decide),(Vk o3).2⟩
 ·obtain⟨l1,l2⟩:=T.lt x hx;obtain⟨o1,o2,o3⟩:=T.ok _ (yn l1);obtain⟨r1,r2,r3⟩:=T.ok _ (yn l2);obtain⟨p1,p2,p3⟩:=Vr o1 o2 r1 r2 o3 r3 hs;rcases hi with rfl|rfl
  ·exact⟨l1,p1,p2⟩
  ·exact⟨l2,p1,p3⟩
def zM.pair(T:zM ss ps g)(hi:i<ss.length)(hj:j<ss.length)(ne:i≠j)(hq:0<q.w)(oi:OnI ss q i)(oj:OnI ss q j):(i,j)∈ps∨(j,i)∈ps:=by
 obtain⟨o1,o2,o3⟩:=T.ok _ (yn hi);obtain⟨r1,r2,r3⟩:=T.ok _ (yn hj);obtain⟨g1,g2⟩:=T.gp _ (yn hi);obtain⟨g3,g4⟩:=T.gp _ (yn hj);exact T.all i j hi hj ne (nigh_of o1 o2 r1 r2 g1 g2 g3 g4 hq oi oj)
def VQ(h:(i,j)∈ps∨(j,i)∈ps)(s1:Shr (mtI ss (i,j)) q)(s2:Shr (mtI ss (j,i)) q):LyT ss ps q i:=by
 rcases h with h|h
 ·exact .inr ⟨_,h,.inl rfl,s1⟩
 ·exact .inr ⟨_,h,.inr rfl,s2⟩
noncomputable def CrI(ss:List (Q3×Q3))(i j:Nat):Int:=crW (ss.getD i zQ).1 (ss.getD i zQ).2 (ss.getD j zQ).1 (ss.getD j zQ).2
theorem zM.cross(T:zM ss ps g)(hm:700<=m)(hi:i<ss.length)(hj:j<ss.length)(hq:PQ m q)(oi:OnI ss q i)(oj:OnI ss q j)(c:CrI ss i j≠0):LyT ss ps q i:=by
 have ne:i≠j:=λz=>by
  subst z;exact c (cr_same _ _)
 obtain⟨o1,o2,o3⟩:=T.ok _ (yn hi);obtain⟨r1,r2,r3⟩:=T.ok _ (yn hj);obtain⟨ex,ey⟩:=cr_on (zV oi).1 (zV oj).1;obtain⟨s1,s2,s3⟩:=VX (ss.getD i zQ).1 (ss.getD i zQ).2 (ss.getD j zQ).1 (ss.getD j zQ).2;obtain⟨b1,b2,b3⟩:=qF o1 o2 r1 r2;obtain⟨d1,d2,d3⟩:=qF r1 r2 o1 o2;have up:∀{z:Int},z.natAbs<2^(130+130+1+(130+130+1)+1)->z.natAbs<2^m:=λh=>zU h (by lia)
 refine VQ (T.pair hi hj ne hq.pos oi oj) ?_ ?_
 ·show Shr (mtF _ _ _ _) q
  rw[Jg (by lia) o1 o2 r1 r2 o3 r3 (up b1) (up b2) (up b3) c hq ex ey oi oj]
  rfl
 ·show Shr (mtF _ _ _ _) q
  rw[Jg (by lia) r1 r2 o1 o2 r3 o3 (up d1) (up d2) (up d3) (by rw[s3];unfold CrI at c;lia) hq (by rw[s1,s3,Hv,UQ,ex]) (by rw[s2,s3,Hv,UQ,ey]) oj oi]
  rfl
theorem zM.ends(T:zM ss ps g)(hi:i<ss.length)(h:wH ss q k)(oi:OnI ss q i):LyT ss ps q i:=by
 obtain⟨hk,z⟩:=xL.mp h;obtain⟨_,hq,ok⟩:=T.lies (.inl h:LyT ss ps q k)
 by_cases e:i=k
 ·subst e;exact .inl h
 by_cases c:CrI ss i k=0
 ·obtain⟨o1,o2,o3⟩:=T.ok _ (yn hi);obtain⟨r1,r2,r3⟩:=T.ok _ (yn hk);have up:∀{z:Q3},PQ 130 z->PQ 700 z:=λh=>Pt.mono h (by decide)
  have c':crW (ss.getD k zQ).1 (ss.getD k zQ).2 (ss.getD i zQ).1 (ss.getD i zQ).2=0:=by
   have:=(VX (ss.getD i zQ).1 (ss.getD i zQ).2 (ss.getD k zQ).1 (ss.getD k zQ).2).2.2;unfold CrI at c;lia
  have l1:=(zV oi).1;have l2:=(zV ok).1;have de:=jj (ss.getD k zQ).1 (ss.getD k zQ).2;have df:=jj (ss.getD i zQ).1 (ss.getD i zQ).2;refine VQ (T.pair hi hk e hq.pos oi ok) ?_ ?_
  ·exact VL (up o1) (up o2) (up r1) (up r2) hq (ve hq.pos r3 c l1 l2 de.1) (ve hq.pos r3 c l1 l2 de.2) oi ok (.inr (.inr z))
  ·exact VL (up r1) (up r2) (up o1) (up o2) hq (ve hq.pos o3 c' l2 l1 df.1) (ve hq.pos o3 c' l2 l1 df.2) ok oi (z.imp id .inl)
 ·exact T.cross (pJ _) hi hk hq oi ok c
theorem JP{b c:Q3}(ha:PQ 130 a)(hb:PQ 130 b)(hc:PQ 130 c)(hd:PQ 130 d)(bab:bq a b=true)(bcd:bq c d=true)(s0:dt a b c=0)(s1:dt a b d=0)(h:Shr (mtF a b c d) q):(q=a∨q=b)∨(q=c∨q=d):=by
 obtain⟨b1,b2,b3⟩:=qF ha hb hc hd
 cases e:mtF a b c d with
 |none=>rw[e] at h;cases h
 |spot p=>
  rw[e] at h;have h':q=p:=h;obtain⟨_,_,_,_,z⟩:=JA (m:=700) (by decide) ha hb hc hd bab bcd (zU b1 (by decide)) (zU b2 (by decide)) (zU b3 (by decide)) e
  rcases z ⟨by rw[s0,vY],by rw[s1,vY]⟩ with⟨z,_⟩|⟨z,_⟩
  ·exact .inl (.inr (h'.trans z))
  ·exact .inr (.inr (h'.trans z))
 |part u v=>
  rw[e] at h;have h':q=u∨q=v:=h;obtain⟨_,_,_,_,_,_,_,z1,z2⟩:=Xj ha hb hc hd bab bcd e;rcases h' with h'|h'
  ·rcases z1 with z|z
   ·exact .inl (.inl (h'.trans z))
   ·exact .inr (.inl (h'.trans z))
  ·rcases z2 with z|z
   ·exact .inl (.inr (h'.trans z))
   ·exact .inr (.inr (h'.trans z))
def zM.full(T:zM ss ps g)(hi:i<ss.length)(h:LyT ss ps q j)(oi:OnI ss q i):LyT ss ps q i:=by
 obtain⟨hj,hq,oj⟩:=T.lies h;rcases h with h|⟨x,hx,hxj,hs⟩
 ·exact T.ends hi h oi
 obtain⟨l1,l2⟩:=T.lt x hx;obtain⟨_,_,n1⟩:=T.lies (.inr ⟨x,hx,.inl rfl,hs⟩:LyT ss ps q x.1);obtain⟨_,_,n2⟩:=T.lies (.inr ⟨x,hx,.inr rfl,hs⟩:LyT ss ps q x.2);obtain⟨o1,o2,o3⟩:=T.ok _ (yn l1);obtain⟨r1,r2,r3⟩:=T.ok _ (yn l2);obtain⟨t1,t2,t3⟩:=T.ok _ (yn hi)
 by_cases c:CrI ss x.1 x.2=0
 ·have de:=jj (ss.getD x.2 zQ).1 (ss.getD x.2 zQ).2;rcases JP o1 o2 r1 r2 o3 r3 (ve hq.pos r3 c (zV n1).1 (zV n2).1 de.1) (ve hq.pos r3 c (zV n1).1 (zV n2).1 de.2) hs with z|z
  ·exact T.ends hi (xL.mpr ⟨l1,z⟩) oi
  ·exact T.ends hi (xL.mpr ⟨l2,z⟩) oi
 ·by_cases c1:CrI ss i x.1=0
  ·by_cases c2:CrI ss i x.2=0
   ·exact absurd (cr_par t3 c1 c2) c
   ·exact T.cross (pJ _) hi l2 hq oi n2 c2
  ·exact T.cross (pJ _) hi l1 hq oi n1 c1
def Pce(ss:List (Q3×Q3))(ps:List (Nat×Nat))(f:Q3×Q3):Prop:=∃i,LyT ss ps f.1 i/\LyT ss ps f.2 i/\bq f.1 f.2=true/\∀r,LyT ss ps r i->bq f.1 r=true->bq r f.2=true->False
end
noncomputable def qV:Pos:=(WU xE).2
noncomputable def qlB:Str:=(gu "in_order" (zp xE) 0 0 .none).qual++"<lambda>"
def OrdOf(os ps:List Q3):Prop:=os.Pairwise (Lt 1)/\(∀p,p∈os↔p∈ps)/\os.length<=ps.length
inductive VY (tb:Addr) (lp:Pos) (ql:Str) (vs:List V) (H:Hp) (Q:VK) (E:XK):Prop
 |mk (l:Addr) (ys:List V) (ps:List Q3) (_:vs=[.ref l]) (_:H l=some (.lst ys)) (_:ys.length<=2000000) (_:LR QH H ys ps) (_:zE H tb lp ql) (_:∀D zs(os:List Q3) H',H D=none->ym tb H H'->zE H' tb lp ql->H' D=some (.lst zs)->LR QH H' zs os->OrdOf os ps->Q (.ref D) H'):VY tb lp ql vs H Q E
theorem Z8(l:List α)(d:α):(Qd l.length).map (λi=>l.getD i d)=l:=by
 refine Aq λi=>?_;rw[pQ]
 by_cases c:i<l.length
 ·rw[Ci c,QQ,pE,pG c];rfl
 ·rw[UJ (by rw[QM];lia),UJ (by lia)]
  rfl
def Yn{l:List α}{d:α}{i:Nat}(h:i<l.length):l.getD i d∈l:=by
 rw[pE,pG h];exact AU h
def ZU{H:Hp}{ys:List V}{ps:List Q3}(h:LR QH H ys ps){p:Q3}(hp:p∈ps):PQ 700 p:=by
 obtain⟨j,hj⟩:=uY.mp hp;have hj':j<ys.length:=by rw[h.1];exact(pD.mp hj).1
 obtain⟨b,r,_,e2,hr⟩:=h.at hj';rw[hj] at e2
 cases e2;exact hr.2
theorem qy{g:Int}{b:Q3}(ha:PQ 700 a)(hb:PQ 700 b)(ga:a.w<=g)(gb:b.w<=g)(ne:a≠b):kyQ g a≠kyQ g b:=λe=>by
 cases h1:bq a b with
 |true=>
  have:=Yl ha.pos hb.pos ga gb h1;rw[e,sto2.irr] at this
  cases this
 |false=>
  cases h2:bq b a with
  |true=>
   have:=Yl hb.pos ha.pos gb ga h2;rw[e,sto2.irr] at this
   cases this
  |false=>exact ne (YE ha hb h1 h2)
theorem Xs{g:Int}{b:Q3}(ha:PQ 700 a)(hb:PQ 700 b)(ga:a.w<=g)(gb:b.w<=g)(h:lt2 (kyQ g a) (kyQ g b)=true):Lt 1 a b:=by
 cases h1:bq a b with
 |true=>exact va.mp h1
 |false=>
  cases h2:bq b a with
  |true=>
   have:=sto2.tr _ _ _ h (Yl hb.pos ha.pos gb ga h2);rw[sto2.irr] at this
   cases this
  |false=>
   rw[YE ha hb h1 h2,sto2.irr] at h
   cases h
theorem zdk(T:Txt K mg ad fd)(hK:K.In base)(hB:∀b,b∈([ad 45,ad 47,ad 49]:List Addr)->base.BuiltinsAt mg b):zx P w K mg base CX0 3 (ad 9) (fd 9) ["points"] (VY (ad 45) qV qlB):=by
 refine T.in_order_c.ok Zr (λvs H Q E h=>?_) (λA outer s H vs Q E hr h=>?_)
 ·obtain⟨l,ys,ps,rfl,_⟩:=h;rfl
 obtain⟨l,ys,ps,rfl,hl,h30,hp,lt,k⟩:=h;refine⟨_,
  (pss2
   (zu 1 Zr.nd (j8 (X9 T) (hr.mono (by lia)) rfl T.order_keys.mg T.order_keys.fn.kp T.order_keys.bn .nil pass0 (pa1 (pv 0) zd)))
   (zo (ZO (P:=ad 45) (c0:=ad 44) (x:="P") (y:="keys") (c:=s.heap.objs.size+1) (i0:=1) (Zt (hu80 hr)) zc1 hr rfl T.b_sorted (pa1 (vq (VG rfl) rfl T.b_list wy (pa1 (pv 1) zd)) zZ) ⟨rfl,rfl,rfl,rfl,rfl,by decide+kernel,by decide+kernel⟩ rfl rfl rfl rfl rfl rfl (Cj hK T.in_order_c.hd) (hB _ (by simp)) (λ_ _ _ _=>rfl) (by intro fa2 c2 A2 s3 H3 hu2;exact(xK (by show A2.units+3+1<cLine;lia) (pv 1) (pv 0) λ_ _=>rfl)))))
  ,?_⟩
 dsimp! [L2.start]
 simp! [];refine⟨l,ys,ps,rfl,hl,by lia,hp,λd kvs g qs H2 g2 hd2 gp gm ky q1 q2 q3 q4=>?_⟩
 simp! [YV,Wr];refine⟨kvs,hd2,λbs L lb hb hL=>?_⟩;have lk:kvs.length=qs.length:=by have:=congrArg AZ q1;simpa using this
 have hb2:LR QH H2 (bs.map V.ref) qs:=by
  refine⟨by rw[pL,lb,lk],λj v hv=>?_⟩
  rw[pQ] at hv
  cases eb:bs[j]? with
  |none=>rw[eb] at hv;cases hv
  |some b=>
   rw[eb] at hv
   cases hv;have hj:j<kvs.length:=by rw[←lb];exact(pD.mp eb).1
   have hj':j<qs.length:=by lia
   have ekv:=pG hj;have e:=congrArg (λl=>l[j]?) q1;simp only[pQ,ekv,pG hj',QQ,UL] at e;have z:=hb j b _ eb ekv;rw[e,JS] at z;exact⟨b,qs[j],rfl,pG hj',z,ZU hp ((q3 _).mp (AU hj'))⟩
 have g3:=ze hL (HO.lst (bs.map V.ref));have hL3:upd H2 L (HO.lst (bs.map V.ref)) L=some (HO.lst (bs.map V.ref)):=upd_same;generalize upd H2 L (HO.lst (bs.map V.ref))=H3 at*;have lys:ps.length=ys.length:=hp.1.symm;have lbs:(bs.map V.ref).length=qs.length:=by rw[pL,lb,lk]
 have g23:=g2.trans g3;refine⟨by rw[lbs];exact uq (small10k (by lia)),lt.same g23,λc' H4 st4 lt4 hc4=>?_⟩
 have hd4:H4 d=some (.dT kvs):=st4 _ _ ((lt.same g23).ne (g3 _ _ hd2) λ_ z=>nomatch z) (g3 _ _ hd2);have ts4:yF H3 H4:=λb xs q=>st4.tup (lt.same g23) q;have ky4:=(ky.ts (zI g3)).ts ts4;have hb4:LR QH H4 (bs.map V.ref) qs:=(hb2.same g3).ts wJ ts4;have z0:Q3:=⟨0,0,0⟩;refine⟨λi ks H'=>zg H4 H'/\ks.length=i/\∀j,j<i->∃b,ks[j]?=some (.ref b)/\H' b=some (.tup [.int (kyQ g (qs.getD j z0)).1,.int (kyQ g (qs.getD j z0)).2]),⟨⟨.refl _,rfl,λj hj=>by lia⟩,λi ks H' q=>q.1 _ _ hc4,λi ks H' q=>q.2.1,λi ks H5 v hv q=>?_,λks H5 q=>?_⟩⟩
 ·obtain⟨g5,lk5,q⟩:=q;obtain⟨p,f,rfl,hf,hpf⟩:=hb4.2 i v hv;have hpf5:=hpf.same g5;have hd5:=g5 _ _ hd4;obtain⟨b1,e1,h1⟩:=ky4 f ((q3 f).mp (pS hf));simp! [xZ];refine⟨_,by rw[←e1];exact .t (k:=kQ f) hd5 hpf5.1,g5,by rw[pM,lk5];rfl,λj hj=>?_⟩
  by_cases e:j<i
  ·obtain⟨b,hb1,hb2⟩:=q j e;exact⟨b,by rw[Qf (by lia)];exact hb1,hb2⟩
  ·have ej:j=i:=by lia
   subst ej;have e4:qs.getD j z0=f:=by rw[pE,hf];rfl
   rw[e4];exact⟨b1,by rw[Qb (by lia),lk5,Hi];rfl,g5 _ _ h1⟩
 ·obtain⟨g5,lk5,q⟩:=q;refine⟨_,⟨λi=>kyQ g (qs.getD i z0),λi hi=>q i (by lia),rfl⟩,λD pp hD or ep=>?_⟩
  rw[lbs] at or;simp only[VB] at ep;have gw:∀f,f∈qs->f.w<=g:=λf hf=>gm f ((q3 f).mp hf);have pqs:∀f,f∈qs->PQ 700 f:=λf hf=>ZU hp ((q3 f).mp hf);have pm:(pp.map λi=>qs.getD i z0).Perm qs:=by
   have:=or.map λi=>qs.getD i z0
   rwa [Z8] at this
  have g6:=ze hD (HO.lst (pp.map λi=>(bs.map V.ref).getD i .non));refine k D _ (pp.map λi=>qs.getD i z0) _ (g23.free (?_:H3 D=none)) (λb o nb e=>g6 _ _ (g5 _ _ (st4 _ _ nb (g23 _ _ e)))) ((lt4.same g5).same g6) upd_same ?_ ⟨?_,λp=>?_,?_⟩
  ·have h3:=g5.free hD
   cases e:H3 D with
   |none=>rfl
   |some o=>
    by_cases nb:D=(ad 45)
    ·obtain⟨tp,e3,_⟩:=lt4;rw[←nb,h3] at e3
     cases e3
    ·rw[st4 _ _ nb e] at h3
     cases h3
  ·have hb6:LR QH (upd H5 D (HO.lst (pp.map λi=>(bs.map V.ref).getD i .non))) (bs.map V.ref) qs:=hb4.same (g5.trans g6);refine⟨by rw[pL,pL],λj v hv=>?_⟩
   rw[pQ] at hv
   cases e:pp[j]? with
   |none=>rw[e] at hv;cases hv
   |some i=>
    rw[e] at hv;have ev:(bs.map V.ref).getD i .non=v:=by simpa using hv
    have hi:i<qs.length:=Qr.mp (or.mem_iff.mp (pS e));obtain⟨b1,f,e1,e2,e3⟩:=hb6.at (j:=i) (by lia)
    rw[pE,e1] at ev;refine⟨b1,f,ev.symm,?_,e3⟩;rw[pQ,e,QQ,pE,e2];rfl
  ·have pn:pp.Pairwise (·≠·):=or.nodup_iff.mpr GP;refine gM.mpr (AM (λ{i j} hi hj h=>?_) (pn.and ep));have bi:=Qr.mp (or.mem_iff.mp hi);have bj:=Qr.mp (or.mem_iff.mp hj);have mi:qs.getD i z0∈qs:=Yn bi;have mj:qs.getD j z0∈qs:=Yn bj;have ne:qs.getD i z0≠qs.getD j z0:=λe=>by
    rw[pE,pG bi,pE,pG bj] at e;rcases Nat.lt_or_gt_of_ne h.1 with z|z
    ·exact Qx.mp q2 i j bi bj z e
    ·exact Qx.mp q2 j i bj bi z e.symm
   refine Xs (pqs _ mi) (pqs _ mj) (gw _ mi) (gw _ mj) ?_;rcases sto2.tot _ _ (qy (pqs _ mi) (pqs _ mj) (gw _ mi) (gw _ mj) ne) with q|q
   ·exact q
   ·rw[h.2] at q;cases q
  ·rw[pm.mem_iff,q3]
  ·rw[pm.length_eq];exact q4
def zeg(K:pF):Sp:=λvs H Q _=>∃(p nl sl:Addr)(ys:List V)(ss:List (Q3×Q3))(ns:List Nat)(r:Q3),vs=[.ref p,.ref nl,.ref sl]/\QH H p r/\H nl=some (.lst (zj ns))/\H sl=some (.lst ys)/\LR (StE 130) H ys ss/\(∀k,k∈ns->k<ys.length)/\ns.length<=17001/\∀(t b1 b2 b3:Addr)(H':Hp),H t=none->zg H H'->H' t=some (.tup [.ref p,.ref b1,.ref b2,.ref b3])->H b1=none->H b2=none->H b3=none->b1≠b2->b1≠b3->b2≠b3->H' b1=some (.lst (zj (ns.filter λk=>decide ((ss.getD k zQ).1=r))))->H' b2=some (.lst (zj (ns.filter λk=>decide ((ss.getD k zQ).1≠r/\(ss.getD k zQ).2≠r))))->H' b3=some (.lst (zj (ns.filter λk=>decide ((ss.getD k zQ).2=r))))->Q (.ref t) H'
def Xx(a b:Q3):decide (a=b)=decide (a.x=b.x/\a.y=b.y/\a.w=b.w):=by
 by_cases h:a=b
 ·rw[decide_eq_true h,decide_eq_true (by rw[h];exact⟨rfl,rfl,rfl⟩)]
 ·rw[decide_eq_false h,decide_eq_false λz=>h (Q3.ext' z)]
def rd_pair{K:pF}{H:Hp}{p a b:Addr}{d e:Da}(hp:H p=some (.tup [.ref a,.ref b]))(ha:RdD K H d (.ref a))(hb:RdD K H e (.ref b)):RdD K H (.tuple [d,e]) (.ref p):=by
 rw[RdD];refine⟨p,_,rfl,.of hp,?_⟩;rw[ya];refine⟨_,_,rfl,ha,?_⟩;rw[ya];refine⟨_,_,rfl,hb,?_⟩;rw[ya]
theorem zcl(T:Txt K mg ad fd):zx P w K mg base CX0 1 (ad 15) (fd 15) ["P","numbers","stretches"] (zeg K):=by
 refine T.stop_at.fn.ok Yf (λvs H Q E h=>?_) (λcdv A outer s H vs Q E hr h=>?_)
 ·obtain⟨p,nl,sl,ys,ss,ns,r,rfl,_⟩:=h;rfl
 obtain⟨p,nl,sl,ys,ss,ns,r,rfl,hp,hnl,hsl,hs,hns,hlen,k⟩:=h;refine⟨_,
  (pss4
   (wA 3 Yf ["number"] [0,2] (yk (pv 1)) (λcl C fp s2 H2 xe=>⟨(zB 0 (show UK (["number","P","stretches"]:List Str) from by decide+kernel)),(wO (zF (Jl (K':=K) rfl (hu64 hr)) (zb zc (zb zR (pv 2) (pv 0)) za) (pv 1) (nomark _))),(pv 0)⟩))
   (wA 4 Yf ["number"] [0,2] (yk (pv 1)) (λcl C fp s2 H2 xe=>⟨(zB 0 (show UK (["number","P","stretches"]:List Str) from by decide+kernel)),(wO (zF (zds (K':=K) rfl (hu64 hr)) (pv 1) (zb zR (pv 2) (pv 0)) rfl)),(pv 0)⟩))
   (wA 5 Yf ["number"] [0,2] (yk (pv 1)) (λcl C fp s2 H2 xe=>⟨(zB 0 (show UK (["number","P","stretches"]:List Str) from by decide+kernel)),(wO (zF (Jl (K':=K) rfl (hu64 hr)) (zb zc (zb zR (pv 2) (pv 0)) za) (pv 1) (nomark _))),(pv 0)⟩))
   (zo (yc (pa4 (pv 0) zd (pv 3) zd (pv 4) zd (pv 5) zd))))
  ,?_⟩
 dsimp! [L2.start]
 simp! [];refine yT ?_;simp! [yi];refine⟨⟨_,.of hnl⟩,λB1 hB1=>?_⟩;refine xp (xs:=zj ns) (λi us H'=>zg H H'/\H' B1=some (.lst us)/\us=zj ((ns.take i).filter λk=>decide ((ss.getD k zQ).1=r))) ⟨ze hB1 _,upd_same,rfl⟩ (λi us H' q=>.of (q.1 _ _ hnl)) ?_ ?_
 ·rintro i us H2 v hi hv ⟨g2,hB2,eu⟩;obtain⟨m,m1,rfl⟩:=wX hv;have hm:=hns m (pS m1);obtain⟨b,e,e1,e2,c,c2,h1,h2,h3,hb⟩:=hs.at hm;have ai:atI ys (m:Int)=some (.ref b):=yp e1;have hsl2:=g2 _ _ hsl;have h12:=g2 _ _ h1;simp! [hsl2,ai,h12];refine⟨_,_,xU (.of (g2 _ _ h2.1)),xU (.of (g2 _ _ hp.1)),wN _ _ _,wN _ _ _,_,rfl,?_⟩;rw[qw];refine jx hi m1 (by lia) g2 hB1 hB2 eu ?_
  show decide ((ss.getD m zQ).1=r)=_
  rw[pE,e2];exact Xx e.1 r
 rintro us1 H2 ⟨g2,hB2,eu1⟩;rw[yL,Qu] at eu1;have hnl2:=g2 _ _ hnl;refine yT ?_;simp! [yi];refine⟨⟨_,.of hnl2⟩,λB2 hB2'=>?_⟩;refine xp (xs:=zj ns) (λi us H'=>zg H2 H'/\H' B2=some (.lst us)/\us=zj ((ns.take i).filter λk=>decide ((ss.getD k zQ).1≠r/\(ss.getD k zQ).2≠r))) ⟨ze hB2' _,upd_same,rfl⟩ (λi us H' q=>.of (q.1 _ _ hnl2)) ?_ ?_
 ·rintro i us H3 v hi hv ⟨g3,hB3,eu⟩;obtain⟨m,m1,rfl⟩:=wX hv;have hm:=hns m (pS m1);obtain⟨b,e,e1,e2,c,c2,h1,h2,h3,hb⟩:=hs.at hm;have ai:atI ys (m:Int)=some (.ref b):=yp e1;have g03:=g2.trans g3;have hsl3:=g03 _ _ hsl;have h13:=g03 _ _ h1;simp! [hsl3,ai];refine⟨_,[_,_],xU (.of (g03 _ _ hp.1)),rd_pair (g03 _ _ h1) (xU (.of (g03 _ _ h2.1))) (xU (.of (g03 _ _ h3.1))),?_,?_,?_,_,rfl,?_⟩
  ·simp[dPt,Qs,uX]
  ·simp[dPt,Qs,uX]
  ·simp[dPt,Qp,uz]
  ·refine jx hi m1 (by lia) g3 hB2' hB3 eu ?_
   show decide ((ss.getD m zQ).1≠r/\(ss.getD m zQ).2≠r)=_
   rw[pE,e2];simp only[Dc,List.any_nil,qw,HQ,←Xx];show decide (e.1≠r/\e.2≠r)=_
   by_cases h1:e.1=r<;>by_cases h2:e.2=r<;>simp[h1,h2]
 rintro us2 H3 ⟨g3,hB3,eu2⟩;rw[yL,Qu] at eu2;have g03:=g2.trans g3;have hnl3:=g03 _ _ hnl;refine yT ?_;simp! [yi];refine⟨⟨_,.of hnl3⟩,λB3 hB3'=>?_⟩;refine xp (xs:=zj ns) (λi us H'=>zg H3 H'/\H' B3=some (.lst us)/\us=zj ((ns.take i).filter λk=>decide ((ss.getD k zQ).2=r))) ⟨ze hB3' _,upd_same,rfl⟩ (λi us H' q=>.of (q.1 _ _ hnl3)) ?_ ?_
 ·rintro i us H4 v hi hv ⟨g4,hB4,eu⟩;obtain⟨m,m1,rfl⟩:=wX hv;have hm:=hns m (pS m1);obtain⟨b,e,e1,e2,c,c2,h1,h2,h3,hb⟩:=hs.at hm;have ai:atI ys (m:Int)=some (.ref b):=yp e1;have g04:=g03.trans g4;have hsl4:=g04 _ _ hsl;have h14:=g04 _ _ h1;simp! [hsl4,ai,h14];refine⟨_,_,xU (.of (g04 _ _ h3.1)),xU (.of (g04 _ _ hp.1)),wN _ _ _,wN _ _ _,_,rfl,?_⟩;rw[qw];refine jx hi m1 (by lia) g4 hB3' hB4 eu ?_
  show decide ((ss.getD m zQ).2=r)=_
  rw[pE,e2];exact Xx e.2 r
 rintro us3 H4 ⟨g4,hB4,eu3⟩;rw[yL,Qu] at eu3;have g04:=g03.trans g4;subst eu1 eu2 eu3;intro t ht;have g5:=ze ht (HO.tup [V.ref p,V.ref B1,V.ref B2,V.ref B3]);exact k t B1 B2 B3 _ (g04.free ht) (g04.trans g5) upd_same hB1 (g2.free hB2') (g03.free hB3') (zN hB2 hB2') (zN (g3 _ _ hB2) hB3') (zN hB3 hB3') (((g3.trans g4).trans g5) _ _ hB2) ((g4.trans g5) _ _ hB3) (g5 _ _ hB4)
theorem We:∀{n:Nat}{l:List Nat},l.Nodup->(∀x,x∈l->x<n)->l.length<=n
 |0,[],_,_=>pJ _
 |0,x::l,_,h=>absurd (h x pX) (Gg _)
 |n+1,l,nd,h=>by
  have:=We (n:=n) (l:=l.erase n) (nd.erase n) λx hx=>by
   have h1:=h x (List.mem_of_mem_erase hx);have h2:x≠n:=λz=>by
    rw[z] at hx;exact(List.Nodup.not_mem_erase nd) hx
   lia
  rw[List.length_erase] at this
  split at this<;>lia
theorem Vp:∀{l L:List Q3},l.Nodup->(∀x,x∈l->x∈L)->l.length<=L.length
 |[],_,_,_=>uJ _
 |a::l,L,nd,h=>by
  have nd':=Ub.mp nd;have ha:=h a pX;have:=Vp (l:=l) (L:=L.erase a) nd'.2 λx hx=>(List.mem_erase_of_ne (λz=>nd'.1 (by rw[←z];exact hx))).mpr (h x (pY _ hx))
  rw[List.length_erase_of_mem ha] at this;have hp:0<L.length:=List.length_pos_of_mem ha;show l.length+1<=L.length;lia
noncomputable def stL(ss:List (Q3×Q3))(ps:List (Nat×Nat)):List Q3:=ss.map (·.1)++(ss.map (·.2)++ps.map λx=>match mtI ss x with|.spot q=>q|_=>zQ.1)
theorem zM.inL{ss:List (Q3×Q3)}{ps:List (Nat×Nat)}{g:Int}(T:zM ss ps g){q:Q3}{i:Nat}(hi:LyT ss ps q i):q∈stL ss ps:=by
 have en:∀{k:Nat},k<ss.length->(q=(ss.getD k zQ).1∨q=(ss.getD k zQ).2)->q∈stL ss ps:=λ{k} hk z=>by
  rcases z with z|z
  ·exact uD _ (uG.mpr ⟨_,yn hk,z.symm⟩)
  ·exact pI _ (uD _ (uG.mpr ⟨_,yn hk,z.symm⟩))
 rcases hi with hi|⟨x,hx,_,hs⟩
 ·obtain⟨hk,z⟩:=xL.mp hi;exact en hk z
 ·obtain⟨l1,l2⟩:=T.lt x hx;obtain⟨o1,o2,o3⟩:=T.ok _ (yn l1);obtain⟨r1,r2,r3⟩:=T.ok _ (yn l2)
  cases e:mtI ss x with
  |none=>rw[e] at hs;cases hs
  |spot p=>
   rw[e] at hs;have hs':q=p:=hs;refine pI _ (pI _ (uG.mpr ⟨x,hx,?_⟩));rw[e];exact hs'.symm
  |part u v=>
   rw[e] at hs;have hs':q=u∨q=v:=hs;obtain⟨_,_,_,_,_,_,_,z1,z2⟩:=Xj o1 o2 r1 r2 o3 r3 e;rcases hs' with z|z
   ·rcases z1 with y|y
    ·exact en l1 (.inl (z.trans y))
    ·exact en l2 (.inl (z.trans y))
   ·rcases z2 with y|y
    ·exact en l1 (.inr (z.trans y))
    ·exact en l2 (.inr (z.trans y))
theorem zM.few{ss:List (Q3×Q3)}{ps:List (Nat×Nat)}{g:Int}(T:zM ss ps g)(nd:qs.Nodup)(h:∀q,q∈qs->∃i,LyT ss ps q i):qs.length<=2*ss.length+ps.length:=by
 have:=Vp (L:=stL ss ps) nd λq hq=>let⟨_,hi⟩:=h q hq;T.inL hi;unfold stL at this;simp only[pM,pL] at this;lia
def ste_ok{H:Hp}{ys:List V}{ss:List (Q3×Q3)}(h:LR (StE 130) H ys ss):∀s,s∈ss->PQ 130 s.1/\PQ 130 s.2/\bq s.1 s.2=true:=λs hs=>by
 obtain⟨j,hj⟩:=uY.mp hs;obtain⟨p,e,_,e2,c,d,_,h2,h3,h4⟩:=h.at (j:=j) (by rw[h.1];exact(pD.mp hj).1)
 rw[hj] at e2
 cases e2;exact⟨h2.2,h3.2,h4⟩
theorem Z9:∀{a b:List Nat},a.Pairwise (·<·)->b.Pairwise (·<·)->(∀x,x∈a↔x∈b)->a=b
 |[],[],_,_,_=>rfl
 |[],y::b,_,_,h=>absurd ((h y).mpr pX) (by simp)
 |x::a,[],_,_,h=>absurd ((h x).mp pX) (by simp)
 |x::a,y::b,ha,hb,h=>by
  obtain⟨a1,a2⟩:=UP.mp ha;obtain⟨b1,b2⟩:=UP.mp hb;have e:x=y:=by
   rcases pR.mp ((h x).mp pX) with z|z
   ·exact z
   ·rcases pR.mp ((h y).mpr pX) with z'|z'
    ·exact z'.symm
    ·have:=a1 y z';have:=b1 x z;lia
  subst e;rw[Z9 a2 b2 λz=>?_]
  constructor
  ·intro hz;rcases pR.mp ((h z).mp (pY _ hz)) with q|q
   ·have:=a1 z hz;lia
   ·exact q
  ·intro hz;rcases pR.mp ((h z).mpr (pY _ hz)) with q|q
   ·have:=b1 z hz;lia
   ·exact q
noncomputable def onF(ss:List (Q3×Q3))(q:Q3):List Nat:=(Qd ss.length).filter λk=>on3 (ss.getD k zQ).1 (ss.getD k zQ).2 q
def qY(ss:List (Q3×Q3))(q:Q3):(onF ss q).Pairwise (·<·):=Ev _ List.pairwise_lt_range
def wt{ss:List (Q3×Q3)}{q:Q3}:k∈onF ss q↔k<ss.length/\OnI ss q k:=by
 unfold onF OnI;rw[uW,List.mem_range]
noncomputable def bgF(ss:List (Q3×Q3))(q:Q3):List Nat:=(onF ss q).filter λk=>decide ((ss.getD k zQ).1=q)
noncomputable def thF(ss:List (Q3×Q3))(q:Q3):List Nat:=(onF ss q).filter λk=>decide ((ss.getD k zQ).1≠q/\(ss.getD k zQ).2≠q)
noncomputable def enF(ss:List (Q3×Q3))(q:Q3):List Nat:=(onF ss q).filter λk=>decide ((ss.getD k zQ).2=q)
abbrev R4:=Q3×Addr×Addr×Addr
noncomputable def fl(xs:List R4):List Addr:=xs.flatMap λx=>[x.2.1,x.2.2.1,x.2.2.2]
def Xr(xs:List R4)(x:R4):fl (xs++[x])=fl xs++[x.2.1,x.2.2.1,x.2.2.2]:=by simp[fl]
def SpY(ss:List (Q3×Q3))(H:Hp)(p:Addr)(x:R4):Prop:=∃a,H p=some (.tup [.ref a,.ref x.2.1,.ref x.2.2.1,.ref x.2.2.2])/\QH H a x.1/\H x.2.1=some (.lst (zj (bgF ss x.1)))/\H x.2.2.1=some (.lst (zj (thF ss x.1)))/\H x.2.2.2=some (.lst (zj (enF ss x.1)))
def spy_at{ss:List (Q3×Q3)}{H H':Hp}{p:Addr}{x:R4}(h:SpY ss H p x)(g:yF H H')(g':∀b,b∈[x.2.1,x.2.2.1,x.2.2.2]->∀us,H b=some (.lst us)->H' b=some (.lst us)):SpY ss H' p x:=by
 obtain⟨a,h1,h2,h3,h4,h5⟩:=h;exact⟨a,g _ _ h1,wJ _ _ _ _ g h2,g' _ (by simp) _ h3,g' _ (by simp) _ h4,g' _ (by simp) _ h5⟩
def VH{ss:List (Q3×Q3)}{H H':Hp}{ys:List V}{xs:List R4}(h:LR (SpY ss) H ys xs)(g:yF H H')(g':∀b,b∈fl xs->∀us,H b=some (.lst us)->H' b=some (.lst us)):LR (SpY ss) H' ys xs:=⟨h.1,λj v z=>by
 obtain⟨p,x,e,f,s⟩:=h.2 j v z;exact⟨p,x,e,f,spy_at s g λb hb=>g' b (Ax.mpr ⟨x,pS f,hb⟩)⟩⟩
def Vj(tb tc:Addr)(H H':Hp):Prop:=∀b o,b≠tb->b≠tc->H b=some o->H' b=some o
inductive W7 (tb:Addr) (lp:Pos) (ql:Str) (tc:Addr) (lp':Pos) (ql':Str) (vs:List V) (H:Hp) (Q:VK) (E:XK):Prop
 |mk (l:Addr) (ys:List V) (ss:List (Q3×Q3)) (_:vs=[.ref l]) (_:H l=some (.lst ys)) (_:ys.length<=63) (_:LR (StE 130) H ys ss) (_:zE H tb lp ql) (_:zE H tc lp' ql') (_:∀(D:Addr)(zs:List V)(xs:List R4)(ps:List (Nat×Nat))(g:Int)(H':Hp),Vj tb tc H H'->zE H' tb lp ql->zE H' tc lp' ql'->H' D=some (.lst zs)->zs.length<=17000->LR (SpY ss) H' zs xs->zM ss ps g->ps.length<=tri ys.length->(xs.map (·.1)).Pairwise (Lt 1)->(∀q,q∈xs.map (·.1)↔∃i,LyT ss ps q i)->(fl xs).Nodup->(∀b,b∈fl xs->H b=none/\b≠D)->H D=none->Q (.ref D) H'):W7 tb lp ql tc lp' ql' vs H Q E
theorem Zp(T:Txt K mg ad fd)(hK:K.In base)(hB:∀b,b∈([ad 45,ad 47,ad 49]:List Addr)->base.BuiltinsAt mg b):zx P w K mg base CX0 6 (ad 14) (fd 14) ["stretches"] (W7 (ad 45) qV qlB (ad 49) wP qlN):=by
 refine T.stops.fn.ok YI (λvs H Q E h=>?_) (λcdv A outer s H vs Q E hr h=>?_)
 ·obtain⟨l,ys,ss,rfl,_⟩:=h;rfl
 obtain⟨l,ys,ss,rfl,hl,hn,hs,ltB,ltN,k⟩:=h;refine⟨_,
  (pss2
   (zu 1 YI.nd (zt (zd8 T hK hB) T.lying_at hr (pa1 (pv 0) zd)))
   (zo (wM YI ["P"] [0,1] (yk (zt (zdk T hK hB) T.in_order hr (pa1 (vq (VG rfl) rfl T.b_list wy (pa1 (pv 1) zd)) zZ))) (λcl C fp s2 H2 xe=>⟨(zB 0 (show UK (["P","stretches","lying"]:List Str) from by decide+kernel)),x8,(zt (zcl T) T.stop_at hr (pa3 (pv 0) zd (ye (VS (hu100 hr)) rfl T.b_sorted YH (pa1 (vq (zfc rfl) rfl T.b_list wy (pa1 (xK (yS hr) (pv 2) (pv 0) λ_ _=>rfl) zr)) zZ)) zZ (pv 1) zd))⟩))))
  ,?_⟩
 dsimp! [L2.start]
 simp! [];refine⟨l,ys,ss,rfl,hl,by lia,hs,ltN,λd os kvs qs ps g H1 st1 lt1 hos L1 gp gm hps hnear lps=>?_⟩
 have TT:zM ss ps g:=⟨ste_ok hs,λs h=>⟨gm _ (Ax.mpr ⟨s,h,pX⟩),gm _ (Ax.mpr ⟨s,h,pY _ pX⟩)⟩,by rw[←hs.1];exact hps,by rw[←hs.1];exact hnear⟩
 have lss:=hs.1;have ltB1:=vN ltB ltN T.tne02 st1;refine yT ?_;simp! [yi,Wr];refine⟨kvs,L1.at_,λbs La lb hb hLa=>?_⟩;have lk:kvs.length=qs.length:=by have:=congrArg AZ L1.keys;simpa using this
 have hb1:LR QH H1 (bs.map V.ref) qs:=by
  refine⟨by rw[pL,lb,lk],λj v hv=>?_⟩
  rw[pQ] at hv
  cases eb:bs[j]? with
  |none=>rw[eb] at hv;cases hv
  |some b=>
   rw[eb] at hv
   cases hv;have hj:j<kvs.length:=by rw[←lb];exact(pD.mp eb).1
   have hj':j<qs.length:=by lia
   have ekv:=pG hj;have e:=congrArg (λl=>l[j]?) L1.keys;simp only[pQ,ekv,pG hj',QQ,UL] at e;have z:=hb j b _ eb ekv;rw[e,JS] at z;exact⟨b,qs[j],rfl,pG hj',z,L1.pq _ (AU hj')⟩
 have g2:=ze hLa (HO.lst (bs.map V.ref));have hLa2:upd H1 La (HO.lst (bs.map V.ref)) La=some (HO.lst (bs.map V.ref)):=upd_same;generalize upd H1 La (HO.lst (bs.map V.ref))=H2 at*;refine⟨La,_,qs,rfl,hLa2,by rw[pL,lb];have:=L1.len;lia,hb1.same g2,ltB1.same g2,λD1 zs rs H3 hD1 st3 lt3 hD3 hz ho=>?_⟩
 obtain⟨ho1,hrs,hrl⟩:=ho;have ltB2:=ltB1.same g2;have ltN3:=vN (lt1.same g2) ltB2 T.tne02.symm st3;have L3:Ly H3 d os 17000 (LyT ss ps) kvs qs:=(L1.same g2).keep λb o hb h=>st3 b o (λz=>by
  rcases(L1.same g2).live b hb with⟨x,e⟩|⟨x,e⟩
  ·exact ltB2.ne e (λ_ z=>nomatch z) z
  ·exact ltB2.ne e (λ_ z=>nomatch z) z) h
 have hl1:=st1.lst ltN hl;have hl3:H3 l=some (.lst ys):=st3.lst ltB2 (g2 _ _ hl1);have hs3:LR (StE 130) H3 ys ss:=hs.ts yb λb xs h=>st3.tup ltB2 (g2 _ _ (st1.tup ltN h));have sTT:Vj (ad 45) (ad 49) H H3:=λb o n1 n2 h=>st3 b o n1 (g2 _ _ (st1 b o n2 h));have hfr:∀{b:Addr},H3 b=none->H b=none:=λ{b} h=>by
  cases e:H b with
  |none=>rfl
  |some o=>
   have n1:b≠(ad 45):=λz=>by
    obtain⟨tp,e3,_⟩:=lt3;rw[←z,h] at e3
    cases e3
   have n2:b≠(ad 49):=λz=>by
    obtain⟨tp,e3,_⟩:=ltN3;rw[←z,h] at e3
    cases e3
   rw[sTT b o n1 n2 e] at h
   cases h
 refine⟨D1,rfl,⟨_,.of hD3⟩,λD hD=>?_⟩;have lz:zs.length<=17000:=by
  have h1:=hz.1;have:=L1.len;lia
 refine xp (xs:=zs) (λi us H'=>zg H3 H'/\H' D=some (.lst us)/\us.length=i/\∃xs:List R4,xs.map (·.1)=rs.take i/\LR (SpY ss) H' us xs/\(fl xs).Nodup/\∀b,b∈fl xs->H3 b=none/\b≠D/\∃o,H' b=some o) ⟨ze hD _,upd_same,rfl,[],by rw[ul];rfl,.nil,At,λb hb=>by cases hb⟩ (λi us H' q=>.of (q.1 _ _ hD3)) ?_ ?_
 ·rintro i us H4 v hi hv ⟨g4,hD4,lu,xs,ex,hu,ndx,hfx⟩;obtain⟨b,r,rfl,hr',hbr⟩:=hz.2 i v hv;have hrq:=(hrs r).mp (pS hr');have L4:=L3.same g4;obtain⟨ib,kws,ns,f1,f2,f3,f4,f5,f6,f7⟩:=L4.inn r hrq;have hbr4:=hbr.same g4;simp! [xZ,ZN,XD];have ek:(kws.map λkv=>kV kv.1)=zj ns:=by
   have:(kws.map λkv=>kV kv.1)=(kws.map UG).map kV:=by rw[UD];rfl
   rw[this,f4];unfold jI zj;rw[UD];rfl
  have hin:∀i,i∈ns->i<ys.length:=λi hi=>by
   rw[lss];exact(TT.lies ((f7 i).mp hi)).1
  have ln:=We f6 hin;refine⟨.ref ib,by rw[←f1];exact .t (k:=kQ r) L4.at_ hbr4.1,ib,rfl,kws,f3,λl1 hl1'=>?_⟩
  rw[ek];refine⟨ns.map λi:Nat=>(i:Int),by unfold zj;rw[UD];rfl,by rw[pL];lia,λD2 ms hD2 pm up=>?_⟩
  have em:ms.map V.int=zj (onF ss r):=by
   have e1:ms.map V.int=zj (ms.map CL):=by
    unfold zj;rw[UD];refine BC λz hz=>?_;obtain⟨i,_,e⟩:=uG.mp (pm.mem_iff.mp hz);show V.int z=V.int ((z.toNat:Nat):Int);rw[←e];rfl
   have nn:∀z,z∈ms->0<=z:=λz hz=>by
    obtain⟨i,_,e⟩:=uG.mp (pm.mem_iff.mp hz);rw[←e];lia
   have ndm:ms.Pairwise (·≠·):=pm.nodup_iff.mpr (gM.mpr (f6.imp λh z=>h (by lia)))
   rw[e1,Z9 (a:=ms.map CL) (b:=onF ss r) (gM.mpr (AM (λ{a b} ha hb h=>by have:=nn a ha;have:=nn b hb;lia) (ndm.and up))) (qY ss r) λx=>?_]
   rw[wt]
   constructor
   ·intro hx;obtain⟨z,hz,rfl⟩:=uG.mp hx;obtain⟨i,hi,e⟩:=uG.mp (pm.mem_iff.mp hz);rw[←e];exact⟨(TT.lies ((f7 i).mp hi)).1,(TT.lies ((f7 i).mp hi)).2.2⟩
   ·rintro⟨h1,h2⟩;obtain⟨j,hj⟩:=(L1.mem r).mp hrq;exact uG.mpr ⟨(x:Int),pm.mem_iff.mpr (uG.mpr ⟨x,(f7 x).mpr (TT.full h1 hj h2),rfl⟩),rfl⟩
  have lo:(onF ss r).length<=63:=by
   have:=congrArg AZ em;rw[pL,yL,pm.length_eq,pL] at this;lia
  have g5:=ze hl1' (HO.lst (zj ns));generalize upd H4 l1 (HO.lst (zj ns))=H5 at*;have g6:=ze hD2 (HO.lst (ms.map V.int));have hD6:upd H5 D2 (HO.lst (ms.map V.int)) D2=some (HO.lst (ms.map V.int)):=upd_same;generalize upd H5 D2 (HO.lst (ms.map V.int))=H6 at*;have g46:=g5.trans g6;have hD6':=g46 _ _ hD4;refine⟨ys,ss,onF ss r,r,hbr4.same g46,em,(g4.trans g46) _ _ hl3,hs3.ts yb (zI (g4.trans g46)),λk hk=>by rw[lss];exact(wt.mp hk).1,by lia,λt b1 b2 b3 H7 ht g7 ht7 n1 n2 n3 n12 n13 n23 e1 e2 e3=>?_⟩
  have hD7:=g7 _ _ hD6';have nd:∀{b:Addr},H6 b=none->b≠D:=λh z=>by rw[z,hD6'] at h;cases h
  have no:∀{b:Addr},H6 b=none->b∉fl xs:=λ{b} h z=>by
   obtain⟨_,_,o,ho⟩:=hfx b z;rw[g46 _ _ ho] at h
   cases h
  have n3':∀{b:Addr},H6 b=none->H3 b=none:=λh=>(g4.trans g46).free h;refine cw_put hi hD7 (small10k (by lia)) ⟨yt (g4.trans (g46.trans g7)) hD,upd_same,by rw[pM,lu];rfl,xs++[(r,b1,b2,b3)],?_,?_,?_,λb hb=>?_⟩
  ·rw[ug,ex,uP,hr'];rfl
  ·have sx:SpY ss H7 t (r,b1,b2,b3):=⟨b,ht7,(hbr4.same g46).same g7,e1,e2,e3⟩;have h7:LR (SpY ss) H7 (us++[.ref t]) (xs++[(r,b1,b2,b3)]):=(VH hu (zI (g46.trans g7)) λb _ us h=>(g46.trans g7) _ _ h).snoc sx;refine VH h7 (xX hD7) λb hb us h=>?_;rw[Xr] at hb;have:b≠D:=by
    rcases pP.mp hb with hb|hb
    ·exact(hfx b hb).2.1
    ·simp only[pR,QJ,or_false] at hb;rcases hb with rfl|rfl|rfl
     ·exact nd n1
     ·exact nd n2
     ·exact nd n3
   rw[zh this];exact h
  ·rw[Xr,gL];refine⟨ndx,by simp[n12,n13,n23],λx hx y hy z=>?_⟩
   subst z;simp only[pR,QJ,or_false] at hy;rcases hy with rfl|rfl|rfl
   ·exact no n1 hx
   ·exact no n2 hx
   ·exact no n3 hx
  ·rw[Xr] at hb;have live:∀{b:Addr}{o:HO},H7 b=some o->∃o,upd H7 D (HO.lst (us++[V.ref t])) b=some o:=λ{b o} h=>by
    by_cases z:b=D
    ·rw[z];exact⟨_,upd_same⟩
    ·exact⟨o,by rw[zh z];exact h⟩
   rcases pP.mp hb with hb|hb
   ·obtain⟨x1,x2,o,x3⟩:=hfx b hb;exact⟨x1,x2,live ((g46.trans g7) _ _ x3)⟩
   ·simp only[pR,QJ,or_false] at hb;rcases hb with rfl|rfl|rfl
    ·exact⟨n3' n1,nd n1,live e1⟩
    ·exact⟨n3' n2,nd n2,live e2⟩
    ·exact⟨n3' n3,nd n3,live e3⟩
 ·rintro us H4 ⟨g4,hD4,lu,xs,ex,hu,ndx,hfx⟩;rw[pz (Up hz.1.symm)] at ex;exact k D us xs ps g H4 (λb o n1 n2 h=>g4 _ _ (sTT b o n1 n2 h)) (lt3.same g4) (ltN3.same g4) hD4 (by lia) hu TT lps (by rw[ex];exact ho1) (λq=>by rw[ex,hrs q,L1.mem q]) ndx (λb hb=>⟨hfr (hfx b hb).1,(hfx b hb).2.1⟩) (hfr hD)
noncomputable def jC:Pos:=(WU xv).2
noncomputable def qlP:Str:=(gu "by_points" (zp xv) 0 0 .none).qual++"<lambda>"
noncomputable def kyL(g:Int)(f:Q3×Q3):List (Int×Int):=[kyQ g f.1,kyQ g f.2]
noncomputable def wj(fs:List (Q3×Q3)):List Q3:=fs.flatMap λf=>[f.1,f.2]
def Xe{fs:List (Q3×Q3)}{p:Q3}:p∈wj fs↔∃f,f∈fs/\(p=f.1∨p=f.2):=by
 unfold wj
 simp[List.mem_flatMap]
def zf8(fs:List (Q3×Q3))(f:Q3×Q3):wj (fs++[f])=wj fs++[f.1,f.2]:=by simp[wj]
theorem VM(fs:List (Q3×Q3)):(wj fs).length=2*fs.length:=by
 induction fs with
 |nil=>rfl
 |cons f fs ih=>unfold wj at*;rw[List.flatMap_cons,pM,ih];simp;lia
def LtF(f f':Q3×Q3):Prop:=bq f.1 f'.1=true∨(f.1=f'.1/\bq f.2 f'.2=true)
variable{f':Q3×Q3}
def ky_ltF{g:Int}{f:Q3×Q3}(h:∀x,x=f.1∨x=f.2∨x=f'.1∨x=f'.2->PQ 700 x/\x.w<=g)(l:ltL (kyL g f) (kyL g f')=true):LtF f f':=by
 have h1:=h f.1 (.inl rfl);have h2:=h f.2 (.inr (.inl rfl));have h3:=h f'.1 (.inr (.inr (.inl rfl)));have h4:=h f'.2 (.inr (.inr (.inr rfl)));unfold kyL at l;rw[jc,jc] at l
 by_cases e:kyQ g f.1=kyQ g f'.1
 ·rw[if_pos e] at l;have e1:f.1=f'.1:=Uu λn=>qy h1.1 h3.1 h1.2 h3.2 n e
  by_cases e2:kyQ g f.2=kyQ g f'.2
  ·rw[if_pos e2] at l;rw[ltL] at l
   cases l
  ·rw[if_neg e2] at l;exact .inr ⟨e1,va.mpr (Xs h2.1 h4.1 h2.2 h4.2 l)⟩
 ·rw[if_neg e] at l;exact .inl (va.mpr (Xs h1.1 h3.1 h1.2 h3.2 l))
def zas{g:Int}{f:Q3×Q3}(h:∀x,x=f.1∨x=f.2∨x=f'.1∨x=f'.2->PQ 700 x/\x.w<=g)(ne:f≠f'):kyL g f≠kyL g f':=λz=>by
 have h1:=h f.1 (.inl rfl);have h2:=h f.2 (.inr (.inl rfl));have h3:=h f'.1 (.inr (.inr (.inl rfl)));have h4:=h f'.2 (.inr (.inr (.inr rfl)));unfold kyL at z
 injection z with z1 z2
 injection z2 with z2 _
 exact ne (Br (Uu λn=>qy h1.1 h3.1 h1.2 h3.2 n z1) (Uu λn=>qy h2.1 h4.1 h2.2 h4.2 n z2))
inductive Jw (tb:Addr) (lp:Pos) (ql:Str) (vs:List V) (H:Hp) (Q:VK) (E:XK):Prop
 |mk (l:Addr) (ys:List V) (fs:List (Q3×Q3)) (_:vs=[.ref l]) (_:H l=some (.lst ys)) (_:ys.length<=900000) (_:LR S2H H ys fs) (_:zE H tb lp ql) (_:∀D zs fs' H',H D=none->ym tb H H'->zE H' tb lp ql->H' D=some (.lst zs)->LR S2H H' zs fs'->fs'.Perm fs->(fs.Nodup->fs'.Pairwise LtF)->Q (.ref D) H'):Jw tb lp ql vs H Q E
theorem zdm(T:Txt K mg ad fd)(hK:K.In base)(hB:∀b,b∈([ad 45,ad 47,ad 49]:List Addr)->base.BuiltinsAt mg b):zx P w K mg base CX0 3 (ad 10) (fd 10) ["things"] (Jw (ad 47) jC qlP):=by
 refine T.by_points_c.ok qX (λvs H Q E h=>?_) (λA outer s H vs Q E hr h=>?_)
 ·obtain⟨l,ys,fs,rfl,_⟩:=h;rfl
 obtain⟨l,ys,fs,rfl,hl,h64,hp,lt,k⟩:=h;refine⟨_,
  (pss4
   (zu 1 qX.nd (xq yV))
   (yo uO rfl (yk (pv 0)) (zB 2 qX.nd) (zq (xk (xO uh AL BM Vs (pv 1) (pa1 (pv 2) zd)))))
   (zu 3 qX.nd (j8 (X9 T) (hr.mono (by lia)) rfl T.order_keys.mg T.order_keys.fn.kp T.order_keys.bn .nil pass0 (pa1 (pv 1) zd)))
   (zo (ZO (P:=ad 47) (c0:=ad 46) (x:="thing") (y:="keys") (c:=s.heap.objs.size+1) (i0:=3) (zdf (hu80 hr)) zcs hr rfl T.b_sorted (pa1 (pv 0) zd) ⟨rfl,rfl,rfl,rfl,rfl,by decide+kernel,by decide+kernel⟩ rfl rfl rfl rfl rfl rfl (Cj hK T.by_points_c.hd) (hB _ (by simp)) (λ_ _ _ _=>rfl) (by intro fa2 c2 A2 s3 H3 hu2;exact(ZI (dsc:=(WU xv).1) (N:=["thing","keys"]) (own:=["P"]) (ix:=[1]) rfl rfl rfl ⟨rfl,by decide+kernel,by decide+kernel,by decide+kernel,by decide+kernel⟩ (pi_tupK (K':=K) rfl (pv 0)) (λcl C fp s2 H2 xe=>⟨(zB 0 (show UK (["P","keys"]:List Str) from by decide+kernel)),x8,(xK (by show A2.units+3+1<cLine;lia) (pv 1) (pv 0) λ_ _=>rfl)⟩))))))
  ,?_⟩
 dsimp! [L2.start]
 simp! [];intro D0 hD0;have g0:=ze hD0 (HO.lst []);refine yq ?_;simp! [yi];refine⟨⟨_,.of (g0 _ _ hl)⟩,?_⟩;have lenF:fs.length=ys.length:=hp.1.symm;refine xC (K:=K) (a:=l) (xs:=ys) (λi σ H'=>zg H H'/\∃(zs:List V)(o:Option V),σ=[some (.ref l),some (.ref D0),o,none]/\H' D0=some (.lst zs)/\LR QH H' zs (wj (fs.take i))) ⟨g0,[],none,rfl,upd_same,by rw[ul];exact .nil⟩ (λi σ H' _ iv=>.of (iv.1 _ _ hl)) ?_ ?_
 ·intro _ _;rintro i v σ H1 hi ⟨g1,zs,o,rfl,hD1,hz⟩;obtain⟨p,f,rfl,hf,a,b,hq,ha,hb⟩:=hp.2 i v hi;have hq1:=g1 _ _ hq;have hi':=(pD.mp hi).1;have lz:zs.length<=1800000:=by
   rw[hz.1,VM,pV];have:=Nat.min_le_right i fs.length;lia
  simp! [rExtT,hq1];refine⟨xa hD1,zs,hD1,uq (small10k (by lia)),yt g1 hD0,?_⟩
  rw[uP,hf];show LR QH _ _ (wj (fs.take i++[f]));rw[zf8];exact((hz.app (bs:=[f.1,f.2]) ((LR.one (ha:QH H a f.1)).app (LR.one (hb:QH H b f.2))|>.ts wJ (zI g1)))).ts wJ (xX hD1)
 ·rintro σ H1 ⟨g1,zs,o,rfl,hD1,hz⟩;rw[pz (by rw[lenF];exact pJ _)] at hz
  simp! [];refine⟨D0,zs,wj fs,rfl,hD1,by rw[hz.1,VM];lia,hz,λd kvs g qs H2 g2 hd2 gp gm ky _ _ _ _=>?_⟩
  have g12:=g1.trans g2;simp! [YV];refine⟨ys,g12 _ _ hl,uq (small10k (by lia)),lt.same g12,λc' H3 st3 lt3 hc3=>?_⟩
  have hl3:=st3.lst (lt.same g12) (g12 _ _ hl);have hd3:H3 d=some (.dT kvs):=st3 _ _ ((lt.same g12).ne hd2 λ_ z=>nomatch z) hd2;have ts3:yF H2 H3:=λb xs q=>st3.tup (lt.same g12) q;have ky3:=ky.ts ts3;have hp3:LR S2H H3 ys fs:=(hp.ts y6 (zI g12)).ts y6 ts3;have z0:Q3×Q3:=zQ;refine⟨λi ks H'=>zg H3 H'/\ks.length=i/\∀j,j<i->LsI H' (ks.getD j .non) (kyL g (fs.getD j z0)),⟨⟨.refl _,rfl,λj hj=>by lia⟩,λi ks H' q=>q.1 _ _ hc3,λi ks H' q=>q.2.1,λi ks H4 v hv q=>?_,λks H4 q=>?_⟩⟩
  ·obtain⟨g4,lk,q⟩:=q;obtain⟨p,f,rfl,hf,hpf⟩:=hp3.2 i v hv;obtain⟨a,b,hq,ha,hb⟩:=y6 _ _ _ _ (zI g4) hpf;have hd4:=g4 _ _ hd3;obtain⟨b1,e1,h1⟩:=ky3 f.1 (Xe.mpr ⟨f,pS hf,.inl rfl⟩);obtain⟨b2,e2,h2⟩:=ky3 f.2 (Xe.mpr ⟨f,pS hf,.inr rfl⟩);refine yT ?_;simp! [jk];refine⟨⟨_,.of hq⟩,λD hD=>?_⟩;refine zbw (xs:=[.ref a,.ref b]) (λn qs H'=>zg H4 H'/\H' D=some (.lst qs)/\qs=([V.ref b1,V.ref b2]).take n) ⟨ze hD _,upd_same,rfl⟩ (λn qs H' z=>.of (z.1 _ _ hq)) ?_ ?_
   ·rintro n qs H5 x hn hx ⟨g5,hD5,eq⟩;simp! [xZ]
    match n,hx,hn with
    |0,hx,_=>
     cases hx;exact⟨_,by rw[←e1];exact .t (k:=kQ f.1) (g5 _ _ hd4) (g5 _ _ ha.1),cw_put (by decide) hD5 (by rw[eq];exact small1000 (by simp)) ⟨yt g5 hD,upd_same,by rw[eq];rfl⟩⟩
    |1,hx,_=>
     cases hx;exact⟨_,by rw[←e2];exact .t (k:=kQ f.2) (g5 _ _ hd4) (g5 _ _ hb.1),cw_put (by decide) hD5 (by rw[eq];exact small1000 (by simp)) ⟨yt g5 hD,upd_same,by rw[eq];rfl⟩⟩
   ·rintro qs H5 ⟨g5,hD5,eq⟩;have eq:qs=[V.ref b1,V.ref b2]:=eq;subst eq;refine⟨g4.trans g5,by rw[pM,lk];rfl,λj hj=>?_⟩
    by_cases e:j<i
    ·obtain⟨q0,qs0,e0,hq0,l0,k0⟩:=q j e;have ej:(ks++[V.ref D]).getD j .non=ks.getD j .non:=by
      rw[pE,Qf (by lia),←pE]
     rw[ej];refine⟨q0,qs0,e0,g5 _ _ hq0,l0,λj k hk=>?_⟩;obtain⟨b,hb1,hb2⟩:=k0 j k hk;exact⟨b,hb1,g5 _ _ hb2⟩
    ·have ej:j=i:=by lia
     subst ej;have e3:(ks++[V.ref D]).getD j .non=.ref D:=by
      rw[pE,Qb (by lia),lk,Hi]
      rfl
     have e4:fs.getD j z0=f:=by rw[pE,hf];rfl
     rw[e3,e4];refine⟨D,_,rfl,hD5,rfl,λm k hk=>?_⟩;unfold kyL at hk
     match m,hk with
     |0,hk=>cases hk;exact⟨b1,rfl,g5 _ _ (g4 _ _ h1)⟩
     |1,hk=>cases hk;exact⟨b2,rfl,g5 _ _ (g4 _ _ h2)⟩
  ·obtain⟨g4,lk,q⟩:=q;refine⟨_,⟨λi=>kyL g (fs.getD i z0),λi hi=>q i (by lia),rfl⟩,λD pp hD or ep=>?_⟩
   have g5:=ze hD (HO.lst (pp.map λi=>ys.getD i .non));have hp5:=hp3.ts y6 (zI (g4.trans g5));have pm:(pp.map λi=>fs.getD i z0).Perm fs:=by
    have:=or.map λi=>fs.getD i z0;rw[←lenF,Z8] at this;exact this
   have bnd:∀f,f∈fs->∀x,x=f.1∨x=f.2->PQ 700 x/\x.w<=g:=λf hf x hx=>by
    obtain⟨j,hj⟩:=uY.mp hf;obtain⟨p,e,_,e2,a,b,_,ha,hb⟩:=hp.at (j:=j) (by rw[hp.1];exact(pD.mp hj).1)
    rw[hj] at e2
    cases e2;refine⟨?_,gm _ (Xe.mpr ⟨f,hf,hx⟩)⟩;rcases hx with rfl|rfl
    ·exact ha.2
    ·exact hb.2
   refine k D _ (pp.map λi=>fs.getD i z0) _ (g12.free (?_:H2 D=none)) (λb o nb e=>g5 _ _ (g4 _ _ (st3 _ _ nb (g12 _ _ e)))) ((lt3.same g4).same g5) upd_same ⟨by rw[pL,pL],λj v hv=>?_⟩ pm λnd=>?_
   ·skip
    have h3:=g4.free hD
    cases e:H2 D with
    |none=>rfl
    |some o=>
     by_cases nb:D=(ad 47)
     ·obtain⟨tp,e3,_⟩:=lt3;rw[←nb,h3] at e3
      cases e3
     ·rw[st3 _ _ nb e] at h3
      cases h3
   ·rw[pQ] at hv
    cases e:pp[j]? with
    |none=>rw[e] at hv;cases hv
    |some i=>
     rw[e] at hv;have ev:ys.getD i .non=v:=by simpa using hv
     have hi:i<ys.length:=Qr.mp (or.mem_iff.mp (pS e));obtain⟨b1,f,e1,e2,e3⟩:=hp5.at (j:=i) hi;rw[pE,e1] at ev;refine⟨b1,f,ev.symm,?_,e3⟩;rw[pQ,e,QQ,pE,e2];rfl
   ·have pn:pp.Pairwise (·≠·):=or.nodup_iff.mpr GP;refine gM.mpr (AM (λ{i j} hi hj h=>?_) (pn.and ep));have bi:i<fs.length:=by rw[lenF];exact Qr.mp (or.mem_iff.mp hi)
    have bj:j<fs.length:=by rw[lenF];exact Qr.mp (or.mem_iff.mp hj)
    have mi:fs.getD i z0∈fs:=Yn bi;have mj:fs.getD j z0∈fs:=Yn bj;have ne:fs.getD i z0≠fs.getD j z0:=λe=>by
     rw[pE,pG bi,pE,pG bj] at e;exact h.1 ((GA nd).mp e)
    have B:∀x,x=(fs.getD i z0).1∨x=(fs.getD i z0).2∨x=(fs.getD j z0).1∨x=(fs.getD j z0).2->PQ 700 x/\x.w<=g:=λx hx=>by
     rcases hx with z|z|z|z
     ·exact bnd _ mi _ (.inl z)
     ·exact bnd _ mi _ (.inr z)
     ·exact bnd _ mj _ (.inl z)
     ·exact bnd _ mj _ (.inr z)
    refine ky_ltF B ?_;rcases Wf _ _ (zas B ne) with q|q
    ·exact q
    ·rw[h.2] at q
     cases q
noncomputable def zH(ss:List (Q3×Q3))(f:Q3×Q3):List Nat:=(onF ss f.2).filter λk=>on3 (ss.getD k zQ).1 (ss.getD k zQ).2 f.1
def wf{ss:List (Q3×Q3)}{f:Q3×Q3}:k∈zH ss f↔k<ss.length/\OnI ss f.1 k/\OnI ss f.2 k:=by
 unfold zH;rw[uW,wt];exact⟨λ⟨⟨a,b⟩,c⟩=>⟨a,c,b⟩,λ⟨a,b,c⟩=>⟨⟨a,c⟩,b⟩⟩
def Wz(ss:List (Q3×Q3))(q:Q3):(onF ss q).length<=ss.length:=uK (QP _ _) (by rw[QM];exact pJ _)
noncomputable def mQ(ss:List (Q3×Q3))(q:Q3):List Nat:=(onF ss q).filter λk=>decide ((ss.getD k zQ).1≠q)
variable{q:Q3}
def jo{ss:List (Q3×Q3)}:k∈mQ ss q↔(k<ss.length/\OnI ss q k)/\(ss.getD k zQ).1≠q:=by
 unfold mQ;rw[uW,wt,decide_eq_true_iff]
def mQ_up(ss:List (Q3×Q3))(q:Q3):(mQ ss q).Pairwise (·<·):=Ev _ (qY ss q)
theorem VC:∀{a b:List Int},a.Pairwise (·<·)->b.Pairwise (·<·)->(∀x,x∈a↔x∈b)->a=b
 |[],[],_,_,_=>rfl
 |[],y::b,_,_,h=>absurd ((h y).mpr pX) (by simp)
 |x::a,[],_,_,h=>absurd ((h x).mp pX) (by simp)
 |x::a,y::b,ha,hb,h=>by
  obtain⟨a1,a2⟩:=UP.mp ha;obtain⟨b1,b2⟩:=UP.mp hb;have e:x=y:=by
   rcases pR.mp ((h x).mp pX) with z|z
   ·exact z
   ·rcases pR.mp ((h y).mpr pX) with z'|z'
    ·exact z'.symm
    ·have:=a1 y z';have:=b1 x z;lia
  subst e;rw[VC a2 b2 λz=>?_]
  constructor
  ·intro hz;rcases pR.mp ((h z).mp (pY _ hz)) with q|q
   ·have:=a1 z hz;lia
   ·exact q
  ·intro hz;rcases pR.mp ((h z).mpr (pY _ hz)) with q|q
   ·have:=b1 z hz;lia
   ·exact q
def Zi{ss:List (Q3×Q3)}{ps:List (Nat×Nat)}{g:Int}(T:zM ss ps g)(hk:k<ss.length):(ss.getD k zQ).1≠(ss.getD k zQ).2:=λz=>by
 have:=(T.ok _ (yn hk)).2.2;rw[z,yl] at this
 cases this
theorem ms_is{ss:List (Q3×Q3)}{ps:List (Nat×Nat)}{g:Int}(T:zM ss ps g){ms:List Int}(pm:ms.Perm ((thF ss q++enF ss q).map λi:Nat=>(i:Int)))(up:ms.Pairwise (·<=·)):ms=(mQ ss q).map λi:Nat=>(i:Int):=by
 have mem:∀k,k∈thF ss q++enF ss q↔k∈mQ ss q:=λk=>by
  unfold thF enF;rw[pP,uW,uW,decide_eq_true_iff,decide_eq_true_iff,jo,wt]
  constructor
  ·rintro(⟨h1,h2,_⟩|⟨h1,h2⟩)
   ·exact⟨h1,h2⟩
   ·exact⟨h1,λz=>Zi T h1.1 (z.trans h2.symm)⟩
  ·rintro⟨h1,h2⟩
   by_cases e:(ss.getD k zQ).2=q
   ·exact .inr ⟨h1,e⟩
   ·exact .inl ⟨h1,h2,e⟩
 have nd:(thF ss q++enF ss q).Nodup:=by
  have n0:(onF ss q).Nodup:=(qY ss q).imp λh=>uF h;refine gL.mpr ⟨n0.filter _,n0.filter _,λx hx y hy z=>?_⟩;unfold thF at hx;unfold enF at hy;have h1:=of_decide_eq_true (uW.mp hx).2;have h2:=of_decide_eq_true (uW.mp hy).2;rw[z] at h1;exact h1.2 h2
 have ndm:ms.Nodup:=pm.nodup_iff.mpr (Fy _ (λa b h z=>h (by lia)) nd)
 refine VC ((up.and ndm).imp λ{a b} h=>?_) (Fy _ (λa b h=>by lia) (mQ_up ss q)) λx=>?_
 ·have:=h.1;have:=h.2;lia
 ·rw[pm.mem_iff,uG,uG];exact⟨λ⟨k,h,e⟩=>⟨k,(mem k).mp h,e⟩,λ⟨k,h,e⟩=>⟨k,(mem k).mpr h,e⟩⟩
theorem th_len{ss:List (Q3×Q3)}(q:Q3):(thF ss q).length+(enF ss q).length<=2*ss.length/\(bgF ss q).length<=ss.length/\(thF ss q).length<=ss.length:=by
 have h:=Wz ss q;have h1:(thF ss q).length<=(onF ss q).length:=QP _ _;have h2:(enF ss q).length<=(onF ss q).length:=QP _ _;have h3:(bgF ss q).length<=(onF ss q).length:=QP _ _;lia
def col3{b p:Q3}(hab:bq a b=true)(hp:dt a b p=0)(hq:dt a b q=0)(hr:dt a b r=0):dt p q r=0:=by
 have e1:=V9 a b p q r;have e2:=Zs a b p q r;rw[hp,hq,hr] at e1 e2;simp only[CA,Fx] at e1 e2;rcases X4 hab with h|h
 ·exact(uU.mp e1.symm).resolve_right h
 ·exact(uU.mp e2.symm).resolve_right h
variable{i:Nat}
section
variable{ss:List (Q3×Q3)}{ps:List (Nat×Nat)}{g:Int}
def Pce.nb(T:zM ss ps g){f:Q3×Q3}(h:Pce ss ps f)(hi:i<ss.length)(o1:OnI ss f.1 i)(o2:OnI ss f.2 i):LyT ss ps f.1 i/\LyT ss ps f.2 i/\∀r,LyT ss ps r i->bq f.1 r=true->bq r f.2=true->False:=by
 obtain⟨j,h1,h2,h3,h4⟩:=h;obtain⟨j1,j2,j3⟩:=T.lies h1;obtain⟨_,j4,j5⟩:=T.lies h2;refine⟨T.full hi h1 o1,T.full hi h2 o2,λr hr r1 r2=>h4 r ?_ r1 r2⟩;obtain⟨_,r3,r4⟩:=T.lies hr;obtain⟨s1,s2,s3⟩:=T.ok _ (yn j1);have up:∀{z:Q3},PQ 130 z->PQ 700 z:=λh=>Pt.mono h (by decide)
 have c1:=(zV o1).1;have c2:=(zV o2).1;have c3:=(zV r4).1;obtain⟨t1,t2,t3⟩:=T.ok _ (yn hi);have cl:dt f.1 f.2 r=0:=col3 t3 c1 c2 c3;exact T.full j1 hr (Wg (up s1) (up s2) j2 j4 r3 h3 j3 j5 cl (yH r1) (yH r2))
end
structure PX(P:pi)(w:uR)(Mem:Q3×Q3->Prop)(L:Q3×Q3->List Nat)(B:Hp)(d1 d2:Addr)(M:Nat)(kvs:List N3)(kws:List (Key×V))(H:Hp):Prop where
 fr:zg B H
 own:H d1=some (nD P w d1 kvs)
 kn:KN H kvs
 nd:(kvs.map (·.1)).Nodup
 key:∀e,e∈kvs->∃(f:Q3×Q3)(c:Addr),e.1=[kQ f.1,kQ f.2]/\Mem f/\e.2.2=.ref c/\B c=none/\H c=some (.lst (zj (L f)))
 all:∀f,Mem f->[kQ f.1,kQ f.2]∈kvs.map (·.1)
 cnd:(kvs.map (·.2.2)).Nodup
 len:kvs.length<=M
 rea:H d2=some (.dK kws)
 kl:kws.length<=M
theorem qK{α β:Type}{g:α->β}:∀{l:List α},(l.map g).Nodup->∀{x y:α},x∈l->y∈l->g x=g y->x=y
 |[],_,_,_,h,_,_=>by cases h
 |z::l,nd,x,y,hx,hy,e=>by
  rw[pj] at nd;obtain⟨n1,n2⟩:=Ub.mp nd;rcases pR.mp hx with a|a<;>rcases pR.mp hy with b|b
  ·rw[a,b]
  ·exact absurd (uG.mpr ⟨y,b,by rw[←e,a]⟩) n1
  ·exact absurd (uG.mpr ⟨x,a,by rw[e,b]⟩) n1
  ·exact qK n2 a b e
def key2{f:Q3×Q3}(h:[kQ f.1,kQ f.2]=[kQ f'.1,kQ f'.2]):f=f':=by
 injection h with h1 h2
 injection h2 with h2 _
 exact Br (wS h1) (wS h2)
section
variable{w:uR}{Mem Mem':Q3×Q3->Prop}{L L':Q3×Q3->List Nat}{B B' H H':Hp}{d1 d2:Addr}{M M':Nat}{kvs:List N3}{kws:List (Key×V)}
theorem PX.le(I:PX P w Mem L B d1 d2 M kvs kws H)(h:M<=M'):PX P w Mem L B d1 d2 M' kvs kws H:=⟨I.fr,I.own,I.kn,I.nd,I.key,I.all,I.cnd,by have:=I.len;lia,I.rea,by have:=I.kl;lia⟩
def PX.congr(I:PX P w Mem L B d1 d2 M kvs kws H)(hM:∀f,Mem f↔Mem' f)(hL:∀f,Mem f->L f=L' f):PX P w Mem' L' B d1 d2 M kvs kws H:=
 ⟨I.fr,I.own,I.kn,I.nd,λe he=>by
  obtain⟨f,c,h1,h2,h3,h4,h5⟩:=I.key e he;exact⟨f,c,h1,(hM f).mp h2,h3,h4,by rw[←hL f h2];exact h5⟩,λf hf=>I.all f ((hM f).mpr hf),I.cnd,I.len,I.rea,I.kl⟩
def PX.same(I:PX P w Mem L B d1 d2 M kvs kws H)(g:zg H H'):PX P w Mem L B d1 d2 M kvs kws H':=
 ⟨I.fr.trans g,g _ _ I.own,I.kn.ts λ_ _ h=>g _ _ h,I.nd,λe he=>by
  obtain⟨f,c,h1,h2,h3,h4,h5⟩:=I.key e he;exact⟨f,c,h1,h2,h3,h4,g _ _ h5⟩,I.all,I.cnd,I.len,g _ _ I.rea,I.kl⟩
def PX.more(I:PX P w Mem L B d1 d2 M kvs kws H){D:Addr}(hD:H D=none):PX P w Mem L (upd B D o) d1 d2 M kvs kws (upd H D o):=by
 have J:=I.same (ze hD o);refine⟨λb u h=>?_,J.own,J.kn,J.nd,λe he=>?_,J.all,J.cnd,J.len,J.rea,J.kl⟩
 ·by_cases z:b=D
  ·subst z;rw[upd_same] at h⊢;exact h
  ·rw[zh z] at h⊢;exact I.fr _ _ h
 ·obtain⟨f,c,h1,h2,h3,h4,h5⟩:=J.key e he;obtain⟨_,c',_,_,h3',_,h5'⟩:=I.key e he;rw[h3] at h3'
  cases h3';exact⟨f,c,h1,h2,h3,by rw[zh (zN h5' hD)];exact h4,h5⟩
def PX.less(I:PX P w Mem L B d1 d2 M kvs kws H)(h:zg B' B):PX P w Mem L B' d1 d2 M kvs kws H:=
 ⟨λb o q=>I.fr _ _ (h _ _ q),I.own,I.kn,I.nd,λe he=>by
  obtain⟨f,c,h1,h2,h3,h4,h5⟩:=I.key e he;exact⟨f,c,h1,h2,h3,h.free h4,h5⟩,I.all,I.cnd,I.len,I.rea,I.kl⟩
def PX.app(I:PX P w Mem L B d1 d2 M kvs kws H){e:N3}(he:e∈kvs){f:Q3×Q3}{c:Addr}(k:e.1=[kQ f.1,kQ f.2])(v:e.2.2=.ref c)(hc:H c=some (.lst (zj (L f))))(hB:B c=none)(i:Nat):PX P w Mem (λx=>if x=f then L f++[i] else L x) B d1 d2 M kvs kws (upd H c (.lst (zj (L f)++[V.int (i:Int)]))):=by
 have n1:d1≠c:=λz=>by have:=I.own;rw[z,hc] at this;cases this
 have n2:d2≠c:=λz=>by have:=I.rea;rw[z,hc] at this;cases this
 refine⟨λb o h=>?_,by rw[zh n1];exact I.own,I.kn.ts (xX hc),I.nd,λe' he'=>?_,I.all,I.cnd,I.len,by rw[zh n2];exact I.rea,I.kl⟩
 ·rw[zh (zN h hB)];exact I.fr _ _ h
 ·obtain⟨f',c',h1,h2,h3,h4,h5⟩:=I.key e' he'
  by_cases z:f'=f
  ·subst z;have ee:=qK I.nd he' he (h1.trans k.symm);subst ee;rw[v] at h3
   cases h3;refine⟨f',c,h1,h2,v,h4,?_⟩;rw[upd_same,if_pos rfl,vt];rfl
  ·refine⟨f',c',h1,h2,h3,h4,?_⟩;have nc:c'≠c:=λy=>z (key2 (h1.symm.trans ((congrArg (·.1) (qK I.cnd he' he (by rw[h3,v,y]))).trans k)))
   rw[zh nc,if_neg z];exact h5
theorem PX.put(I:PX P w Mem L B d1 d2 M kvs kws H)(hd:B d1=none){f:Q3×Q3}{t c:Addr}(hv:yx kvs [kQ f.1,kQ f.2]=none)(nk:NK H t [kQ f.1,kQ f.2])(hc:H c=some (.lst []))(hB:B c=none)(nw:∀e,e∈kvs->e.2.2≠.ref c):PX P w (λx=>Mem x∨x=f) (λx=>if x=f then[] else L x) B d1 d2 (M+1) (yM kvs [kQ f.1,kQ f.2] t (.ref c)) kws (upd H d1 (nD P w d1 (yM kvs [kQ f.1,kQ f.2] t (.ref c)))):=by
 have n2:d2≠d1:=λz=>by have:=I.rea;rw[z,I.own] at this;cases this
 have nl:∀{b:Addr}{xs:List V},H b=some (.lst xs)->b≠d1:=λh z=>by rw[z,I.own] at h;cases h
 have ts:∀b xs,H b=some (.tup xs)->upd H d1 (nD P w d1 (yM kvs [kQ f.1,kQ f.2] t (.ref c))) b=some (.tup xs):=λb xs h=>by
  rw[zh (λz=>by rw[z,I.own] at h;cases h)]
  exact h
 have nm:¬Mem f:=λz=>by
  have:=YC.mpr (I.all f z);rw[hv] at this
  cases this
 have ep:yM kvs [kQ f.1,kQ f.2] t (.ref c)=kvs++[([kQ f.1,kQ f.2],t,.ref c)]:=by
  unfold yM;rw[hv];rfl
 refine⟨λb o h=>?_,upd_same,(I.kn.put nk).ts ts,Vo I.nd,λe he=>?_,λx hx=>?_,?_,by have:=Z1 kvs [kQ f.1,kQ f.2] t (.ref c);have:=I.len;lia,by rw[zh n2];exact I.rea,by have:=I.kl;lia⟩
 ·rw[zh (zN h hd)];exact I.fr _ _ h
 ·rw[ep] at he;rcases pP.mp he with he|he
  ·obtain⟨f',c',h1,h2,h3,h4,h5⟩:=I.key e he;refine⟨f',c',h1,.inl h2,h3,h4,?_⟩;rw[zh (nl h5),if_neg (λz=>nm (by rw[←z];exact h2))]
   exact h5
  ·rw[pN.mp he];refine⟨f,c,rfl,.inr rfl,rfl,hB,?_⟩;rw[zh (nl hc),if_pos rfl];exact hc
 ·rw[ep,ug];rcases hx with z|z
  ·exact uD _ (I.all x z)
  ·exact pI _ (by rw[z];exact pN.mpr rfl)
 ·rw[ep,ug];refine gL.mpr ⟨I.cnd,Ub.mpr ⟨λz=>(by cases z),At⟩,λx hx y hy z=>?_⟩
  obtain⟨e,he,rfl⟩:=uG.mp hx;rw[pN.mp hy] at z;exact nw e he z
theorem PX.rput(I:PX P w Mem L B d1 d2 M kvs kws H)(hd:B d2=none)(k:Key)(v:V):PX P w Mem L B d1 d2 (M+1) kvs (yj kws k v) (upd H d2 (.dK (yj kws k v))):=by
 have n1:d1≠d2:=λz=>by have:=I.own;rw[z,I.rea] at this;cases this
 have nl:∀{b:Addr}{xs:List V},H b=some (.lst xs)->b≠d2:=λh z=>by rw[z,I.rea] at h;cases h
 refine⟨λb o h=>?_,by rw[zh n1];exact I.own,I.kn.ts λb xs h=>?_,I.nd,λe he=>?_,I.all,I.cnd,by have:=I.len;lia,upd_same,by have:=wZ kws k v;have:=I.kl;lia⟩
 ·rw[zh (zN h hd)];exact I.fr _ _ h
 ·rw[zh (λz=>by rw[z,I.rea] at h;cases h)]
  exact h
 ·obtain⟨f,c,h1,h2,h3,h4,h5⟩:=I.key e he;exact⟨f,c,h1,h2,h3,h4,by rw[zh (nl h5)];exact h5⟩
def Vt{k:K2}{v:V}(h:yx kvs k=some v):∃e,e∈kvs/\e.1=k/\e.2.2=v:=by
 unfold yx at h;obtain⟨e,h1,h2⟩:=Qh.mp h;have h3:=List.find?_some h1;exact⟨e,List.mem_of_find?_eq_some h1,by simpa using h3,h2⟩
theorem PX.keys(I:PX P w Mem L B d1 d2 M kvs kws H):∃fs:List (Q3×Q3),kvs.map (·.1)=fs.map (λf=>[kQ f.1,kQ f.2])/\∀f,f∈fs↔Mem f:=by
 have go:∀l:List N3,(∀e,e∈l->∃f:Q3×Q3,e.1=[kQ f.1,kQ f.2]/\Mem f)->∃fs:List (Q3×Q3),l.map (·.1)=fs.map (λf=>[kQ f.1,kQ f.2])/\∀f,f∈fs->Mem f:=λl=>by
  induction l with
  |nil=>exact λ_=>⟨[],rfl,λf h=>by cases h⟩
  |cons e l ih=>
   intro h;obtain⟨fs,e1,e2⟩:=ih λx hx=>h x (pY _ hx);obtain⟨f,f1,f2⟩:=h e pX;refine⟨f::fs,by rw[pj,pj,e1,f1],λx hx=>?_⟩
   rcases pR.mp hx with rfl|hx
   ·exact f2
   ·exact e2 x hx
 obtain⟨fs,h1,h2⟩:=go kvs λe he=>by
  obtain⟨f,c,h1,h2,_⟩:=I.key e he;exact⟨f,h1,h2⟩
 refine⟨fs,h1,λf=>⟨h2 f,λhf=>?_⟩⟩;have:=I.all f hf;rw[h1] at this;obtain⟨f',m,e⟩:=uG.mp this;rw[←key2 e];exact m
end
variable{os:List Q3}
section
variable{ss:List (Q3×Q3)}{ps:List (Nat×Nat)}{B:Hp}{kws:List (Key×V)}
def RIs(ss:List (Q3×Q3))(ps:List (Nat×Nat))(dn:List Q3)(kws:List (Key×V))(B:Hp):Prop:=∀i q,LyT ss ps q i->q∈dn->(∀r,r∈dn->LyT ss ps r i->bq q r=false)->q≠(ss.getD i zQ).2->∃a,zw kws (.inl (i:Int))=some (.ref a)/\QH B a q
theorem JD{T:Q3->Prop}:∀{l:List Q3},l.Pairwise (Lt 1)->(∃r,r∈l/\T r)->∃p,p∈l/\T p/\∀r,r∈l->T r->bq p r=false
 |[],_,⟨r,h,_⟩=>by cases h
 |a::l,pw,⟨r,hr,ht⟩=>by
  obtain⟨p1,p2⟩:=UP.mp pw
  by_cases z:∃r,r∈l/\T r
  ·obtain⟨p,h1,h2,h3⟩:=JD p2 z;refine⟨p,pY _ h1,h2,λr hr tr=>?_⟩;rcases pR.mp hr with rfl|hr
   ·exact yH (va.mpr (p1 p h1))
   ·exact h3 r hr tr
  ·have ea:∀r,r∈a::l->T r->r=a:=λr hr tr=>by
    rcases pR.mp hr with h|h
    ·exact h
    ·exact absurd ⟨r,h,tr⟩ z
   exact⟨a,pX,ea r hr ht▸ht,λr hr tr=>by rw[ea r hr tr];exact yl a⟩
def jZ{l:List Q3}(pw:l.Pairwise (Lt 1))(hk:l[k]?=some q):(r∈l.take k->bq r q=true)/\(r∈l->bq r q=true->r∈l.take k):=by
 have hlt:=(pD.mp hk).1;have sp:l=l.take k++(q::l.drop (k+1)):=by
  conv=>lhs;rw[←QN k l]
  rw[Qg hlt]
  congr 2
  have:=pG hlt;rw[hk] at this;exact(uN this).symm
 have pw':=pw;rw[sp,Er] at pw';refine⟨λh=>va.mpr (pw'.2.2 r h q pX),λh hb=>?_⟩;rw[sp] at h;rcases pP.mp h with h|h
 ·exact h
 ·rcases pR.mp h with h|h
  ·rw[h,yl] at hb;cases hb
  ·have:=va.mpr ((UP.mp pw'.2.1).1 r h);rw[yH hb] at this
   cases this
theorem zee{g:Int}(T:zM ss ps g)(pw:os.Pairwise (Lt 1))(ho:∀q,q∈os↔∃i,LyT ss ps q i){k i:Nat}{q:Q3}(hk:os[k]?=some q)(hq:LyT ss ps q i)(n1:(ss.getD i zQ).1≠q)(R:RIs ss ps (os.take k) kws B):
  ∃p a,(LyT ss ps p i/\Pce ss ps (p,q))/\zw kws (.inl (i:Int))=some (.ref a)/\QH B a p:=by
 obtain⟨hi,pq,oq⟩:=T.lies hq;obtain⟨s1,s2,s3⟩:=T.ok _ (yn hi);obtain⟨_,i1,i2⟩:=zV oq;have up:∀{z:Q3},PQ 130 z->PQ 700 z:=λh=>Pt.mono h (by decide)
 have l1:LyT ss ps (ss.getD i zQ).1 i:=.inl (xL.mpr ⟨hi,.inl rfl⟩);have b1:bq (ss.getD i zQ).1 q=true:=by
  cases h:bq (ss.getD i zQ).1 q with
  |true=>rfl
  |false=>exact absurd (xz (up s1) pq (by rw[h];decide) (by rw[i1];decide)) n1
 obtain⟨p,h1,h2,h3⟩:=JD (T:=λr=>LyT ss ps r i) (pw.sublist (Bl k os)) ⟨_,(jZ pw hk).2 ((ho _).mpr ⟨i,l1⟩) b1,l1⟩;have bp:=(jZ pw hk (r:=p)).1 h1;obtain⟨a,ha,hb⟩:=R i p h2 h1 h3 λz=>by rw[z,i2] at bp;cases bp
 refine⟨p,a,⟨h2,i,h2,hq,bp,λr hr r1 r2=>?_⟩,ha,hb⟩;have:=h3 r ((jZ pw hk).2 ((ho _).mpr ⟨i,hr⟩) r2) hr;rw[r1] at this
 cases this
def RIs.next{g:Int}(T:zM ss ps g)(pw:os.Pairwise (Lt 1))(hk:os[k]?=some q){kws':List (Key×V)}{a:Addr}(ha:QH B a q){bt:List Nat}(hbt:∀i,i∈bt↔LyT ss ps q i/\(ss.getD i zQ).2≠q)(hv:∀i:Nat,zw kws' (.inl (i:Int))=if i∈bt then some (.ref a) else zw kws (.inl (i:Int)))(R:RIs ss ps (os.take k) kws B):RIs ss ps (os.take (k+1)) kws' B:=λi r hr hm hl hn=>by
 have et:os.take (k+1)=os.take k++[q]:=by rw[uP,hk];rfl
 rw[et] at hm hl;rw[hv i];rcases pP.mp hm with hm|hm
 ·have nq:¬LyT ss ps q i:=λz=>by
   have:=hl q (pI _ (pN.mpr rfl)) z;rw[(jZ pw hk).1 hm] at this
   cases this
  rw[if_neg (λz=>nq ((hbt i).mp z).1)];exact R i r hr hm (λx hx=>hl x (uD _ hx)) hn
 ·have e:=pN.mp hm;subst e;rw[if_pos ((hbt i).mpr ⟨hr,λz=>hn z.symm⟩)];exact⟨a,rfl,ha⟩
end
def zaj{P:pi}{w:uR}{d:Addr}{kvs:List N3}{q:Str}:xB d q≠nD P w d kvs:=λe=>by
 unfold xB nD at e
 injection e with e
 have h:=congrFun e (Heap.push {objs:=EU d {cls:=.none,data:=.fields #[.none,.str q 0]}} {cls:=.none,data:=.fields #[.none,.str q 0]});have g:(Heap.push {objs:=EU d {cls:=.none,data:=.fields #[.none,.str q 0]}} {cls:=.none,data:=.fields #[.none,.str q 0]}).get? d=some {cls:=.none,data:=.fields #[.none,.str q 0]}:=by
  have:=pd {objs:=EU d {cls:=.none,data:=.fields #[.none,.str q 0]}} (o:={cls:=.none,data:=.fields #[.none,.str q 0]}) rfl;rw[Array.size_replicate] at this;exact this
 obtain⟨_,_,_,_,_,o',es,ep,h1,_,h2,_⟩:=h.mp ⟨d,_,_,0,rfl,g,rfl,rfl⟩;rw[g] at h1
 cases h1
 cases h2
variable{dn:List Q3}
section
variable{ss:List (Q3×Q3)}{ps:List (Nat×Nat)}{g:Int}
def YL(T:zM ss ps g){f:Q3×Q3}(h:Pce ss ps f)(h':Pce ss ps f')(e:f.2=f'.2)(hi:i<ss.length)(o:OnI ss f.1 i)(o':OnI ss f'.1 i)(oq:OnI ss f.2 i):f=f':=by
 obtain⟨a1,a2,a3⟩:=h.nb T hi o oq;obtain⟨b1,b2,b3⟩:=h'.nb T hi o' (by rw[←e];exact oq)
 obtain⟨_,_,_,l1,_⟩:=h;obtain⟨_,_,_,l2,_⟩:=h';refine Br (xz (T.lies a1).2.1 (T.lies b1).2.1 (λz=>?_) λz=>?_) e
 ·exact a3 _ b1 z (by rw[e];exact l2)
 ·exact b3 _ a1 z (by rw[←e];exact l1)
def Vh(T:zM ss ps g){f:Q3×Q3}(h:bq f.1 f.2=true)(hk:k<ss.length)(o1:OnI ss f.1 k)(o2:OnI ss f.2 k):k∈mQ ss f.2:=by
 refine jo.mpr ⟨⟨hk,o2⟩,λz=>?_⟩;have:=(zV o1).2.1;rw[z,h] at this
 cases this
def xu(ss:List (Q3×Q3))(ps:List (Nat×Nat))(dn:List Q3)(q:Q3)(j:Nat)(f:Q3×Q3):Prop:=(Pce ss ps f/\f.2∈dn)∨(Pce ss ps f/\f.2=q/\∃i,i∈(mQ ss q).take j/\OnI ss f.1 i)
noncomputable def LJ(ss:List (Q3×Q3))(q:Q3)(j:Nat)(f:Q3×Q3):List Nat:=if f.2=q then((mQ ss q).take j).filter λk=>on3 (ss.getD k zQ).1 (ss.getD k zQ).2 f.1 else zH ss f
def mj_0(nq:q∉dn)(f:Q3×Q3):((Pce ss ps f/\f.2∈dn)↔xu ss ps dn q 0 f)/\((Pce ss ps f/\f.2∈dn)->zH ss f=LJ ss q 0 f):=by
 constructor
 ·unfold xu
  constructor
  ·exact λz=>.inl z
  ·rintro(z|⟨_,_,i,hi,_⟩)
   ·exact z
   ·rw[ul] at hi
    cases hi
 ·intro z;unfold LJ;rw[if_neg λy=>nq (by rw[←y];exact z.2)]
theorem JL(T:zM ss ps g)(nq:q∉dn)(f:Q3×Q3):(xu ss ps dn q (mQ ss q).length f↔(Pce ss ps f/\f.2∈dn++[q]))/\(xu ss ps dn q (mQ ss q).length f->LJ ss q (mQ ss q).length f=zH ss f):=by
 unfold xu LJ;rw[Qu]
 constructor
 ·constructor
  ·rintro(⟨a,b⟩|⟨a,b,_⟩)
   ·exact⟨a,uD _ b⟩
   ·exact⟨a,pI _ (pN.mpr b)⟩
  ·rintro⟨a,b⟩;rcases pP.mp b with b|b
   ·exact .inl ⟨a,b⟩
   ·have b:=pN.mp b;obtain⟨i,h1,h2,h3,_⟩:=id a;obtain⟨i1,_,i3⟩:=T.lies h1;refine .inr ⟨a,b,i,?_,i3⟩;rw[←b];exact Vh T h3 i1 i3 (T.lies h2).2.2
 ·intro z;have hp:Pce ss ps f:=z.elim (·.1) (·.1)
  by_cases e:f.2=q
  ·rw[if_pos e];subst e;unfold mQ zH;rw[FU];refine List.filter_congr λk hk=>?_;obtain⟨k1,k2⟩:=wt.mp hk;obtain⟨_,_,_,h3,_⟩:=hp
   cases o:on3 (ss.getD k zQ).1 (ss.getD k zQ).2 f.1 with
   |false=>rfl
   |true=>rw[decide_eq_true (jo.mp (Vh T h3 k1 o k2)).2];rfl
  ·rw[if_neg e]
def mj_step(T:zM ss ps g)(hj:(mQ ss q)[j]?=some i){p:Q3}(hp:LyT ss ps p i)(pc:Pce ss ps (p,q)):
  (∀f,xu ss ps dn q (j+1) f↔(xu ss ps dn q j f∨f=(p,q)))/\(∀f,f≠(p,q)->xu ss ps dn q (j+1) f->LJ ss q j f=LJ ss q (j+1) f)/\LJ ss q (j+1) (p,q)=LJ ss q j (p,q)++[i]/\(¬xu ss ps dn q j (p,q)->LJ ss q j (p,q)=[]):=by
 obtain⟨⟨hi,oq⟩,_⟩:=jo.mp (pS hj);have op:=(T.lies hp).2.2;have et:(mQ ss q).take (j+1)=(mQ ss q).take j++[i]:=by rw[uP,hj];rfl
 have un:∀{f:Q3×Q3},Pce ss ps f->f.2=q->OnI ss f.1 i->f=(p,q):=λh e o=>YL T h pc e hi o op (by rw[e];exact oq)
 refine⟨λf=>⟨λh=>?_,λh=>?_⟩,λf ne h=>?_,?_,λn=>?_⟩
 ·rcases h with h|⟨h1,h2,i',h3,h4⟩
  ·exact .inl (.inl h)
  ·rw[et] at h3;rcases pP.mp h3 with h3|h3
   ·exact .inl (.inr ⟨h1,h2,i',h3,h4⟩)
   ·rw[pN.mp h3] at h4;exact .inr (un h1 h2 h4)
 ·rcases h with(h|⟨h1,h2,i',h3,h4⟩)|h
  ·exact .inl h
  ·exact .inr ⟨h1,h2,i',by rw[et];exact uD _ h3,h4⟩
  ·subst h;exact .inr ⟨pc,rfl,i,by rw[et];exact pI _ (pN.mpr rfl),op⟩
 ·unfold LJ
  by_cases e:f.2=q
  ·rw[if_pos e,if_pos e,et,Bb,AX,if_neg,Gj,UF];intro o;exact ne (un (h.elim (·.1) (·.1)) e o)
  ·rw[if_neg e,if_neg e]
 ·unfold LJ;rw[if_pos rfl,if_pos rfl,et,Bb,AX,if_pos,Gj];exact op
 ·unfold LJ;rw[if_pos rfl];refine List.filter_eq_nil_iff.mpr λk hk o=>n ?_;exact .inr ⟨pc,rfl,k,hk,o⟩
end
def RwT(H:Hp)(p:Addr)(x:(Q3×Q3)×Addr):Prop:=∃s,H p=some (.tup [.ref s,.ref x.2])/\S2H H s x.1
def rwt_ts:∀(H H':Hp)(p:Addr)(x:(Q3×Q3)×Addr),yF H H'->RwT H p x->RwT H' p x:=λ_ _ _ _ g⟨s,h1,h2⟩=>⟨s,g _ _ h1,y6 _ _ _ _ g h2⟩
def SpW(ss:List (Q3×Q3))(H:Hp)(p:Addr)(q:Q3):Prop:=∃a b1 b2 b3,H p=some (.tup [.ref a,.ref b1,.ref b2,.ref b3])/\QH H a q/\H b1=some (.lst (zj (bgF ss q)))/\H b2=some (.lst (zj (thF ss q)))/\H b3=some (.lst (zj (enF ss q)))
def SameT3(ta tb tc:Addr)(H H':Hp):Prop:=∀b o,b≠ta->b≠tb->b≠tc->H b=some o->H' b=some o
noncomputable def cOf(kvs:List N3)(f:Q3×Q3):Addr:=match yx kvs [kQ f.1,kQ f.2] with|some (.ref c)=>c|_=>0
inductive Jf (ta:Addr) (la:Pos) (qa:Str) (tb:Addr) (lb:Pos) (qb:Str) (tc:Addr) (lc:Pos) (qc:Str) (vs:List V) (H:Hp) (Q:VK) (E:XK):Prop
 |mk (l:Addr) (ys:List V) (ss:List (Q3×Q3)) (_:vs=[.ref l]) (_:H l=some (.lst ys)) (_:ys.length<=45) (_:LR (StE 130) H ys ss) (_:zE H ta la qa) (_:zE H tb lb qb) (_:zE H tc lc qc) (_:∀(D:Addr)(zs:List V)(xs:List ((Q3×Q3)×Addr))(ps:List (Nat×Nat))(g:Int)(H':Hp),SameT3 ta tb tc H H'->zE H' ta la qa->zE H' tb lb qb->zE H' tc lc qc->H' D=some (.lst zs)->zs.length<=900000->LR RwT H' zs xs->(∀x,x∈xs->H' x.2=some (.lst (zj (zH ss x.1)))/\H x.2=none/\x.2≠D)->(xs.map (·.1)).Pairwise LtF->(∀f,f∈xs.map (·.1)↔Pce ss ps f)->(xs.map (·.2)).Nodup->H D=none->zM ss ps g->Q (.ref D) H'):Jf ta la qa tb lb qb tc lc qc vs H Q E
theorem W2(T:Txt K mg ad fd)(hK:K.In base)(hB:∀b,b∈([ad 45,ad 47,ad 49]:List Addr)->base.BuiltinsAt mg b):zx P w K mg base CX0 7 (ad 20) (fd 20) ["stretches"] (Jf (ad 45) qV qlB (ad 47) jC qlP (ad 49) wP qlN):=by
 refine T.pieces.fn.ok wm (λvs H Q E h=>?_) (λcdv A outer s H vs Q E hr h=>?_)
 ·obtain⟨l,ys,ss,rfl,_⟩:=h;rfl
 obtain⟨l,ys,ss,rfl,hl,hn,hs,ltB,ltP,ltN,k⟩:=h;refine⟨_,
  (pss4
   (JV (i:=1) wm.nd rfl (FL rfl) (pe_nnew (P:=P) (w:=w) rfl rfl))
   (zu 2 wm.nd Jj)
   (yo uO rfl (yk (zt (Zp T hK hB) T.stops hr (pa1 (pv 0) zd))) (jd (n:=4) rfl (y8 (zB 3 wm.nd) (y8 (zB 4 wm.nd) (y8 (zB 5 wm.nd) (y8 (zB 6 wm.nd) vp))))) (pss2
   (yo uO rfl (yk (ye (VS (hu100 hr)) rfl T.b_sorted YH (pa1 (zf jM (pv 5) (pv 6)) zv))) (zB 7 wm.nd) (zq (xk (xO uh QY QZ wq (pe_nsd (P:=P) (w:=w) rfl rfl (hu64 hr) (pv 1) (yc (pa2 (xK (yS hr) (pv 2) (pv 7) λ_ _=>rfl) zr (pv 3) zd)) (xq yV) ⟨rfl,rfl,rfl,rfl⟩) (pa1 (pv 7) zd)))))
   (yo uO rfl (yk (zf jM (pv 4) (pv 5))) (zB 7 wm.nd) (zq (jB (yS hr) (pv 2) (pv 7) (pv 3) rfl)))))
   (zo (wM wm ["S"] [1] (yk (zt (zdm T hK hB) T.by_points hr (pa1 (vq (zd1 (P:=P) (w:=w) rfl rfl rfl) rfl T.b_list wy (pa1 (pv 1) zd)) zZ))) (λcl C fp s2 H2 xe=>⟨(zB 0 (show UK (["S","owners"]:List Str) from by decide+kernel)),x8,(yc (pa2 (pv 0) zd (pe_nget (P:=P) (w:=w) rfl rfl (hu64 hr) (pv 1) (pv 0) λ_ _=>rfl) zr))⟩))))
  ,?_⟩
 dsimp! [L2.start]
 simp! [tNNew,Y0];intro d1 hd1 d2 hd2;have g1:=ze hd1 (nD P w d1 []);have e1:upd H d1 (nD P w d1 []) d1=some (nD P w d1 []):=upd_same;generalize upd H d1 (nD P w d1 [])=H1 at*;have g2:=ze hd2 (HO.dK []);have e2:upd H1 d2 (HO.dK []) d2=some (HO.dK []):=upd_same;have e12:=g2 _ _ e1;generalize upd H1 d2 (HO.dK [])=H2 at*;have g02:=g1.trans g2;have ltB2:=ltB.same g02;have ltN2:=ltN.same g02;refine yq ?_;simp! [yi];refine⟨l,ys,ss,rfl,g02 _ _ hl,by lia,hs.ts yb (zI g02),ltB2,ltN2,λD zs xs ps g H3 st3 ltB3 ltN3 hD3 _ hzy TT lps pw ho _ _ _=>?_⟩
 have hz:LR (SpW ss) H3 zs (xs.map (·.1)):=⟨by rw[pL];exact hzy.1,λj v z=>by
  obtain⟨p,x,e,f,a,h1,h2,h3,h4,h5⟩:=hzy.2 j v z;exact⟨p,x.1,e,by rw[pQ,f];rfl,a,x.2.1,x.2.2.1,x.2.2.2,h1,h2,h3,h4,h5⟩⟩
 have lss:ss.length<=45:=by rw[←hs.1];exact hn
 generalize xs.map (·.1)=os at*;have lz:zs.length<=1080:=by
  have ndo:os.Nodup:=pw.imp λ{a b} h z=>by
   have:=va.mpr h;rw[z,yl] at this
   cases this
  have:=TT.few ndo λq hq=>(ho q).mp hq;have t13:=YW (n:=45) hn;have h1:=hz.1;have e13:tri 45=990:=rfl;lia
 have h31:H3 d1=some (nD P w d1 []):=st3 _ _ (ltB2.ne e12 λ_ z=>nomatch z) (ltN2.ne e12 λ_ z=>nomatch z) e12;have h32:H3 d2=some (.dK []):=st3 _ _ (ltB2.ne e2 λ_ z=>nomatch z) (ltN2.ne e2 λ_ z=>nomatch z) e2;obtain⟨B,⟨Bd1,Bd2⟩,BS,BH⟩:∃B:Hp,(B d1=none/\B d2=none)/\zg B H3/\∀b o,H3 b=some o->b≠d1->b≠d2->B b=some o:=by
  refine⟨λb=>if b=d1∨b=d2 then none else H3 b,⟨if_pos (.inl rfl),if_pos (.inr rfl)⟩,λb o h=>?_,λb o h n1 n2=>?_⟩
  ·have h:(if b=d1∨b=d2 then none else H3 b)=some o:=h
   by_cases z:b=d1∨b=d2
   ·rw[if_pos z] at h;cases h
   ·rw[if_neg z] at h;exact h
  ·show(if b=d1∨b=d2 then none else H3 b)=_
   rw[if_neg (λz=>z.elim n1 n2)];exact h
 have BL:∀{b:Addr}{xs:List V},H3 b=some (.lst xs)->B b=some (.lst xs):=λh=>BH _ _ h (λz=>by rw[z,h31] at h;cases h) (λz=>by rw[z,h32] at h;cases h)
 have BT:∀{b:Addr}{xs:List V},H3 b=some (.tup xs)->B b=some (.tup xs):=λh=>BH _ _ h (λz=>by rw[z,h31] at h;cases h) (λz=>by rw[z,h32] at h;cases h)
 have BR:∀{b:Addr}{o:HO},H b=some o->b≠(ad 45)->b≠(ad 49)->B b=some o:=λ{b o} h n1 n2=>BH _ _ (st3 _ _ n1 n2 (g02 _ _ h)) (zN h hd1) (zN (g1 _ _ h) hd2);have BLam:∀{t:Addr}{lp:Pos}{ql:Str},zE H3 t lp ql->H t≠none->zE B t lp ql:=λ{t lp ql} h h0=>by
  obtain⟨tp,h1,h2,h3⟩:=h;have n1:∀{b:Addr},H b≠none->b≠d1:=λz y=>z (y▸hd1);have n2:∀{b:Addr},H b≠none->b≠d2:=λz y=>z (g1.free (y▸hd2));exact⟨tp,BH _ _ h1 (n1 h0) (n2 h0),h2,h3.imp id λ⟨c,e,hc⟩=>⟨c,e,BH _ _ hc (λz=>by rw[z,h31] at hc;exact zaj (uN hc).symm) λz=>by rw[z,h32] at hc;cases hc⟩⟩
 have ltBB:=BLam ltB3 (by obtain⟨tp,h1,_⟩:=ltB;rw[h1];exact λz=>nomatch z)
 have ltNB:=BLam ltN3 (by obtain⟨tp,h1,_⟩:=ltN;rw[h1];exact λz=>nomatch z)
 have ltPB:zE B (ad 47) jC qlP:=by
  obtain⟨tp,h1,h2,h3⟩:=ltP;exact⟨tp,BH _ _ (st3 _ _ T.tne01.symm T.tne12 (g02 _ _ h1)) (zN h1 hd1) (zN (g1 _ _ h1) hd2),h2,h3.imp id λ⟨c,e,hc⟩=>⟨c,e,BH _ _ (st3 _ _ (ltB2.ne (g02 _ _ hc) λ_ z=>nomatch z) (ltN2.ne (g02 _ _ hc) λ_ z=>nomatch z) (g02 _ _ hc)) (zN hc hd1) (zN (g1 _ _ hc) hd2)⟩⟩
 have hDB:=BL hD3;have hzB:LR (SpW ss) B zs os:=⟨hz.1,λj v z=>by
  obtain⟨p,d,e,f,a,b1,b2,b3,h1,h2,h6,h7,h8⟩:=hz.2 j v z;exact⟨p,d,e,f,a,b1,b2,b3,BT h1,⟨BT h2.1,h2.2⟩,BL h6,BL h7,BL h8⟩⟩
 refine⟨D,rfl,⟨_,.of hD3⟩,?_⟩;refine xC (K:=K) (a:=D) (xs:=zs) (λk σ H'=>∃(kvs:List N3)(kws:List (Key×V))(o3 o4 o5 o6 o7:Option V),σ=[some (.ref l),some (.ref d1),some (.ref d2),o3,o4,o5,o6,o7]/\PX P w (λf=>Pce ss ps f/\f.2∈os.take k) (zH ss) B d1 d2 (300*k) kvs kws H'/\RIs ss ps (os.take k) kws B)
  ⟨[],[],none,none,none,none,none,rfl,⟨BS,h31,(λp hp=>by cases hp),At,(λe he=>by cases he),λf hf=>(by have:=hf.2;rw[ul] at this;cases this),At,uJ _,h32,uJ _⟩,λi q _ hm=>by rw[ul] at hm;cases hm⟩ (λk σ H' _ iv=>?_) ?_ ?_
 ·obtain⟨kvs,kws,_,_,_,_,_,_,I,_⟩:=iv;exact .of (I.fr _ _ hDB)
 ·intro _ _;rintro k v σ H4 hk ⟨kvs,kws,o3,o4,o5,o6,o7,rfl,I,R⟩;obtain⟨p,q,rfl,hq,a,b1,b2,b3,hp,ha,hb1,hb2,hb3⟩:=hzB.2 k v hk;have hkl:=(pD.mp hk).1;have hp4:=I.fr _ _ hp;have hb24:=I.fr _ _ hb2;have hb34:=I.fr _ _ hb3;obtain⟨tl1,tl2,tl3⟩:=th_len (ss:=ss) q;have tl4:(thF ss q++enF ss q).length<=ss.length:=by
   refine We ?_ λx hx=>?_
   ·have n0:(onF ss q).Nodup:=(qY ss q).imp λh=>uF h;refine gL.mpr ⟨n0.filter _,n0.filter _,λx hx y hy z=>?_⟩;have h1:=of_decide_eq_true (uW.mp hx).2;have h2:=of_decide_eq_true (uW.mp hy).2;rw[z] at h1;exact h1.2 h2
   ·rcases pP.mp hx with hx|hx
    ·exact(wt.mp (uW.mp hx).1).1
    ·exact(wt.mp (uW.mp hx).1).1
  have nq:q∉os.take k:=λz=>by
   have:=(jZ pw hq).1 z;rw[yl] at this
   cases this
  have lyq:∀i,i<ss.length/\OnI ss q i->LyT ss ps q i:=λi hi=>by
   obtain⟨i0,h0⟩:=(ho q).mp (pS hq);exact TT.full hi.1 h0 hi.2
  simp! [hp4];refine yq ?_;simp! [yi,XD,rCat,hb24,hb34];refine⟨by rw[yL,yL];exact uq (small1000 (by lia)),λr1 hr1=>?_⟩
  rw[←vt];refine⟨(thF ss q++enF ss q).map λi:Nat=>(i:Int),by unfold zj;rw[UD];rfl,by rw[pL];lia,λD2 ms hD2 pm up=>?_⟩
  have ems:=ms_is TT pm up;subst ems;have lms:(mQ ss q).length<=45:=by
   have h1:(mQ ss q).length<=(onF ss q).length:=QP _ _;have:=Wz ss q;lia
  have I5:=I.same (ze hr1 (HO.lst (zj (thF ss q++enF ss q))));generalize upd H4 r1 (HO.lst (zj (thF ss q++enF ss q)))=H5 at*;have J:=I5.more (o:=HO.lst (((mQ ss q).map λi:Nat=>(i:Int)).map V.int)) hD2;have BS2:=ze (I5.fr.free hD2) (HO.lst (((mQ ss q).map λi:Nat=>(i:Int)).map V.int));have eD2:upd B D2 (HO.lst (((mQ ss q).map λi:Nat=>(i:Int)).map V.int)) D2=some (HO.lst (((mQ ss q).map λi:Nat=>(i:Int)).map V.int)):=upd_same;have B21:upd B D2 (HO.lst (((mQ ss q).map λi:Nat=>(i:Int)).map V.int)) d1=none:=by rw[zh (zN I5.own hD2)];exact Bd1
  generalize upd B D2 (HO.lst (((mQ ss q).map λi:Nat=>(i:Int)).map V.int))=B2 at*;generalize upd H5 D2 (HO.lst (((mQ ss q).map λi:Nat=>(i:Int)).map V.int))=H6 at*;refine⟨⟨_,.of (J.fr _ _ eD2)⟩,?_⟩;refine xC (K:=K) (a:=D2) (xs:=((mQ ss q).map λi:Nat=>(i:Int)).map V.int) (λj σ H'=>∃(kvs:List N3)(o7:Option V),σ=[some (.ref l),some (.ref d1),some (.ref d2),some (.ref a),some (.ref b1),some (.ref b2),some (.ref b3),o7]/\PX P w (xu ss ps (os.take k) q j) (LJ ss q j) B2 d1 d2 (300*k+2*j) kvs kws H') ⟨kvs,o7,rfl,J.congr (λf=>(mj_0 nq f).1) λf hf=>(mj_0 nq f).2 hf⟩ (λj σ H' _ iv=>by
   obtain⟨_,_,_,J'⟩:=iv;exact .of (J'.fr _ _ eD2)) ?_ ?_
  ·intro _ _;rintro j v σ H7 hj ⟨kv7,o8,rfl,I7⟩;rw[pQ,pQ] at hj;obtain⟨z,hz',rfl⟩:=Qh.mp hj;obtain⟨i,hji,rfl⟩:∃i,(mQ ss q)[j]?=some i/\((i:Nat):Int)=z:=Qh.mp hz';obtain⟨mi1,n1⟩:=jo.mp (pS hji);have lq:=lyq i mi1;have hjl:=(pD.mp hji).1;obtain⟨p',ap,⟨lp',pc⟩,hv,hap⟩:=zee TT pw ho hq lq n1 R;obtain⟨q1,q2,q3,q4⟩:=mj_step TT (dn:=os.take k) hji lp' pc;have hap7:=(hap.same BS2).same I7.fr;have ha7:=(ha.same BS2).same I7.fr;simp! [tNSd,xZ,rSDN];refine⟨⟨_,I7.own⟩,.ref ap,by rw[←hv];exact x5.k (k:=AD (i:Int)) I7.rea,λt ht c hc=>?_⟩
   have s1:=ze ht (HO.tup [V.ref ap,V.ref a]);have et:upd H7 t (HO.tup [V.ref ap,V.ref a]) t=some (HO.tup [V.ref ap,V.ref a]):=upd_same;generalize upd H7 t (HO.tup [V.ref ap,V.ref a])=H8 at*;have s2:=ze hc (HO.lst []);have ec:upd H8 c (HO.lst []) c=some (HO.lst []):=upd_same;have I8:=I7.same s1;have hcB:=I8.fr.free hc;have nw:∀e,e∈kv7->e.2.2≠.ref c:=λe he z=>by
    obtain⟨_,c',_,_,h3,_,h5⟩:=I8.key e he;rw[z] at h3
    cases h3;rw[hc] at h5
    cases h5
   have I9:=I8.same s2;have et9:=s2 _ _ et;generalize upd H8 c (HO.lst [])=H9 at*;have nk:NK H9 t [kQ p',kQ q]:=NK.two et9 ((s1.trans s2) _ _ hap7.1) ((s1.trans s2) _ _ ha7.1);have ln9:=I9.len;refine⟨kv7,I9.own,I9.kn,[kQ p',kQ q],nk,small10k (by lia),λv hv9=>?_,λhv9=>?_⟩
   ·obtain⟨e,he,e1',e2'⟩:=Vt hv9;obtain⟨f,c',h1,h2,h3,h4,h5⟩:=I9.key e he;have ef:f=(p',q):=key2 (h1.symm.trans e1');subst ef;rw[h3] at e2';subst e2';have l63:(LJ ss q j (p',q)).length<=45:=by
     unfold LJ;rw[if_pos rfl];refine uK (QP _ _) ?_;rw[pV];lia
    refine⟨xa h5,c',rfl,_,h5,by rw[yL];exact small1000 (by lia),kv7,((I9.app he h1 h3 h5 h4 i).congr (Mem':=xu ss ps (os.take k) q (j+1)) (L':=LJ ss q (j+1)) (λf=>?_) λf hf=>?_).le (by lia)⟩
    ·rw[q1 f];exact⟨.inl,λz=>z.elim id λz=>by rw[z];exact h2⟩
    ·by_cases z:f=(p',q)
     ·rw[if_pos z,z,q3]
     ·rw[if_neg z];exact q2 f z ((q1 f).mpr (.inl hf))
   ·have I10:=I9.put B21 (f:=(p',q)) hv9 nk ec hcB nw;have nc:c≠d1:=λz=>by
     have:=I9.own;rw[←z,ec] at this
     cases this
    have ec10:upd H9 d1 (nD P w d1 (yM kv7 [kQ p',kQ q] t (V.ref c))) c=some (HO.lst []):=by rw[zh nc];exact ec
    have em:([kQ p',kQ q],t,V.ref c)∈yM kv7 [kQ p',kQ q] t (V.ref c):=by
     unfold yM;rw[hv9];exact pI _ (pN.mpr rfl)
    have nm:¬xu ss ps (os.take k) q j (p',q):=λz=>by
     have:=YC.mpr (I9.all _ z);rw[hv9] at this
     cases this
    have I11:=I10.app em (f:=(p',q)) rfl rfl (by rw[if_pos rfl];exact ec10) hcB i
    rw[if_pos rfl] at I11;have I12:=I11.congr (Mem':=xu ss ps (os.take k) q (j+1)) (L':=LJ ss q (j+1)) (λf=>(q1 f).symm) λf hf=>?_
    ·exact⟨xa ec10,[],ec10,small10k (by decide),_,I12.le (by lia)⟩
    by_cases z:f=(p',q)
    ·rw[if_pos z,z,q3,q4 nm]
    ·rw[if_neg z,if_neg z];exact q2 f z ((q1 f).mpr hf)
  ·rintro σ H7 ⟨kv7,o8,rfl,I7⟩;rw[pL,pL] at I7;have et:os.take (k+1)=os.take k++[q]:=by rw[uP,hq];rfl
   have J7:=(I7.less BS2).congr (Mem':=λf=>Pce ss ps f/\f.2∈os.take (k+1)) (L':=zH ss) (λf=>by rw[et];exact(JL TT nq f).1) λf hf=>(JL TT nq f).2 hf
   have hb17:=J7.fr _ _ hb1;have hb27:=J7.fr _ _ hb2;simp! [];refine yq ?_;simp! [yi,rCat,hb17,hb27];refine⟨by rw[yL,yL];exact uq (small1000 (by lia)),λr2 hr2=>?_⟩
   rw[←vt];have J8:=J7.more (o:=HO.lst (zj (bgF ss q++thF ss q))) hr2;have BS3:=ze (J7.fr.free hr2) (HO.lst (zj (bgF ss q++thF ss q)));have eD3:upd B r2 (HO.lst (zj (bgF ss q++thF ss q))) r2=some (HO.lst (zj (bgF ss q++thF ss q))):=upd_same;have B32:upd B r2 (HO.lst (zj (bgF ss q++thF ss q))) d2=none:=by rw[zh (zN J7.rea hr2)];exact Bd2
   generalize upd B r2 (HO.lst (zj (bgF ss q++thF ss q)))=B3 at*;generalize upd H7 r2 (HO.lst (zj (bgF ss q++thF ss q)))=H8 at*;have la:(bgF ss q++thF ss q).length<=90:=by rw[pM];lia
   refine⟨⟨_,.of (J8.fr _ _ eD3)⟩,?_⟩;refine xC (K:=K) (a:=r2) (xs:=zj (bgF ss q++thF ss q)) (λj σ H'=>∃(kw':List (Key×V))(o7:Option V),σ=[some (.ref l),some (.ref d1),some (.ref d2),some (.ref a),some (.ref b1),some (.ref b2),some (.ref b3),o7]/\PX P w (λf=>Pce ss ps f/\f.2∈os.take (k+1)) (zH ss) B3 d1 d2 (300*k+100+j) kv7 kw' H'/\∀i:Nat,zw kw' (.inl (i:Int))=if i∈(bgF ss q++thF ss q).take j then some (.ref a) else zw kws (.inl (i:Int))) ⟨kws,o8,rfl,J8.le (by lia),λi=>by rw[ul,if_neg (λz=>by cases z)]⟩ (λj σ H' _ iv=>by
    obtain⟨_,_,_,J',_⟩:=iv;exact .of (J'.fr _ _ eD3)) ?_ ?_
   ·intro _ _;rintro j v σ H9 hj ⟨kw9,o9,rfl,I9,hv9⟩;obtain⟨i,hi,rfl⟩:=wX hj;have hjl:=(pD.mp hi).1;have kl9:=I9.kl;simp! [qv];refine⟨_,w6.k (k:=AD (i:Int)) I9.rea (small10k (by lia)),_,I9.rput B32 _ _,λi'=>?_⟩
    rw[vh,uP,hi,hv9 i']
    by_cases e:i'=i
    ·subst e;rw[if_pos rfl,if_pos (pI _ (by simp))]
    ·rw[if_neg (λz=>e (by cases z;rfl))]
     by_cases m:i'∈(bgF ss q++thF ss q).take j
     ·rw[if_pos m,if_pos (uD _ m)]
     ·rw[if_neg m,if_neg (λz=>by
       rcases pP.mp z with z|z
       ·exact m z
       ·exact e (by simpa using z))]
   ·rintro σ H9 ⟨kw9,o9,rfl,I9,hv9⟩;rw[yL] at I9 hv9;rw[Qu] at hv9;simp! []
    refine⟨kv7,kw9,(I9.less BS3).le (by lia),RIs.next TT pw hq ha (bt:=bgF ss q++thF ss q) (λi=>?_) hv9 R⟩
    unfold bgF thF;rw[pP,uW,uW,decide_eq_true_iff,decide_eq_true_iff,wt]
    constructor
    ·rintro(⟨h1,h2⟩|⟨h1,_,h2⟩)
     ·exact⟨lyq i h1,λz=>Zi TT h1.1 (h2.trans z.symm)⟩
     ·exact⟨lyq i h1,h2⟩
    ·rintro⟨h1,h2⟩;have h1':=TT.lies h1
     by_cases z:(ss.getD i zQ).1=q
     ·exact .inl ⟨⟨h1'.1,h1'.2.2⟩,z⟩
     ·exact .inr ⟨⟨h1'.1,h1'.2.2⟩,z,h2⟩
 ·rintro σ H4 ⟨kvs,kws,o3,o4,o5,o6,o7,rfl,I0,R⟩;have I:=I0.congr (Mem':=Pce ss ps) (L':=zH ss) (λf=>by
   rw[pz (Up hz.1.symm)];exact⟨λz=>z.1,λz=>⟨z,(ho _).mpr (by obtain⟨i,_,h2,_⟩:=z;exact⟨i,h2⟩)⟩⟩) λf _=>rfl
  simp! [];refine yT ?_;simp! [yi,Zk];refine⟨kvs,I.own,λL hL=>?_⟩;obtain⟨fs,ek,hfs⟩:=I.keys;have s1:=ze hL (HO.lst (kvs.map λp=>V.ref p.2.1));have eL:upd H4 L (HO.lst (kvs.map λp=>V.ref p.2.1)) L=some (HO.lst (kvs.map λp=>V.ref p.2.1)):=upd_same;have I5:=I.same s1;generalize upd H4 L (HO.lst (kvs.map λp=>V.ref p.2.1))=H5 at*;have lf:kvs.length=fs.length:=by have:=congrArg AZ ek;simpa using this
  have ndf:fs.Nodup:=by
   have:=I.nd;rw[ek] at this;exact(gM.mp this).imp λh z=>h (by rw[z])
  have hLR:LR S2H H5 (kvs.map λp=>V.ref p.2.1) fs:=by
   refine⟨by rw[pL,lf],λj v z=>?_⟩
   rw[pQ] at z;obtain⟨e,he,rfl⟩:=Qh.mp z;have hj:j<fs.length:=by rw[←lf];exact(pD.mp he).1
   have ej:=congrArg (λl=>l[j]?) ek;simp only[pQ,he,pG hj,QQ,UL] at ej;obtain⟨cs,h1,h2⟩:=I5.kn e (pS he);rw[ej] at h2
   cases h2 with
   |cons x1 h2=>cases h2 with
    |cons x2 h2=>cases h2 with
     |nil=>
      obtain⟨i,y1,y2,_⟩:=(hfs _).mp (AU hj);exact⟨_,fs[j],rfl,pG hj,_,_,h1,⟨x1,(TT.lies y1).2.1⟩,⟨x2,(TT.lies y2).2.1⟩⟩
  have lk:=I.len;have ltP5:=ltPB.same I5.fr;refine⟨L,_,fs,rfl,eL,by rw[pL];lia,hLR,ltP5,λD1 zs' fs' H6 hD1 st6 lt6 hD6 hz6 pm ord=>?_⟩
  have h61:H6 d1=some (nD P w d1 kvs):=st6 _ _ (ltP5.ne I5.own λ_ z=>nomatch z) I5.own;have kn6:KN H6 kvs:=I5.kn.ts λb xs h=>st6.tup ltP5 h;have lz':zs'.length<=900000:=by
   rw[hz6.1,pm.length_eq];lia
  have cv:∀f,f∈fs->yx kvs [kQ f.1,kQ f.2]=some (.ref (cOf kvs f))/\B (cOf kvs f)=none/\H5 (cOf kvs f)=some (.lst (zj (zH ss f)))/\∃e,e∈kvs/\e.1=[kQ f.1,kQ f.2]/\e.2.2=.ref (cOf kvs f):=λf hm=>by
   have hs':(yx kvs [kQ f.1,kQ f.2]).isSome=true:=YC.mpr (by rw[ek];exact uG.mpr ⟨f,hm,rfl⟩)
   obtain⟨u,hu⟩:=BD.mp hs';obtain⟨e,he,e1',e2'⟩:=Vt hu;obtain⟨f',c,h1,h2,h3,h4,h5⟩:=I5.key e he;have ef:f'=f:=key2 (h1.symm.trans e1');subst ef;have ec:cOf kvs f'=c:=by
    unfold cOf;rw[hu,←e2',h3]
   rw[ec];exact⟨by rw[hu,←e2',h3],h4,h5,e,he,e1',h3⟩
  refine⟨D1,rfl,⟨_,.of hD6⟩,λD' hD'=>?_⟩;refine xp (xs:=zs') (jz RwT (fs'.map λf=>(f,cOf kvs f)) H6 D') (V0 hD') (λi us H' q=>.of (q.1 _ _ hD6)) ?_ ?_
  ·rintro i us H7 v hi hv iv;obtain⟨g7,_,lu,_⟩:=id iv;obtain⟨b,f,rfl,hf,hbf⟩:=hz6.2 i v hv;have hb7:=y6 _ _ _ _ (zI g7) hbf;obtain⟨c1,c2,h1,h2,h3⟩:=id hb7;have hm:f∈fs:=pm.mem_iff.mp (pS hf);simp! [tNGet];refine⟨kvs,g7 _ _ h61,kn6.ts (zI g7),[kQ f.1,kQ f.2],NK.two (k:=kQ f.1) (l:=kQ f.2) h1 h2.1 h3.1,_,(cv f hm).1,λt ht=>?_⟩;have g8:=ze ht (HO.tup [V.ref b,V.ref (cOf kvs f)]);exact Ji rwt_ts hD' (by lia) iv hi (a:=(f,cOf kvs f)) (by rw[pQ,hf];rfl) g8 ⟨b,upd_same,y6 _ _ _ _ (zI g8) hb7⟩
  ·rintro us H7 ⟨g7,hD7,lu,hu⟩;rw[pz (by rw[pL];exact Up hz6.1.symm)] at hu
   have e1x:(fs'.map λf=>(f,cOf kvs f)).map (·.1)=fs':=by rw[UD];exact List.map_id' fs'
   have tabs:∀{b:Addr},(b=(ad 45)∨b=(ad 47)∨b=(ad 49))->H6 b≠none/\∀xs,H6 b≠some (.lst xs):=λ{b} hb=>by
    have lb:∃tp,H6 b=some (.tbl tp):=by
     rcases hb with rfl|rfl|rfl
     ·obtain⟨tp,h1,_⟩:=vN (ltBB.same I5.fr) ltP5 T.tne01 st6;exact⟨tp,h1⟩
     ·obtain⟨tp,h1,_⟩:=lt6;exact⟨tp,h1⟩
     ·obtain⟨tp,h1,_⟩:=vN (ltNB.same I5.fr) ltP5 T.tne12.symm st6;exact⟨tp,h1⟩
    obtain⟨tp,h1⟩:=lb;rw[h1];exact⟨(λz=>nomatch z),λxs z=>nomatch z⟩
   have hc6:∀f,f∈fs->H6 (cOf kvs f)=some (.lst (zj (zH ss f))):=λf hf=>st6.lst ltP5 (cv f hf).2.2.1;refine k D' us _ ps g H7 (λb o n1 n2 n3 h=>g7 _ _ (st6 _ _ n2 (I5.fr _ _ (BR h n1 n3)))) ((vN (ltBB.same I5.fr) ltP5 T.tne01 st6).same g7) (lt6.same g7) ((vN (ltNB.same I5.fr) ltP5 T.tne12.symm st6).same g7) hD7 (by lia) hu (λx hx=>?_) (by rw[e1x];exact ord ndf) (λf=>by rw[e1x,pm.mem_iff];exact hfs f) ?_ ?_ TT
   ·obtain⟨f,hf,rfl⟩:=uG.mp hx;have hm:f∈fs:=pm.mem_iff.mp hf;refine⟨g7 _ _ (hc6 f hm),?_,λz=>?_⟩
    ·cases e:H (cOf kvs f) with
     |none=>rfl
     |some o=>
      have n1:cOf kvs f≠(ad 45):=λz=>(tabs (.inl z)).2 _ (hc6 f hm);have n3:cOf kvs f≠(ad 49):=λz=>(tabs (.inr (.inr z))).2 _ (hc6 f hm);have:=BR e n1 n3;rw[(cv f hm).2.1] at this
      cases this
    ·have:=hc6 f hm;rw[show cOf kvs f=D' from z,hD'] at this
     cases this
   ·rw[UD];refine gM.mpr ((pm.nodup_iff.mpr ndf).imp_of_mem λ{f f'} hf hf' ne z=>ne ?_);obtain⟨_,_,_,e,he,e1',e2'⟩:=cv f (pm.mem_iff.mp hf);obtain⟨_,_,_,e',he',e3',e4'⟩:=cv f' (pm.mem_iff.mp hf');have z:cOf kvs f=cOf kvs f':=z;have:=qK I.cnd he he' (by rw[e2',e4',z])
    subst this;exact key2 (e1'.symm.trans e3')
   ·cases e:H D' with
    |none=>rfl
    |some o=>
     by_cases n:D'=(ad 45)∨D'=(ad 47)∨D'=(ad 49)
     ·exact absurd hD' (tabs n).1
     ·have:=st6 _ _ (λz=>n (.inr (.inl z))) (I5.fr _ _ (BR e (λz=>n (.inl z)) (λz=>n (.inr (.inr z)))));rw[hD'] at this
      cases this
theorem za7{S:Q3->Prop}(hS:∀r,S r->PQ 700 r):∀{L:List Q3},(∃p,p∈L/\S p)->∃p,S p/\∀r,r∈L->S r->bq p r=false
 |[],⟨p,h,_⟩=>by cases h
 |x::L,⟨p,h,hp⟩=>by
  by_cases e:∃p,p∈L/\S p
  ·obtain⟨m,h1,h2⟩:=za7 hS e
   by_cases sx:S x
   ·by_cases c:bq m x=true
    ·refine⟨x,sx,λr hr sr=>?_⟩;rcases pR.mp hr with z|z
     ·rw[z];exact yl _
     ·exact Uq.mpr λy=>by have:=v4 (hS _ h1) (hS _ sx) (hS _ sr) c y;rw[h2 r z sr] at this;cases this
    ·refine⟨m,h1,λr hr sr=>?_⟩;rcases pR.mp hr with z|z
     ·rw[z];exact Uq.mpr c
     ·exact h2 r z sr
   ·refine⟨m,h1,λr hr sr=>?_⟩;rcases pR.mp hr with z|z
    ·rw[z] at sr;exact absurd sr sx
    ·exact h2 r z sr
  ·rcases pR.mp h with z|z
   ·subst z;refine⟨p,hp,λr hr sr=>?_⟩;rcases pR.mp hr with z|z
    ·rw[z];exact yl _
    ·exact absurd ⟨r,z,sr⟩ e
   ·exact absurd ⟨p,z,hp⟩ e
variable{f:Q3×Q3}
section
variable{ss:List (Q3×Q3)}{ps:List (Nat×Nat)}{g:Int}
def zM.up(T:zM ss ps g)(hi:i<ss.length):PQ 700 (ss.getD i zQ).1/\PQ 700 (ss.getD i zQ).2/\bq (ss.getD i zQ).1 (ss.getD i zQ).2=true:=by
 obtain⟨a,b,c⟩:=T.ok _ (yn hi);exact⟨Pt.mono a (by decide),Pt.mono b (by decide),c⟩
def ly_1(hi:i<ss.length):LyT ss ps (ss.getD i zQ).1 i:=.inl (xL.mpr ⟨hi,.inl rfl⟩)
def ly_2(hi:i<ss.length):LyT ss ps (ss.getD i zQ).2 i:=.inl (xL.mpr ⟨hi,.inr rfl⟩)
def zM.prev(T:zM ss ps g)(h:LyT ss ps q i)(ne:q≠(ss.getD i zQ).1):∃p,Pce ss ps (p,q)/\OnI ss p i:=by
 obtain⟨hi,hq,oq⟩:=T.lies h;obtain⟨u1,u2,u3⟩:=T.up hi;have l1:bq (ss.getD i zQ).1 q=true:=Uu λz=>ne (xz hq u1 (by rw[(zV oq).2.1];decide) z)
 obtain⟨p,⟨h1,h2⟩,h3⟩:=za7 (S:=λp=>LyT ss ps p i/\bq p q=true) (λr hr=>(T.lies hr.1).2.1) (L:=stL ss ps) ⟨_,T.inL (ly_1 hi),ly_1 hi,l1⟩;refine⟨p,⟨i,h1,h,h2,λr hr a b=>?_⟩,(T.lies h1).2.2⟩;have:=h3 r (T.inL hr) ⟨hr,b⟩;rw[a] at this
 cases this
def zb5(T:zM ss ps g)(h:Pce ss ps f)(h':Pce ss ps f')(e:f.1=f'.1)(hi:i<ss.length)(o:OnI ss f.1 i)(o2:OnI ss f.2 i)(o2':OnI ss f'.2 i):f=f':=by
 obtain⟨a1,a2,a3⟩:=h.nb T hi o o2;obtain⟨b1,b2,b3⟩:=h'.nb T hi (by rw[←e];exact o) o2'
 obtain⟨_,_,_,l1,_⟩:=h;obtain⟨_,_,_,l2,_⟩:=h';refine Br e (xz (T.lies a2).2.1 (T.lies b2).2.1 (λz=>?_) λz=>?_)
 ·exact b3 _ a2 (by rw[←e];exact l1) z
 ·exact a3 _ b2 (by rw[e];exact l2) z
def Pce.lt(h:Pce ss ps f):bq f.1 f.2=true:=by
 obtain⟨_,_,_,l,_⟩:=h;exact l
noncomputable def spo(ss:List (Q3×Q3))(i:Nat)(fs:List (Q3×Q3)):Q3:=fs.foldl (λt f=>if i∈zH ss f then f.2 else t) (ss.getD i zQ).1
def Wm(i:Nat)(fs:List (Q3×Q3))(f:Q3×Q3):spo ss i (fs++[f])=if i∈zH ss f then f.2 else spo ss i fs:=by
 unfold spo;rw[List.foldl_append];rfl
def Yk(ss:List (Q3×Q3))(i:Nat)(fs:List (Q3×Q3)):Prop:=((∀f,f∈fs->¬i∈zH ss f)/\spo ss i fs=(ss.getD i zQ).1)∨∃h,h∈fs/\i∈zH ss h/\spo ss i fs=h.2/\∀f,f∈fs->i∈zH ss f->f=h∨LtF f h
def zb4{fs:List (Q3×Q3)}(L:Yk ss i fs)(pw:(fs++[f]).Pairwise LtF):Yk ss i (fs++[f]):=by
 have lt:∀x,x∈fs->LtF x f:=λx hx=>(List.pairwise_append.mp pw).2.2 x hx f (pN.mpr rfl);unfold Yk;rw[Wm]
 by_cases c:i∈zH ss f
 ·rw[if_pos c];refine .inr ⟨f,by simp,c,rfl,λx hx _=>?_⟩
  rcases pP.mp hx with z|z
  ·exact .inr (lt x z)
  ·exact .inl (pN.mp z)
 ·rw[if_neg c];rcases L with⟨a,b⟩|⟨h,a1,a2,a3,a4⟩
  ·refine .inl ⟨λx hx=>?_,b⟩;rcases pP.mp hx with z|z
   ·exact a x z
   ·rw[pN.mp z];exact c
  ·refine .inr ⟨h,uD _ a1,a2,a3,λx hx y=>?_⟩;rcases pP.mp hx with z|z
   ·exact a4 x z y
   ·rw[pN.mp z] at y;exact absurd y c
theorem qQ{i:Nat}{fs:List (Q3×Q3)}(pw:fs.Pairwise LtF):∀{j:Nat},j<=fs.length->Yk ss i (fs.take j)
 |0,_=>.inl ⟨λf h=>(by rw[ul] at h;cases h),rfl⟩
 |j+1,h=>by
  have e:fs.take (j+1)=fs.take j++[fs[j]]:=by rw[uP,pG h];rfl
  rw[e];exact zb4 (qQ pw (uq h)) (by rw[←e];exact pw.sublist (Bl _ _))
section
variable{fs:List (Q3×Q3)}(qT:zM ss ps g)(pw:fs.Pairwise LtF)(mem:∀f,f∈fs↔Pce ss ps f)
include qT mem
theorem jH{h:Q3×Q3}(hf:f∈fs)(hh:h∈fs)(of:i∈zH ss f)(oh:i∈zH ss h)(ne:f≠h)(l:LtF f h):bq f.1 h.1=true:=by
 obtain⟨hi,a1,a2⟩:=wf.mp of;obtain⟨_,b1,b2⟩:=wf.mp oh;rcases l with l|⟨l,_⟩
 ·exact l
 ·exact absurd (zb5 qT ((mem f).mp hf) ((mem h).mp hh) l hi a1 a2 b2) ne
include pw
theorem zci(hj:fs[j]?=some f)(of:i∈zH ss f):f.1=spo ss i (fs.take j):=by
 obtain⟨hl,e⟩:=pD.mp hj;have hf:f∈fs:=pS hj;obtain⟨hi,a1,a2⟩:=wf.mp of;have pf:=(mem f).mp hf;obtain⟨n1,n2,n3⟩:=pf.nb qT hi a1 a2;have bef:∀x,x∈fs.take j->LtF x f:=λx hx=>by
  obtain⟨k,hk⟩:=uY.mp hx;have kj:k<j:=po (pD.mp hk).1 (by rw[pV];exact Cd _ _)
  rw[BE kj] at hk;obtain⟨hk1,ek⟩:=pD.mp hk;have:=Qx.mp pw k j hk1 hl kj;rw[ek,e] at this;exact this
 have sub:∀x,x∈fs.take j->x∈fs:=λx hx=>Uj hx;have irr:∀{x:Q3×Q3},¬LtF x x:=λ{x} z=>by
  rcases z with z|⟨_,z⟩
  ·rw[yl] at z;cases z
  ·rw[yl] at z;cases z
 have nej:∀x,x∈fs.take j->x≠f:=λx hx z=>irr (z▸bef x hx);obtain⟨u1,_,_⟩:=qT.up hi
 by_cases c:f.1=(ss.getD i zQ).1
 ·rcases qQ (i:=i) (ss:=ss) pw (uq hl) with⟨_,b⟩|⟨h,h1,h2,_,_⟩
  ·rw[b];exact c
  ·have:=jH qT mem (sub h h1) hf h2 of (nej h h1) (bef h h1);rw[c,(zV (wf.mp h2).2.1).2.1] at this
   cases this
 ·obtain⟨p,pc,op⟩:=qT.prev n1 c;have gf:(p,f.1)∈fs:=(mem _).mpr pc;have og:i∈zH ss (p,f.1):=wf.mpr ⟨hi,op,a1⟩;have gl:LtF (p,f.1) f:=.inl pc.lt;have npf:p≠f.1:=λy=>by have l:bq p f.1=true:=pc.lt;rw[←y,yl] at l;cases l
  have gj:(p,f.1)∈fs.take j:=by
   obtain⟨k,hk⟩:=uY.mp gf;obtain⟨hk1,ek⟩:=pD.mp hk;rcases EI k j with z|z
   ·exact List.mem_iff_getElem?.mpr ⟨k,by rw[BE z];exact hk⟩
   ·rcases gc z with z|z
    ·have:=Qx.mp pw j k hl hk1 z;rw[ek,e] at this;have q:=jH qT mem hf gf of og (λy=>npf (congrArg UG y).symm) this;rw[yH pc.lt] at q
     cases q
    ·subst z;rw[hk] at hj;exact absurd (congrArg UG (uN hj)) npf
  rcases qQ (i:=i) (ss:=ss) pw (uq hl) with⟨b,_⟩|⟨h,h1,h2,h3,h4⟩
  ·exact absurd og (b _ gj)
  ·rw[h3];rcases h4 _ gj og with z|z
   ·rw[←z]
   ·exfalso
    by_cases eh:(p,f.1)=h
    ·exact irr (eh▸z)
    ·have x1:=jH qT mem gf (sub h h1) og h2 eh z;have x2:=jH qT mem (sub h h1) hf h2 of (nej h h1) (bef h h1);obtain⟨_,b1,b2⟩:=wf.mp h2;obtain⟨m1,_,_⟩:=((mem h).mp (sub h h1)).nb qT hi b1 b2;obtain⟨_,_,k3⟩:=pc.nb qT hi op a1;exact k3 _ m1 x1 x2
theorem spo_end(hi:i<ss.length):spo ss i fs=(ss.getD i zQ).2:=by
 obtain⟨u1,u2,u3⟩:=qT.up hi;obtain⟨p,pc,op⟩:=qT.prev (ly_2 (ps:=ps) hi) (λz=>by rw[z,yl] at u3;cases u3)
 have gf:(p,(ss.getD i zQ).2)∈fs:=(mem _).mpr pc;have og:i∈zH ss (p,(ss.getD i zQ).2):=wf.mpr ⟨hi,op,(qT.lies (ly_2 (ps:=ps) hi)).2.2⟩;have L:=qQ (i:=i) (ss:=ss) pw (pJ fs.length);rw[Qu] at L;rcases L with⟨b,_⟩|⟨h,h1,h2,h3,h4⟩
 ·exact absurd og (b _ gf)
 ·rw[h3];rcases h4 _ gf og with z|z
  ·rw[←z]
  ·by_cases eh:(p,(ss.getD i zQ).2)=h
   ·rw[←eh]
   ·exfalso
    have x1:=jH qT mem gf h1 og h2 eh z;obtain⟨_,b1,b2⟩:=wf.mp h2;have ph:=(mem h).mp h1;obtain⟨m1,m2,_⟩:=ph.nb qT hi b1 b2;obtain⟨_,_,k3⟩:=pc.nb qT hi op (wf.mp og).2.2;refine k3 _ m1 x1 ?_
    by_cases c:h.2=(ss.getD i zQ).2
    ·rw[←c];exact ph.lt
    ·exact v4 (qT.lies m1).2.1 (qT.lies m2).2.1 u2 ph.lt (Uu λy=>c (xz (qT.lies m2).2.1 u2 y (by rw[(zV b2).2.2];decide)))
end
end
def zM.lift{ss ss':List (Q3×Q3)}{ps ps':List (Nat×Nat)}{g g':Int}(T:zM ss ps g)(T':zM ss' ps' g')(φ:Nat->Nat)(hφ:∀i,i<ss'.length->φ i<ss.length/\ss.getD (φ i) zQ=ss'.getD i zQ){q:Q3}{i:Nat}(h:LyT ss' ps' q i):∃j,LyT ss ps q j:=by
 have hq:=(T'.lies h).2.1;rcases h with h|⟨x,hx,hxi,hs⟩
 ·obtain⟨hi,z⟩:=xL.mp h;obtain⟨h1,h2⟩:=hφ i hi;exact⟨φ i,.inl (xL.mpr ⟨h1,by rw[h2];exact z⟩)⟩
 ·obtain⟨l1,l2⟩:=T'.lt x hx;obtain⟨_,_,n1⟩:=T'.lies (.inr ⟨x,hx,.inl rfl,hs⟩:LyT ss' ps' q x.1);obtain⟨_,_,n2⟩:=T'.lies (.inr ⟨x,hx,.inr rfl,hs⟩:LyT ss' ps' q x.2);obtain⟨o1,o2,o3⟩:=T'.ok _ (yn l1);obtain⟨r1,r2,r3⟩:=T'.ok _ (yn l2);obtain⟨a1,a2⟩:=hφ x.1 l1;obtain⟨b1,b2⟩:=hφ x.2 l2
  by_cases c:CrI ss' x.1 x.2=0
  ·have de:=jj (ss'.getD x.2 zQ).1 (ss'.getD x.2 zQ).2;rcases JP o1 o2 r1 r2 o3 r3 (ve hq.pos r3 c (zV n1).1 (zV n2).1 de.1) (ve hq.pos r3 c (zV n1).1 (zV n2).1 de.2) hs with z|z
   ·exact⟨φ x.1,.inl (xL.mpr ⟨a1,by rw[a2];exact z⟩)⟩
   ·exact⟨φ x.2,.inl (xL.mpr ⟨b1,by rw[b2];exact z⟩)⟩
  ·exact⟨φ x.1,T.cross (pJ _) a1 b1 hq (by unfold OnI;rw[a2];exact n1) (by unfold OnI;rw[b2];exact n2) (by unfold CrI;rw[a2,b2];exact c)⟩
section
variable{ss ss':List (Q3×Q3)}{ps ps':List (Nat×Nat)}{g g':Int}
def zM.liftI(T:zM ss ps g)(T':zM ss' ps' g')(φ:Nat->Nat)(hφ:∀i,i<ss'.length->φ i<ss.length/\ss.getD (φ i) zQ=ss'.getD i zQ){q:Q3}{i:Nat}(h:LyT ss' ps' q i):LyT ss ps q (φ i):=by
 obtain⟨j,hj⟩:=T.lift T' φ hφ h;obtain⟨hi,_,o⟩:=T'.lies h;obtain⟨h1,h2⟩:=hφ i hi;exact T.full h1 hj (by unfold OnI;rw[h2];exact o)
def zbe(T:zM ss ps g)(T':zM ss ps' g')(f:Q3×Q3):Pce ss ps f↔Pce ss ps' f:=by
 have a:∀{q:Q3}{i:Nat},LyT ss ps q i↔LyT ss ps' q i:=⟨λh=>T'.liftI T id (λi hi=>⟨hi,rfl⟩) h,λh=>T.liftI T' id (λi hi=>⟨hi,rfl⟩) h⟩;unfold Pce
 constructor
 ·rintro⟨i,h1,h2,h3,h4⟩;exact⟨i,a.mp h1,a.mp h2,h3,λr hr=>h4 r (a.mpr hr)⟩
 ·rintro⟨i,h1,h2,h3,h4⟩;exact⟨i,a.mpr h1,a.mpr h2,h3,λr hr=>h4 r (a.mp hr)⟩
def W0{x:Q3×Q3}(z:LtF x x):False:=by
 rcases z with z|⟨_,z⟩
 ·rw[yl] at z;cases z
 ·rw[yl] at z;cases z
def zf2{x y:Q3×Q3}(z:LtF x y)(z':LtF y x):False:=by
 rcases z with z|⟨e,z⟩
 ·rcases z' with z'|⟨e',_⟩
  ·rw[yH z] at z';cases z'
  ·rw[e',yl] at z;cases z
 ·rcases z' with z'|⟨_,z'⟩
  ·rw[e,yl] at z';cases z'
  ·rw[yH z] at z';cases z'
theorem Va:∀{a b:List (Q3×Q3)},a.Pairwise LtF->b.Pairwise LtF->(∀x,x∈a↔x∈b)->a=b
 |[],[],_,_,_=>rfl
 |[],y::b,_,_,h=>absurd ((h y).mpr pX) (by simp)
 |x::a,[],_,_,h=>absurd ((h x).mp pX) (by simp)
 |x::a,y::b,ha,hb,h=>by
  obtain⟨a1,a2⟩:=UP.mp ha;obtain⟨b1,b2⟩:=UP.mp hb;have e:x=y:=by
   rcases pR.mp ((h x).mp pX) with z|z
   ·exact z
   ·rcases pR.mp ((h y).mpr pX) with z'|z'
    ·exact z'.symm
    ·exact(zf2 (a1 y z') (b1 x z)).elim
  subst e;rw[Va a2 b2 λz=>?_]
  constructor
  ·intro hz;rcases pR.mp ((h z).mp (pY _ hz)) with q|q
   ·exact(W0 (q▸a1 z hz)).elim
   ·exact q
  ·intro hz;rcases pR.mp ((h z).mpr (pY _ hz)) with q|q
   ·exact(W0 (q▸b1 z hz)).elim
   ·exact q
theorem Jx{α β:Type}{R:α->β->Prop}:∀{l':List α}{l:List β},l'.Nodup->(∀a,a∈l'->∃b,b∈l/\R a b)->(∀a a' b,a∈l'->a'∈l'->R a b->R a' b->a=a')->l'.length<=l.length
 |[],_,_,_,_=>uJ _
 |a::l',l,nd,ex,inj=>by
  obtain⟨n1,n2⟩:=Ub.mp nd;obtain⟨b,hb,rb⟩:=ex a pX;obtain⟨s,t,rfl⟩:=List.append_of_mem hb;have:=Jx (R:=R) (l:=s++t) n2 (λc hc=>by
   obtain⟨d,hd,rd⟩:=ex c (pY _ hc);rcases pP.mp hd with z|z
   ·exact⟨d,uD _ z,rd⟩
   ·rcases pR.mp z with z|z
    ·subst z;exact absurd (inj a c d pX (pY _ hc) rb rd▸hc) n1
    ·exact⟨d,pI _ z,rd⟩) λc c' d hc hc'=>inj c c' d (pY _ hc) (pY _ hc')
  simp only[pM,uZ] at this⊢;lia
def pce_few(T:zM ss ps g)(T':zM ss' ps' g')(φ:Nat->Nat)(hφ:∀i,i<ss'.length->φ i<ss.length/\ss.getD (φ i) zQ=ss'.getD i zQ){fs fs':List (Q3×Q3)}(mem:∀f,f∈fs↔Pce ss ps f)(mem':∀f,f∈fs'↔Pce ss' ps' f)(nd:fs'.Nodup):fs'.length<=fs.length:=by
 have on':∀{q:Q3}{i:Nat},i<ss'.length->(OnI ss q (φ i)↔OnI ss' q i):=λ{q i} hi=>by unfold OnI;rw[(hφ i hi).2]
 refine Jx (R:=λf' f=>f.2=f'.2/\∃i,i<ss'.length/\OnI ss' f'.1 i/\OnI ss' f'.2 i/\OnI ss' f.1 i/\Pce ss ps f) nd (λf' hf'=>?_) λf1 f2 f h1 h2 r1 r2=>?_
 ·obtain⟨i,l1,l2,l3,l4⟩:=(mem' f').mp hf';obtain⟨hi,_,o1⟩:=T'.lies l1;obtain⟨_,q2,o2⟩:=T'.lies l2;obtain⟨u1,_,_⟩:=T'.up hi;have ne:f'.2≠(ss.getD (φ i) zQ).1:=λz=>by
   rw[(hφ i hi).2] at z;have:=(zV o1).2.1;rw[←z,l3] at this
   cases this
  obtain⟨p,pc,op⟩:=T.prev (T.liftI T' φ hφ l2) ne;exact⟨(p,f'.2),(mem _).mpr pc,rfl,i,hi,o1,o2,(on' hi).mp op,pc⟩
 ·obtain⟨e1,i,hi,a1,a2,a3,pf⟩:=r1;obtain⟨e2,j,hj,b1,b2,b3,_⟩:=r2;have p1:=(mem' f1).mp h1;have p2:=(mem' f2).mp h2;have e:f1.2=f2.2:=e1.symm.trans e2;obtain⟨m1,m2,_⟩:=p1.nb T' hi a1 a2;obtain⟨n1,n2,_⟩:=p2.nb T' hj b1 b2;obtain⟨_,_,f3⟩:=pf.nb T (hφ i hi).1 ((on' hi).mpr a3) ((on' hi).mpr (by rw[e1];exact a2))
  obtain⟨_,_,g3⟩:=pf.nb T (hφ j hj).1 ((on' hj).mpr b3) ((on' hj).mpr (by rw[e2];exact b2))
  obtain⟨_,q1,_⟩:=T'.lies m1;obtain⟨_,q2,_⟩:=T'.lies n1;obtain⟨_,qq,_⟩:=T'.lies m2;obtain⟨x1,x2,x3⟩:=T'.up hi;obtain⟨y1,y2,y3⟩:=T'.up hj;have c1:dt f.1 f.2 f1.1=0:=col3 x3 (zV a3).1 (by rw[e1];exact(zV a2).1) (zV a1).1
  have c2:dt f.1 f.2 f2.1=0:=col3 y3 (zV b3).1 (by rw[e2];exact(zV b2).1) (zV b1).1
  have cc:dt f.1 f.2 f.2=0:=(jj f.1 f.2).2
  by_cases z1:bq f1.1 f2.1=true
  ·have o:OnI ss' f2.1 i:=Wg x1 x2 q1 qq q2 p1.lt a1 a2 (by have:=col3 pf.lt c1 cc c2;rw[e1] at this;exact this) (yH z1) (by rw[e];exact yH p2.lt)
   exact YL T' p1 p2 e hi a1 o a2
  ·by_cases z2:bq f2.1 f1.1=true
   ·have o:OnI ss' f1.1 j:=Wg y1 y2 q2 (by rw[←e];exact qq) q1 p2.lt b1 b2 (by have:=col3 pf.lt c2 cc c1;rw[e2] at this;exact this) (yH z2) (by rw[←e];exact yH p1.lt)
    exact YL T' p1 p2 e hj o b1 (by rw[e];exact b2)
   ·exact Br (xz q1 q2 z1 z2) e
end
def qD(T:Txt K mg ad fd):zx P w K mg base CX0 1 (ad 22) (fd 22) ["_law_found"] je:=by
 refine T.law_whole.fn.ok zcu (λvs H Q E h=>?_) (λcdv A outer s H vs Q E hr h=>?_)
 ·obtain⟨i,rfl,_⟩:=h;rfl
 obtain⟨i,rfl,q⟩:=h;refine⟨_,
  (zq (zo (qm (ye (wv Z0) rfl T.b_isinstance wG (pa2 (pv 0) zd (wK (v:=.ty "int") rfl T.b_int Vq rfl) zd)) (qR (Yo (ye (wv Zg) rfl T.b_isinstance wG (pa2 (pv 0) zd (wK (v:=.ty "bool") rfl T.b_bool JW rfl) zd)))))))
  ,?_⟩
 dsimp! [L2.start]
 simp! [];exact q
theorem VN(T:Txt K mg ad fd):zx P w K mg base CX0 2 (ad 30) (fd 30) ["_law_found"] zea:=by
 refine T.law_is_point.fn.ok zbs (λvs H Q E h=>?_) (λcdv A outer s H vs Q E hr h=>?_)
 ·obtain⟨p,x,y,w,rfl,_⟩:=h;rfl
 obtain⟨p,x,y,w,rfl,hp,hw,h1,q⟩:=h;refine⟨_,
  (pss3
   (zK (PW.pt (xj (xb (yE (ye (wv YO) rfl T.b_isinstance wG (pa2 (pv 0) zd (wK (v:=.ty "tuple") rfl T.b_tuple WZ rfl) zd)))) (wx (zF wR (ye xy rfl T.b_len xi (pa1 (pv 0) zd)) za (nomark _))))) (zq (zo xf)) zL)
   (zK (PW.pt (xj (xb (yE (zt (qD T) T.law_whole hr (pa1 (zb zc (pv 0) za) zr)))) (xj (xb (yE (zt (qD T) T.law_whole hr (pa1 (zb zc (pv 0) za) zr)))) (xj (xb (yE (zt (qD T) T.law_whole hr (pa1 (zb zc (pv 0) za) zr)))) (wx (zF wI (zb zc (pv 0) za) za (nomark _))))))) (zq (zo xf)) zL)
   (zo (wa yQ (zt (Ys T) T.law_divisor hr (pa2 (zt (Ys T) T.law_divisor hr (pa2 (zb zc (pv 0) za) zr (zb zc (pv 0) za) zr)) zZ (zb zc (pv 0) za) zr)) za (nomark _))))
  ,?_⟩
 dsimp! [L2.start]
 have ht:=X7 hp;simp! [je,jT,hp,ht];refine iteNS rfl (ite2 (λc=>absurd (of_decide_eq_true c) (by lia)) λ_=>?_)
 rw[G3,h1];exact q
def zd9(T:Txt K mg ad fd):zx P w K mg base CX0 1 (ad 28) (fd 28) ["_law_a","_law_b","_law_c"] zdz:=by
 refine T.law_turn.fn.ok Yi (λvs H Q E h=>?_) (λcdv A outer s H vs Q E hr h=>?_)
 ·obtain⟨p,q,r,x1,y1,w1,x2,y2,w2,x3,y3,w3,rfl,_⟩:=h;rfl
 obtain⟨p,q,r,x1,y1,w1,x2,y2,w2,x3,y3,w3,rfl,hp,hq,hr',k⟩:=h;refine⟨_,
  (pss4
   (zu 3 Yi.nd (zf zy (zb zc (pv 0) za) (zf yh (zf zy (zb zc (pv 1) za) (zb zc (pv 2) za)) (zf zy (zb zc (pv 2) za) (zb zc (pv 1) za)))))
   (zu 3 Yi.nd (zf yh (pv 3) (zf zy (zb zc (pv 0) za) (zf yh (zf zy (zb zc (pv 1) za) (zb zc (pv 2) za)) (zf zy (zb zc (pv 2) za) (zb zc (pv 1) za))))))
   (zu 3 Yi.nd (zf zO (pv 3) (zf zy (zb zc (pv 0) za) (zf yh (zf zy (zb zc (pv 1) za) (zb zc (pv 2) za)) (zf zy (zb zc (pv 2) za) (zb zc (pv 1) za))))))
   (zo (zf zbc (wa jm (pv 3) za (nomark _)) (wa wI (pv 3) za (nomark _)))))
  ,?_⟩
 dsimp! [L2.start]
 simp! [hp.1,hq.1,hr'.1,zbf,PyProof.Rows.b2i,decide_eq_true_eq];have c1:(y2*w3-y3*w2).natAbs<2^(6000+1):=xm (zS hq.2.2.1 hr'.2.2.2) (zS hr'.2.2.1 hq.2.2.2);have c2:(x2*w3-x3*w2).natAbs<2^(6000+1):=xm (zS hq.2.1 hr'.2.2.2) (zS hr'.2.1 hq.2.2.2);have c3:(x2*y3-x3*y2).natAbs<2^(6000+1):=xm (zS hq.2.1 hr'.2.2.1) (zS hr'.2.1 hq.2.2.1);refine⟨cbig hq.2.2.1 hr'.2.2.2,cbig hr'.2.2.1 hq.2.2.2,cbig hp.2.1 c1,cbig hq.2.1 hr'.2.2.2,cbig hr'.2.1 hq.2.2.2,cbig hp.2.2.1 c2,cbig hq.2.1 hr'.2.2.1,cbig hr'.2.1 hq.2.2.1,cbig hp.2.2.2 c3,?_⟩;rw[zap];exact k
def Jc(T:Txt K mg ad fd):zx P w K mg base CX0 2 (ad 29) (fd 29) ["_law_spot","_law_part_here"] Vl:=by
 refine T.law_on.fn.ok zcg (λvs H Q E h=>?_) (λcdv A outer s H vs Q E hr h=>?_)
 ·obtain⟨p,s,a,b,x1,y1,w1,x2,y2,w2,x3,y3,w3,rfl,_⟩:=h;rfl
 obtain⟨p,s,a,b,x1,y1,w1,x2,y2,w2,x3,y3,w3,rfl,hs,ha,hb,hp,k⟩:=h;refine⟨_,
  (pss2
   (zK (zF wR (zt (zd9 T) T.law_turn hr (pa3 (zb zc (pv 1) za) zr (zb zc (pv 1) za) zr (pv 0) zd)) za (nomark _)) (zq (zo xf)) zL)
   (zo (qm (Yo (zt (vZ T) T.law_before hr (pa2 (pv 0) zd (zb zc (pv 1) za) zr))) (qR (Yo (zt (vZ T) T.law_before hr (pa2 (zb zc (pv 1) za) zr (pv 0) zd)))))))
  ,?_⟩
 dsimp! [L2.start]
 simp! [hs];unfold onB at k;refine⟨a,b,p,_,_,_,_,_,_,_,_,_,rfl,ha,hb,hp.mono,rfl,?_⟩;have hs1:=hs;have z:=k;have hp1:=hp;have ha1:=ha;have hb1:=hb;simp! [hs1];refine ite2 (λc=>?_) (λc=>?_)
 ·have c':¬sgn (det3 x1 y1 w1 x2 y2 w2 x3 y3 w3)=0:=by simpa using c
  rw[if_neg c'] at z;exact z
 ·have c':sgn (det3 x1 y1 w1 x2 y2 w2 x3 y3 w3)=0:=by simpa using c
  rw[if_pos c'] at z;refine⟨p,a,_,_,_,_,_,_,rfl,hp1,ha1,_,rfl,ite2 (λc2=>?_) λc2=>?_⟩
  ·have c2':bef x3 y3 w3 x1 y1 w1=false:=by simpa using c2
   simp! [hs1];refine⟨b,p,_,_,_,_,_,_,rfl,hb1,hp1,_,rfl,?_⟩;rw[c2',Bu,Dh] at z;exact z
  ·have c2':bef x3 y3 w3 x1 y1 w1=true:=by simpa using c2
   rw[c2',Uz,Go] at z;exact z
noncomputable def dN(ns:List Nat):List Da:=ns.map λk:Nat=>.int (k:Int)
theorem rd_ns{K:pF}{H:Hp}:∀ns:List Nat,ya K H (dN ns) (zj ns)
 |[]=>by rw[dN,Ux,ya];rfl
 |k::ns=>by
  rw[dN,pj,ya];exact⟨_,_,rfl,by rw[RdD],rd_ns ns⟩
variable{l:Addr}
def w9{K:pF}{H:Hp}{ns:List Nat}(h:H l=some (.lst (zj ns))):RdD K H (.list (dN ns)) (.ref l):=by
 rw[RdD];exact⟨l,_,rfl,.of h,rd_ns ns⟩
theorem jw:∀ns:List Nat,uX (dN ns)=true/\uz (dN ns)<=1/\uk (dN ns) (dN ns)=true
 |[]=>by simp[dN,uX,uz,uk]
 |k::ns=>by
  obtain⟨h1,h2,h3⟩:=jw ns;unfold dN at*;rw[pj];refine⟨?_,?_,?_⟩
  ·simp[uX,Qs,h1]
  ·simp only[uz,Qp];lia
  ·simp[uk,uj,h3]
theorem vM(ns:List Nat):UB (.list (dN ns))=true:=by
 obtain⟨h1,h2,_⟩:=jw ns;unfold UB;rw[Qs,h1,Dh,Qp];exact decide_eq_true (by lia)
def Ye(ns:List Nat):uj (.list (dN ns)) (.list (dN ns))=true:=by
 rw[uj];exact(jw ns).2.2
theorem nl_nil(ns:List Nat):uj (.list (dN ns)) (.list (dN []))=decide (ns=[]):=by
 cases ns with
 |nil=>rw[Ye];rfl
 |cons k ns=>
  rw[decide_eq_false (λz=>by cases z),uj]
  simp[dN,uk]
def zbn(T:Txt K mg ad fd):zx P w K mg base CX0 3 (ad 31) (fd 31) ["_law_found"] zf1:=by
 refine T.law_is_stretch.fn.ok zbi (λvs H Q E h=>?_) (λcdv A outer s H vs Q E hr h=>?_)
 ·obtain⟨s,a,b,x1,y1,w1,x2,y2,w2,rfl,_⟩:=h;rfl
 obtain⟨s,a,b,x1,y1,w1,x2,y2,w2,rfl,hs,ha,hb,hbf,q⟩:=h;refine⟨_,
  (pss2
   (zK (PW.pt (xj (xb (yE (ye (wv YO) rfl T.b_isinstance wG (pa2 (pv 0) zd (wK (v:=.ty "tuple") rfl T.b_tuple WZ rfl) zd)))) (wx (zF wR (ye xy rfl T.b_len xi (pa1 (pv 0) zd)) za (nomark _))))) (zq (zo xf)) zL)
   (zo (qm (zt (VN T) T.law_is_point hr (pa1 (zb zc (pv 0) za) zr)) (qm (zt (VN T) T.law_is_point hr (pa1 (zb zc (pv 0) za) zr)) (qR (zt (vZ T) T.law_before hr (pa2 (zb zc (pv 0) za) zr (zb zc (pv 0) za) zr)))))))
  ,?_⟩
 dsimp! [L2.start]
 have ht:=X7 hs;simp! [hs,ht];refine iteNS rfl ⟨a,_,_,_,rfl,ha.1,ha.2.pos,ha.2.one,_,rfl,vC ?_⟩;simp! [hs];refine⟨b,_,_,_,rfl,hb.1,hb.2.pos,hb.2.one,_,rfl,vC ?_⟩;simp! [hs];refine⟨a,b,_,_,_,_,_,_,rfl,ha.tb,hb.tb,?_⟩;rw[hbf];exact q
noncomputable def dQ(r:Q3):Da:=.tuple [.int r.x,.int r.y,.int r.w]
def vf{K:pF}{H:Hp}{p:Addr}(h:QH H p r):RdD K H (dQ r) (.ref p):=by
 unfold dQ;rw[RdD];refine⟨p,_,rfl,.of h.1,?_⟩;rw[ya];refine⟨_,_,rfl,by rw[RdD],?_⟩
 rw[ya];refine⟨_,_,rfl,by rw[RdD],?_⟩
 rw[ya];refine⟨_,_,rfl,by rw[RdD],?_⟩
 rw[ya]
def vT(r:Q3):UB (dQ r)=true:=by
 simp[dQ,UB,Qs,uX,Qp,uz]
def vI(a b:Q3):uj (dQ a) (dQ b)=decide (a=b):=by
 rw[gO];obtain⟨x,y,w⟩:=a;obtain⟨x',y',w'⟩:=b
 simp[dQ,uj,uk]
noncomputable def dS(s:Q3×Q3):Da:=.tuple [dQ s.1,dQ s.2]
def rd_s{K:pF}{H:Hp}{p:Addr}{s:Q3×Q3}(h:S2H H p s):RdD K H (dS s) (.ref p):=by
 obtain⟨c,d,h1,h2,h3⟩:=h;unfold dS;rw[RdD];refine⟨p,_,rfl,.of h1,?_⟩;rw[ya];refine⟨_,_,rfl,vf h2,?_⟩;rw[ya];refine⟨_,_,rfl,vf h3,?_⟩;rw[ya]
theorem rd_ss{K:pF}{H:Hp}:∀{zs:List V}{F:List (Q3×Q3)},LR S2H H zs F->ya K H (F.map dS) zs
 |[],[],_=>by rw[Ux,ya]
 |[],_::_,h=>by cases h.1
 |v::zs,F,h=>by
  obtain⟨a,as,rfl,⟨p,rfl,hp⟩,t⟩:=h.cons_inv;rw[pj,ya];exact⟨_,_,rfl,rd_s hp,rd_ss t⟩
def rd_sl{K:pF}{H:Hp}{zs:List V}{F:List (Q3×Q3)}(h:H l=some (.lst zs))(hz:LR S2H H zs F):RdD K H (.list (F.map dS)) (.ref l):=by
 rw[RdD];exact⟨l,_,rfl,.of h,rd_ss hz⟩
def ZX(r:Q3×Q3):(dS r).canLay0=true/\(dS r).depth<=4:=by
 simp[dS,dQ,Qs,uX,Qp,uz]
theorem dSs_lay(F:List (Q3×Q3)):uX (F.map dS)=true/\uz (F.map dS)<=4:=by
 induction F with
 |nil=>exact⟨rfl,by simp[uz]⟩
 |cons r F ih=>
  have h:=ZX r;rw[pj]
  constructor
  ·rw[uX,h.1,ih.1];rfl
  ·rw[uz];have:=h.2;have:=ih.2;lia
theorem V5(F:List (Q3×Q3)):UB (.list (F.map dS))=true:=by
 have h:=dSs_lay F;unfold UB
 simp[Qs,Qp,h.1]
 have:=h.2;lia
theorem Jq:∀F:List (Q3×Q3),uk (F.map dS) (F.map dS)=true
 |[]=>by simp[uk]
 |a::F=>by
  have e:uj (dS a) (dS a)=true:=by
   unfold dS;rw[uj,uk,uk,uk,vI,vI]
   simp
  rw[pj,uk,e,Jq F];rfl
def dSs_eqv(F:List (Q3×Q3)):uj (.list (F.map dS)) (.list (F.map dS))=true:=by
 rw[uj,Jq]
def dS_eqv(a b:Q3×Q3):uj (dS a) (dS b)=decide (a=b):=by
 unfold dS;rw[uj,uk,uk,uk,vI,vI,FH,gO,GO,decide_eq_true_iff,decide_eq_true_iff,decide_eq_true_iff];exact⟨λh=>Br h.1 h.2,λh=>by rw[h];exact⟨rfl,rfl⟩⟩
theorem JM{f:Nat->Bool}{H3:Hp}{D:Addr}{i:Nat}{us:List V}{c:Bool}(hi:i<n)(hn:n<=19999)(g:zg H2 H3)(hD:H2 D=none)(hD3:H3 D=some (.lst us))(eu:us=zj ((Qd i).filter f))(ef:f i=c):
  if c=true then vg n (λj us H'=>zg H2 H'/\H' D=some (.lst us)/\us=zj ((Qd j).filter f)) D i (.int (i:Int)) H3 else vw n (λj us H'=>zg H2 H'/\H' D=some (.lst us)/\us=zj ((Qd j).filter f)) i H3:=by
 have st:(Qd (i+1)).filter f=(Qd i).filter f++if f i=true then[i] else[]:=by
  rw[Ge,Bb]
  congr 1
  by_cases c:f i=true
  ·rw[if_pos c,AX,if_pos c];rfl
  ·rw[if_neg c,AX,if_neg c];rfl
 refine ite2 (λc'=>cw_put hi hD3 (small10k ?_) ⟨yt g hD,upd_same,?_⟩) (λc'=>cw_skip hi (ys:=us) ⟨g,hD3,?_⟩)
 ·rw[eu,yL];refine uK (QP _ _) ?_;rw[QM];lia
 ·rw[st,ef,if_pos c',vt,eu];rfl
 ·rw[st,ef,if_neg c',UF,eu]
def own_due(ss:List (Q3×Q3))(f:Q3×Q3):zH ss f=(Qd ss.length).filter λk=>on3 (ss.getD k zQ).1 (ss.getD k zQ).2 f.1&&on3 (ss.getD k zQ).1 (ss.getD k zQ).2 f.2:=by
 unfold zH onF;rw[FU]
def ZQ(ss:List (Q3×Q3))(f:Q3×Q3):(zH ss f).length<=ss.length:=uK (QP _ _) (Wz ss _)
def sp_lpc:Sp:=λvs H Q _=>∃(r l s c:Addr)(ys:List V)(ss:List (Q3×Q3))(f:Q3×Q3),vs=[.ref r,.ref l]/\H r=some (.tup [.ref s,.ref c])/\S2H H s f/\H c=some (.lst (zj (zH ss f)))/\H l=some (.lst ys)/\ys.length<=45/\LR (StE 130) H ys ss/\bq f.1 f.2=true/\zH ss f≠[]/\∀H',zg H H'->Q (.bl true) H'
theorem zb6(T:Txt K mg ad fd):zx P w K mg base CX0 4 (ad 40) (fd 40) ["_law_row_here","_law_parts"] sp_lpc:=by
 refine T.law_piece.fn.ok YJ (λvs H Q E h=>?_) (λcdv A outer s H vs Q E hr h=>?_)
 ·obtain⟨r,l,s,c,ys,ss,f,rfl,_⟩:=h;rfl
 obtain⟨r,l,s,c,ys,ss,f,rfl,hr1,hs,hc,hl,hn,hy,lt,ne,k⟩:=h;obtain⟨a,b,hs1,ha,hb⟩:=id hs;refine⟨_,
  (pss4
   (zK (PW.pt (xj (xb (yE (ye (wv YO) rfl T.b_isinstance wG (pa2 (pv 0) zd (wK (v:=.ty "tuple") rfl T.b_tuple WZ rfl) zd)))) (xj (zF wR (ye xy rfl T.b_len xi (pa1 (pv 0) zd)) za (nomark _)) (xj (xb (yE (zt (zbn T) T.law_is_stretch hr (pa1 (zb zc (pv 0) za) zr)))) (wx (xb (yE (ye (wv Vb) rfl T.b_isinstance wG (pa2 (zb zc (pv 0) za) zr (wK (v:=.ty "list") rfl T.b_list wy rfl) zd))))))))) (zq (zo xf)) zL)
   (wA 2 YJ ["_law_k"] [0,1] (wW rfl T.b_range (pa1 (ye xy rfl T.b_len xi (pa1 (pv 1) zd)) zZ)) (λcl C fp s2 H2 xe=>⟨(zB 0 (show UK (["_law_k","_law_row_here","_law_parts"]:List Str) from by decide+kernel)),(wO (PW.pt (WN (yE (zt (Jc T) T.law_on hr (pa2 (zb zc (zb zc (pv 1) za) za) zr (zb zR (pv 2) (pv 0)) zr))) (XI (yE (zt (Jc T) T.law_on hr (pa2 (zb zc (zb zc (pv 1) za) za) zr (zb zR (pv 2) (pv 0)) zr))))))),(pv 0)⟩))
   (zK (PW.pt (xj (zF (wY (hu64 hr)) (pv 2) (xq yV) (nomark _)) (wx (zF (jA (hu64 hr)) (zb zc (pv 0) za) (pv 2) (nomark _))))) (zq (zo xf)) zL)
   (zo (wa yQ (ye xy rfl T.b_len xi (pa1 (wM YJ ["_law_number"] [] (yk (zb zc (pv 0) za)) (λcl C fp s2 H2 xe=>⟨(zB 0 (show UK (["_law_number"]:List Str) from by decide+kernel)),(wO (yE (zt (qD T) T.law_whole hr (pa1 (pv 0) zd)))),(pv 0)⟩)) Xt)) (ye xy rfl T.b_len xi (pa1 (pv 2) zd)) (nomark _))))
  ,?_⟩
 dsimp! [L2.start]
 have tr:=X7 hr1;have tc:=Zy hc;refine yO λfX hX=>?_;simp! [hr1,tr,tc];refine yP ?_;refine⟨s,a,b,_,_,_,_,_,_,rfl,hs1,⟨ha.1,Pt.mono ha.2 (by decide)⟩,⟨hb.1,Pt.mono hb.2 (by decide)⟩,lt,_,rfl,yP ?_⟩
 refine⟨_,hr1,_,at1,_,tc,yP ?_⟩;refine hX _ _ (yO λfX hX=>?_);simp! [];refine yT ?_;simp! [wu,hl];refine⟨by lia,by lia,λO hO=>?_⟩
 rw[show((ys.length:Int)).toNat=ys.length by lia]
 refine XE (n:=ys.length) (λi us H'=>zg H H'/\H' O=some (.lst us)/\us=zj ((Qd i).filter λk=>on3 (ss.getD k zQ).1 (ss.getD k zQ).2 f.1&&on3 (ss.getD k zQ).1 (ss.getD k zQ).2 f.2)) ⟨ze hO _,upd_same,rfl⟩ ?_ ?_
 ·rintro i us H1 hi ⟨g1,hO1,eu⟩;obtain⟨b',e,e1,e2,c1,c2,h1,h2,h3,_⟩:=hy.at hi;have ai:atI ys (i:Int)=some (.ref b'):=yp e1;have hl1:=g1 _ _ hl;have hr2:=g1 _ _ hr1;have hs2:=g1 _ _ hs1;have go:∀{x:Addr}{u:Q3}{Q':VK},QH H1 x u->Q' (.bl (on3 e.1 e.2 u)) H1->Vl [.ref x,.ref b'] H1 Q' E0:=λ{x u Q'} hx q=>⟨x,b',c1,c2,_,_,_,_,_,_,_,_,_,rfl,g1 _ _ h1,(h2.same g1).tb,(h3.same g1).tb,hx.tb,q⟩;have es:ss.getD i zQ=e:=by rw[pE,e2];rfl
  simp! [Aj,hl1,hr2,hs2,ai];refine go (ha.same g1) ⟨_,rfl,ite2 (λx1=>?_) λx1=>?_⟩
  ·refine⟨_,hr2,_,at0,_,rfl,_,hs2,_,at1,_,hl1,_,ai,go (hb.same g1) ⟨_,rfl,JM hi (by lia) g1 hO hO1 eu ?_⟩⟩
   show(on3 (ss.getD i zQ).1 (ss.getD i zQ).2 f.1&&on3 (ss.getD i zQ).1 (ss.getD i zQ).2 f.2)=_
   rw[es,x1,Dh]
  ·have q:=JM (c:=false) hi (show ys.length<=19999 by lia) g1 hO hO1 eu (by show(on3 (ss.getD i zQ).1 (ss.getD i zQ).2 f.1&&on3 (ss.getD i zQ).1 (ss.getD i zQ).2 f.2)=_;rw[es,Uq.mpr x1];rfl)
   rw[if_neg (by decide)] at q
   exact q
 ·rintro us1 H1 ⟨g1,hO1,eu1⟩;have eu1:us1=zj (zH ss f):=by rw[eu1,hy.1,own_due]
  subst eu1;have lo:(zH ss f).length<=45:=by have:=ZQ ss f;have:=hy.1;lia
  refine hX _ _ (yO λfX hX=>?_);simp! [];intro z hz;have g2:=ze hz (HO.lst []);have hz2:upd H1 z (HO.lst []) z=some (.lst (zj [])):=upd_same;generalize upd H1 z (HO.lst [])=H2 at*;have g02:=g1.trans g2;have hO2:=g2 _ _ hO1;have hr2:=g02 _ _ hr1;have hc2:=g02 _ _ hc;refine⟨_,_,w9 hO2,w9 hz2,vM _,vM _,_,rfl,?_⟩;rw[nl_nil,decide_eq_false ne];refine yP ⟨_,hr2,_,at1,_,_,w9 hc2,w9 hO2,vM _,vM _,_,rfl,?_⟩;rw[Ye];refine yP ?_;refine hX _ _ ?_;simp! [];refine yT ?_;simp! [yi,hr2];refine⟨⟨_,.of hc2⟩,λD hD=>?_⟩;refine xp (xs:=zj (zH ss f)) (λi us H'=>zg H2 H'/\H' D=some (.lst us)/\us=zj ((zH ss f).take i)) ⟨ze hD _,upd_same,rfl⟩ (λi us H' q=>.of (q.1 _ _ hc2)) ?_ ?_
  ·rintro i us H3 v hi hv ⟨g3,hD3,eu⟩;obtain⟨m,m1,rfl⟩:=wX hv;simp! [je];refine cw_put hi hD3 (small1000 (by rw[eu,yL,pV];lia)) ⟨yt g3 hD,upd_same,?_⟩
   rw[eu,uP,m1,vt];rfl
  ·rintro us H3 ⟨g3,hD3,eu⟩;rw[yL,Qu] at eu;subst eu;refine⟨D,rfl,_,.inl hD3,_,.inl (g3 _ _ hO2),?_⟩;rw[decide_eq_true rfl];exact k H3 (g02.trans g3)
def sp_ahd:Sp:=λvs H Q _=>∃(p q:Addr)(f f':Q3×Q3),vs=[.ref p,.ref q]/\S2H H p f/\S2H H q f'/\LtF f f'/\∀H',zg H H'->Q (.bl true) H'
def zf6(T:Txt K mg ad fd):zx P w K mg base CX0 2 (ad 42) (fd 42) ["_law_one","_law_other"] sp_ahd:=by
 refine T.law_ahead.fn.ok zek (λvs H Q E h=>?_) (λcdv A outer s H vs Q E hr h=>?_)
 ·obtain⟨p,q,f,f',rfl,_⟩:=h;rfl
 obtain⟨p,q,f,f',rfl,hp,hq,lt,k⟩:=h;obtain⟨a,b,hp1,ha,hb⟩:=id hp;obtain⟨a',b',hq1,ha',hb'⟩:=id hq;refine⟨_,
  (pss2
   (zK (zF (wY (hu64 hr)) (zb zc (pv 0) za) (zb zc (pv 1) za) (nomark _)) (zq (zo (zt (vZ T) T.law_before hr (pa2 (zb zc (pv 0) za) zr (zb zc (pv 1) za) zr)))) zL)
   (zo (zt (vZ T) T.law_before hr (pa2 (zb zc (pv 0) za) zr (zb zc (pv 1) za) zr))))
  ,?_⟩
 dsimp! [L2.start]
 refine yO λfX hX=>?_;simp! [hp1,hq1];refine⟨_,_,vf ha,vf ha',vT _,vT _,_,rfl,?_⟩;rw[vI];have bd:∀{x y:Addr}{u v:Q3},QH H x u->QH H y v->bq u v=true->Xb [.ref x,.ref y] H Q E0:=λ{x y u v} h1 h2 l=>⟨x,y,_,_,_,_,_,_,rfl,h1.tb,h2.tb,by rw[show bef u.x u.y u.w v.x v.y v.w=true from l];exact k H (.refl _)⟩
 rcases lt with l|⟨e,l⟩
 ·have n:f.1≠f'.1:=λz=>by rw[z,yl] at l;cases l
  rw[decide_eq_false n];refine yP ?_;refine hX _ _ ?_;simp! [hp1,hq1];exact bd ha ha' l
 ·rw[decide_eq_true e];exact vC ⟨_,hp1,_,at1,_,hq1,_,at1,bd hb hb' l⟩
def RwN(ss:List (Q3×Q3))(H:Hp)(p:Addr)(f:Q3×Q3):Prop:=∃s c,H p=some (.tup [.ref s,.ref c])/\S2H H s f/\H c=some (.lst (zj (zH ss f)))
def RwN.same{ss:List (Q3×Q3)}{H H':Hp}{p:Addr}(h:RwN ss H p f)(g:zg H H'):RwN ss H' p f:=by
 obtain⟨s,c,h1,h2,h3⟩:=h;exact⟨s,c,g _ _ h1,y6 _ _ _ _ (zI g) h2,g _ _ h3⟩
theorem dN_any(ns:List Nat)(k:Nat):((dN ns).any λe=>uj e (.int (k:Int)))=decide (k∈ns):=by
 unfold dN;rw[List.any_map,gO,List.any_eq_true,decide_eq_true_iff]
 constructor
 ·rintro⟨x,h1,h2⟩;have h2:uj (.int (x:Int)) (.int (k:Int))=true:=h2;rw[uj] at h2;have h3:(x:Int)=(k:Int):=by simpa using h2
  have:x=k:=by lia
  rw[←this];exact h1
 ·intro h;exact⟨k,h,by show uj (.int (k:Int)) (.int (k:Int))=true;rw[uj];simp⟩
def sp_chn:Sp:=λvs H Q _=>∃(R p:Addr)(i:Nat)(zs:List V)(ss fs:List (Q3×Q3)),vs=[.ref R,.int i,.ref p]/\H R=some (.lst zs)/\LR (RwN ss) H zs fs/\S2H H p (ss.getD i zQ)/\(∀(j:Nat) f,fs[j]?=some f->i∈zH ss f->f.1=spo ss i (fs.take j))/\spo ss i fs=(ss.getD i zQ).2/\∀H',zg H H'->Q (.bl true) H'
def zde(T:Txt K mg ad fd):zx P w K mg base CX0 1 (ad 41) (fd 41) ["_law_rows","_law_number","_law_part_here"] sp_chn:=by
 refine T.law_chain.fn.ok Ya (λvs H Q E h=>?_) (λcdv A outer s H vs Q E hr h=>?_)
 ·obtain⟨R,p,i,zs,ss,fs,rfl,_⟩:=h;rfl
 obtain⟨R,p,i,zs,ss,fs,rfl,hR,hz,hp,nx,en,k⟩:=h;obtain⟨a,b,hp1,ha,hb⟩:=id hp;refine⟨_,
  (pss3
   (zu 3 Ya.nd (zb zc (pv 2) za))
   (yo uO rfl (yk (pv 0)) (zB 4 Ya.nd) (zq (zK (zF (op_inL (K':=K) rfl (hu64 hr)) (pv 1) (zb zc (pv 4) za) rfl) (pss2
   (zK (zF (jA (hu64 hr)) (zb zc (zb zc (pv 4) za) za) (pv 3) (nomark _)) (zq (zo xf)) zL)
   (zu 3 Ya.nd (zb zc (zb zc (pv 4) za) za))) zL)))
   (zo (wa (wY (hu64 hr)) (pv 3) (zb zc (pv 2) za) (nomark _))))
  ,?_⟩
 dsimp! [L2.start]
 refine yO λfX hX=>?_;simp! [hp1];refine hX _ _ (yO λfX hX=>?_);simp! [];refine yq ?_;simp! [yi];refine⟨⟨_,.of hR⟩,?_⟩;refine xC (K:=K) (a:=R) (xs:=zs) (λj σ H'=>zg H H'/\∃(t:Addr)(o:Option V),σ=[some (.ref R),some (.int i),some (.ref p),some (.ref t),o]/\QH H' t (spo ss i (fs.take j))) ⟨.refl _,a,none,rfl,ha⟩ (λj σ H' _ iv=>.of (iv.1 _ _ hR)) ?_ ?_
 ·intro _ _;rintro j v σ H2 hj ⟨g2,t,o,rfl,ht⟩;obtain⟨r,f,rfl,ef,hr'⟩:=hz.2 j v hj;obtain⟨s,c,h1,h2,h3⟩:=hr'.same g2;obtain⟨a2,b2,hs2,ha2,hb2⟩:=id h2;have tk:fs.take (j+1)=fs.take j++[f]:=by rw[uP,ef];rfl
  simp! [rInL,h1];refine⟨.int (i:Int),by rw[RdD],dN (zH ss f),w9 h3,rfl,(jw _).1,by rw[Qp];exact uJ _,?_⟩
  rw[dN_any];refine ite2 (λx=>?_) (λx=>?_)
  ·have x:=of_decide_eq_true x;have e:=nx j f ef x;rw[←e] at ht;refine⟨_,hs2,_,at0,_,_,vf ha2,vf ht,vT _,vT _,_,rfl,?_⟩;rw[vI,decide_eq_true rfl];refine yP ⟨_,h1,_,at0,_,rfl,_,hs2,_,at1,?_⟩;refine⟨g2,?_⟩;rw[tk,Wm,if_pos x];exact⟨b2,rfl,hb2⟩
  ·refine⟨g2,?_⟩;rw[tk,Wm,if_neg (λy=>x (decide_eq_true y))];exact ht
 ·rintro σ H2 ⟨g2,t,o,rfl,ht⟩;rw[hz.1,Qu,en] at ht;refine hX _ _ ?_;simp! [g2 _ _ hp1];refine⟨_,_,vf ht,vf (hb.same g2),vT _,vT _,?_⟩;rw[vI,decide_eq_true rfl];exact k H2 g2
def RwY(ss:List (Q3×Q3))(H:Hp)(p:Addr)(x:(Q3×Q3)×Addr):Prop:=∃s,H p=some (.tup [.ref s,.ref x.2])/\S2H H s x.1/\H x.2=some (.lst (zj (zH ss x.1)))
section
variable{ss:List (Q3×Q3)}{H H':Hp}{p:Addr}{x:(Q3×Q3)×Addr}{zs:List V}{xs:List ((Q3×Q3)×Addr)}
def rwy_at(h:RwY ss H p x)(g:yF H H')(l:∀us,H x.2=some (.lst us)->H' x.2=some (.lst us)):RwY ss H' p x:=by
 obtain⟨s,h1,h2,h3⟩:=h;exact⟨s,g _ _ h1,y6 _ _ _ _ g h2,l _ h3⟩
def xJ(h:LR (RwY ss) H zs xs)(g:yF H H')(l:∀b,b∈xs.map (·.2)->∀us,H b=some (.lst us)->H' b=some (.lst us)):LR (RwY ss) H' zs xs:=⟨h.1,λj v z=>by
 obtain⟨p,x,e,f,s⟩:=h.2 j v z;exact⟨p,x,e,f,rwy_at s g λus=>l x.2 (uG.mpr ⟨x,pS f,rfl⟩) us⟩⟩
def rwy_n(h:LR (RwY ss) H zs xs):LR (RwN ss) H zs (xs.map (·.1)):=⟨by rw[pL];exact h.1,λj v z=>by
 obtain⟨p,x,e,f,s,h1,h2,h3⟩:=h.2 j v z;exact⟨p,x.1,e,by rw[pQ,f];rfl,s,x.2,h1,h2,h3⟩⟩
end
noncomputable def dR(ss:List (Q3×Q3))(f:Q3×Q3):Da:=.tuple [dS f,.list (dN (zH ss f))]
variable{H:Hp}{ss:List (Q3×Q3)}
def rd_rw{K:pF}{p:Addr}{x:(Q3×Q3)×Addr}(h:RwY ss H p x):RdD K H (dR ss x.1) (.ref p):=by
 obtain⟨s,h1,h2,h3⟩:=h;unfold dR;rw[RdD];refine⟨p,_,rfl,.of h1,?_⟩;rw[ya];refine⟨_,_,rfl,rd_s h2,?_⟩;rw[ya];refine⟨_,_,rfl,w9 h3,?_⟩;rw[ya]
theorem Jr{K:pF}{ss:List (Q3×Q3)}{H:Hp}:∀{zs:List V}{xs:List ((Q3×Q3)×Addr)},LR (RwY ss) H zs xs->ya K H ((xs.map (·.1)).map (dR ss)) zs
 |[],[],_=>by rw[Ux,Ux,ya]
 |[],_::_,h=>by cases h.1
 |v::zs,xs,h=>by
  obtain⟨a,as,rfl,⟨p,rfl,hp⟩,t⟩:=h.cons_inv;rw[pj,pj,ya];exact⟨_,_,rfl,rd_rw hp,Jr t⟩
def Yz{K:pF}{zs:List V}{xs:List ((Q3×Q3)×Addr)}(h:H l=some (.lst zs))(hz:LR (RwY ss) H zs xs):RdD K H (.list ((xs.map (·.1)).map (dR ss))) (.ref l):=by
 rw[RdD];exact⟨l,_,rfl,.of h,Jr hz⟩
theorem dR_ok(ss:List (Q3×Q3))(f:Q3×Q3):(dR ss f).canLay0=true/\(dR ss f).depth<=7/\uj (dR ss f) (dR ss f)=true:=by
 have h1:=jw (zH ss f);have h4:=ZX f;unfold dR;refine⟨?_,?_,?_⟩
 ·simp[Qs,uX,h1.1,h4.1]
 ·simp only[Qp,uz];have:=h1.2.1;have:=h4.2;lia
 ·rw[uj,uk,uk,uk,Ye,dS_eqv]
  simp
theorem Xy(ss:List (Q3×Q3)):∀fs:List (Q3×Q3),uX (fs.map (dR ss))=true/\uz (fs.map (dR ss))<=7/\uk (fs.map (dR ss)) (fs.map (dR ss))=true
 |[]=>by simp[uX,uz,uk]
 |q::qs=>by
  obtain⟨h1,h2,h3⟩:=Xy ss qs;obtain⟨e1,e2,e3⟩:=dR_ok ss q;rw[pj];refine⟨?_,?_,?_⟩
  ·rw[uX,e1,h1];rfl
  ·simp only[uz];lia
  ·rw[uk,e3,h3];rfl
theorem Yd(ss fs:List (Q3×Q3)):UB (.list (fs.map (dR ss)))=true:=by
 obtain⟨h1,h2,_⟩:=Xy ss fs;unfold UB;rw[Qs,h1,Dh,Qp];exact decide_eq_true (by lia)
def Zb(ss fs:List (Q3×Q3)):uj (.list (fs.map (dR ss))) (.list (fs.map (dR ss)))=true:=by
 rw[uj];exact(Xy ss fs).2.2
theorem zbt(xs:List V):yr xs none (some (-1))=xs.take (xs.length-1):=by
 unfold yr;rw[HT.sIx_none,AS,Fm];have:HT.sIx xs.length xs.length (some (-1))=xs.length-1:=by
  unfold HT.sIx;dsimp only;rw[if_pos (by decide)]
  lia
 rw[this]
theorem Jh(xs:List V):yr xs (some 1) none=xs.drop 1:=by
 unfold yr;have:HT.sIx xs.length 0 (some 1)=min 1 xs.length:=HT.sIx_nat _ _ 1;rw[HT.sIx_none,this]
 cases xs with
 |nil=>rfl
 |cons x xs=>
  rw[show min 1 (x::xs).length=1 by simp only[uZ];lia,pz (by rw[pg];exact pJ _)]
def zc6{b:Addr}{pos:Pos}{q:Str}(h:H b=some (.tbl #[])):zE H b pos q:=⟨#[],h,by trivial,.inl rfl⟩
def qN(K:pF)(ts:List Addr):Sp:=λvs H Q _=>∃(a:Addr)(ns:List Int),vs=[.ref a]/\SqL K H a (ns.map V.int)/\ns.length<=63/\(∀b,b∈ts->∀lp ql,zE H b lp ql)/\∀H',Q (.bl true) H'
theorem ok_law(T:Txt K mg ad fd)(hK:K.In base)(hB:∀b,b∈([ad 45,ad 47,ad 49]:List Addr)->base.BuiltinsAt mg b):zx P w K mg base CX0 8 (ad 43) (fd 43) ["_law_script"] (qN K [(ad 45),(ad 47),(ad 49)]):=by
 refine T.law.fn.ok xw (λvs H Q E h=>?_) (λcdv A outer s H vs Q E hr h=>?_)
 ·obtain⟨a,ns,rfl,_⟩:=h;rfl
 obtain⟨a,ns,rfl,hS,hn,hT,k⟩:=h;have ltB:=hT (ad 45) (by simp) qV qlB
 have ltP:=hT (ad 47) (by simp) jC qlP
 have ltN:=hT (ad 49) (by simp) wP qlN
 refine⟨_,
  (pss14
   (zu 1 xw.nd (zt (zeq T) T.law_stretches hr (pa3 (pv 0) zd za zP za zP)))
   (zu 2 xw.nd (vq Xw rfl T.b_list wy (pa1 (pv 1) zd)))
   (zu 3 xw.nd (zt (W2 T hK hB) T.pieces hr (pa1 (pv 2) zd)))
   (zK (PW.pt (xj (xb (yE (ye (wv Vb) rfl T.b_isinstance wG (pa2 (pv 3) zd (wK (v:=.ty "list") rfl T.b_list wy rfl) zd)))) (wx (zF (jA (hu64 hr)) (pv 2) (pv 1) (nomark _))))) (zq (zo xf)) zL)
   (zu 4 xw.nd WY)
   (yo uO rfl (yk (zt (Zp T hK hB) T.stops hr (pa1 (vq Xw rfl T.b_list wy (pa1 (pv 1) zd)) zZ))) (zB 5 xw.nd) (zq (jB (yS hr) (pv 4) (zb zc (pv 5) za) xf rfl)))
   (yo uO rfl (yk (pv 3)) (zB 5 xw.nd) (zq (zK (PW.pt (xj (xb (yE (zt (zb6 T) T.law_piece hr (pa2 (pv 5) zd (pv 1) zd)))) (xj (YF (Yv (yS hr) (zb zc (zb zc (pv 5) za) za) (pv 4))) (wx (YF (Yv (yS hr) (zb zc (zb zc (pv 5) za) za) (pv 4))))))) (zq (zo xf)) zL)))
   (yo uO rfl (J6 rfl T.b_zip (pa2 (jf vV (pv 3) jl (jS (jE jn za))) zr (jf vV (pv 3) (jS za) jl) zr)) (jd (n:=2) rfl (y8 (zB 6 xw.nd) (y8 (zB 7 xw.nd) vp))) (zq (zK (xb (yE (zt (zf6 T) T.law_ahead hr (pa2 (zb zc (pv 6) za) zr (zb zc (pv 7) za) zr)))) (zq (zo xf)) zL)))
   (yo uO rfl (wW rfl T.b_range (pa1 (ye xy rfl T.b_len xi (pa1 (pv 1) zd)) zZ)) (zB 8 xw.nd) (zq (zK (xb (yE (zt (zde T) T.law_chain hr (pa3 (pv 3) zd (pv 8) zd (zb zR (pv 1) (pv 8)) zr)))) (zq (zo xf)) zL)))
   (wA 9 xw ["_law_row_here"] [] (yk (pv 3)) (λcl C fp s2 H2 xe=>⟨(zB 0 (show UK (["_law_row_here"]:List Str) from by decide+kernel)),x8,(yc (pa2 (zb zc (pv 0) za) zr (vq Xw rfl T.b_list wy (pa1 (zb zc (pv 0) za) zr)) zZ))⟩))
   (zK (PW.pt (xj (zF jm (ye xy rfl T.b_len xi (pa1 (zt (W2 T hK hB) T.pieces hr (pa1 (jf vV (pv 1) (jS za) jl) zr)) zZ)) (ye xy rfl T.b_len xi (pa1 (pv 9) zd)) (nomark _)) (wx (zF (jA (hu64 hr)) (pv 3) (pv 9) (nomark _))))) (zq (zo xf)) zL)
   (yo uO rfl (J6 rfl T.b_zip (pa2 (pv 3) zd (pv 9) zd)) (jd (n:=2) rfl (y8 (zB 5 xw.nd) (y8 (zB 10 xw.nd) vp))) (pss2
   (zK (zF (jA (hu64 hr)) (zb zc (pv 5) za) (zb zc (pv 10) za) (nomark _)) (zq (zo xf)) zL)
   (xk (xO uh QY QZ wq (zb zc (pv 5) za) (pa1 (jE jn za) Z3)))))
   (xk (pe_bm0 uh PySem.F.slot_list_clear PySem.F.type_list_clear zf9 (pv 3)))
   (zo (wa (wY (hu64 hr)) (zt (W2 T hK hB) T.pieces hr (pa1 (pv 2) zd)) (pv 9) (nomark _))))
  ,?_⟩
 dsimp! [L2.start]
 refine yO λfX hX=>?_;simp! [];refine⟨a,ns,0,8,rfl,hS,hn,by lia,by lia,λR ys ss H1 nR g1 hR hl hs=>?_⟩
 refine hX _ _ (yO λfX hX=>?_);simp! [hR];intro Lh hLh;have g2:=ze hLh (HO.lst ys);have eLh:upd H1 Lh (HO.lst ys) Lh=some (HO.lst ys):=upd_same;generalize upd H1 Lh (HO.lst ys)=H2 at*;have g02:=g1.trans g2;have hs2:=hs.ts yb (zI g2);have ltB2:=ltB.same g02;have ltP2:=ltP.same g02;have ltN2:=ltN.same g02;refine hX _ _ (yO λfX hX=>?_);simp! [];refine⟨Lh,ys,ss,rfl,eLh,by lia,hs2,ltB2,ltP2,ltN2,λD zs xs ps g H3 st3 ltB3 ltP3 ltN3 hD3 lz hz0 hfr pw ho nd hDn TT=>?_⟩
 have lst3:∀{b:Addr}{us:List V},H2 b=some (.lst us)->H3 b=some (.lst us):=λh=>st3 _ _ (ltB2.ne h λ_ z=>nomatch z) (ltP2.ne h λ_ z=>nomatch z) (ltN2.ne h λ_ z=>nomatch z) h;have tup3:∀b us,H2 b=some (.tup us)->H3 b=some (.tup us):=λb us h=>st3 _ _ (ltB2.ne h λ_ z=>nomatch z) (ltP2.ne h λ_ z=>nomatch z) (ltN2.ne h λ_ z=>nomatch z) h;have hR3:=lst3 (g2 _ _ hR);have hLh3:=lst3 eLh;have hs3:LR (StE 130) H3 ys ss:=hs2.ts yb tup3;have hz:LR (RwY ss) H3 zs xs:=⟨hz0.1,λj v z=>by
  obtain⟨p,x,e,f,s,h1,h2⟩:=hz0.2 j v z;exact⟨p,x,e,f,s,h1,h2,(hfr x (pS f)).1⟩⟩
 refine hX _ _ (yO λfX hX=>?_);simp! [];refine⟨_,Zy hD3,?_⟩;rw[isi_ll,if_neg (by decide)]
 refine⟨_,_,rd_sl hLh3 (qU hs3),rd_sl hR3 (qU hs3),V5 _,V5 _,_,rfl,?_⟩;rw[dSs_eqv,if_neg (by decide)]
 refine hX _ _ (yO λfX hX=>?_);simp! [YM];intro d hd;have g4:=ze hd (HO.dT []);have ed:upd H3 d (HO.dT []) d=some (.dT []):=upd_same;generalize upd H3 d (HO.dT [])=H4 at*;have hR4:=g4 _ _ hR3;refine hX _ _ (yO λfX hX=>?_);simp! [];refine yq ?_;simp! [yi,hR4];intro q1 hq1;have g5:=ze hq1 (HO.lst ys);have eq1:upd H4 q1 (HO.lst ys) q1=some (HO.lst ys):=upd_same;generalize upd H4 q1 (HO.lst ys)=H5 at*;have g35:=g4.trans g5;have ltB5:=ltB3.same g35;have ltN5:=ltN3.same g35;refine⟨q1,ys,ss,rfl,eq1,by lia,hs3.ts yb (zI g35),ltB5,ltN5,λD5 zs5 xs5 ps5 gg H6 st6 ltB6 ltN6 hD6 lz6 hz6 T6 _ pw6 ho6 _ _ _=>?_⟩
 have st36:∀{b:Addr}{o:HO},H3 b=some o->(∀ps,o≠.tbl ps)->H6 b=some o:=λ{b o} h n=>st6 _ _ (ltB5.ne (g35 _ _ h) n) (ltN5.ne (g35 _ _ h) n) (g35 _ _ h);have ltP6:zE H6 (ad 47) jC qlP:=by
  obtain⟨tp,h1,h2,h3⟩:=ltP3;exact⟨tp,st6 _ _ T.tne01.symm T.tne12 (g35 _ _ h1),h2,h3.imp id λ⟨c,e,hc⟩=>⟨c,e,st36 hc λ_ z=>nomatch z⟩⟩
 have ed6:H6 d=some (.dT []):=st6 _ _ (ltB5.ne (g5 _ _ ed) λ_ z=>nomatch z) (ltN5.ne (g5 _ _ ed) λ_ z=>nomatch z) (g5 _ _ ed);have nd3:∀{b:Addr}{o:HO},H3 b=some o->b≠d:=λh=>zN h hd;refine⟨D5,rfl,⟨_,.of hD6⟩,?_⟩;have nD5:D5≠d:=λz=>by rw[z,ed6] at hD6;cases hD6
 refine xC (K:=K) (a:=D5) (xs:=zs5) (λi σ H'=>(∀b o,b≠d->H6 b=some o->H' b=some o)/\∃(kvs:List (List Key×V))(o5:Option V),σ=[some (.ref a),some (.ref R),some (.ref Lh),some (.ref D),some (.ref d),o5,none,none,none,none,none]/\H' d=some (.dT kvs)/\kvs.length<=i/\∀q,q∈(xs5.map (·.1)).take i->∃v,zw kvs (kQ q)=some v) ⟨λ_ _ _ h=>h,[],none,rfl,ed6,uJ _,λq hq=>by rw[ul] at hq;cases hq⟩ (λi σ H' _ iv=>.of (iv.1 _ _ nD5 hD6)) ?_ ?_
 ·intro _ _;rintro i v σ H7 hi ⟨g7,kvs,o5,rfl,hd7,lk,hk⟩;obtain⟨p,x,rfl,hx,b,v1,v2,_⟩:=hz6.2 i v hi;have v17:H7 p=some (.tup [.ref b,.ref x.2.1,.ref x.2.2.1,.ref x.2.2.2]):=g7 _ _ (λz=>by rw[z,ed6] at v1;cases v1) v1
  have v27:=g7 _ _ (λz=>by have:=v2.1;rw[z,ed6] at this;cases this) v2.1
  have li:=(pD.mp hi).1;simp! [qv,v17];refine⟨_,w6.t (v:=V.bl true) (k:=kQ x.1) hd7 v27 (small10k (by lia)),λb' o nb h=>?_,_,upd_same,uK (wZ _ _ _) (AY lk),λq hq=>?_⟩
  ·rw[zh nb];exact g7 _ _ nb h
  ·rw[vh]
   by_cases e:kQ q=kQ x.1
   ·exact⟨_,if_pos e⟩
   ·rw[if_neg e];rw[uP,pQ,hx] at hq;rcases pP.mp hq with z|z
    ·exact hk q z
    ·exact absurd (by rw[pN.mp z]) e
 ·rintro σ H7 ⟨g7,kvs,o5,rfl,hd7,lk,hk⟩;rw[show zs5.length=(xs5.map (·.1)).length by rw[pL];exact hz6.1,Qu] at hk
  have st37:∀{b:Addr}{o:HO},H3 b=some o->(∀ps,o≠.tbl ps)->H7 b=some o:=λh n=>g7 _ _ (nd3 h) (st36 h n);have hz7:LR (RwY ss) H7 zs xs:=xJ hz (λb us h=>st37 h λ_ z=>nomatch z) λb _ us h=>st37 h λ_ z=>nomatch z;have hR7:=st37 hR3 λ_ z=>nomatch z;have hLh7:=st37 hLh3 λ_ z=>nomatch z;have hD7:=st37 hD3 λ_ z=>nomatch z;have hs7:LR (StE 130) H7 ys ss:=hs3.ts yb λb us h=>st37 h λ_ z=>nomatch z;have lam7:∀{tb:Addr}{lp:Pos}{ql:Str},zE H6 tb lp ql->zE H7 tb lp ql:=λ{tb lp ql} h=>by
   obtain⟨tp,h1,h2,h3⟩:=h;exact⟨tp,g7 _ _ (λz=>by rw[z,ed6] at h1;cases h1) h1,h2,h3.imp id λ⟨c,e,hc⟩=>⟨c,e,g7 _ _ (λz=>by rw[z,ed6] at hc;cases hc) hc⟩⟩
  have ltB7:=lam7 ltB6;have ltP7:=lam7 ltP6;have ltN7:=lam7 ltN6;have kn:∀f,Pce ss ps f->(∃v,zw kvs (kQ f.1)=some v)/\∃v,zw kvs (kQ f.2)=some v:=λf⟨i,l1,l2,_,_⟩=>⟨hk _ ((ho6 _).mpr (T6.lift TT id (λi hi=>⟨hi,rfl⟩) l1)),hk _ ((ho6 _).mpr (T6.lift TT id (λi hi=>⟨hi,rfl⟩) l2))⟩;have own:∀f,Pce ss ps f->zH ss f≠[]:=λf⟨i,l1,l2,_,_⟩ z=>by
   have:i∈zH ss f:=wf.mpr ⟨(TT.lies l1).1,(TT.lies l1).2.2,(TT.lies l2).2.2⟩;rw[z] at this
   cases this
  clear g7 st36 ed6 nd3 hk hz6 pw6 ho6 lam7 st37;refine hX _ _ (yO λfX hX=>?_);simp! [];refine yq ?_;simp! [yi];refine⟨⟨_,.of hD7⟩,?_⟩;refine xC (K:=K) (a:=D) (xs:=zs) (λi σ H'=>zg H7 H'/\∃o5:Option V,σ=[some (.ref a),some (.ref R),some (.ref Lh),some (.ref D),some (.ref d),o5,none,none,none,none,none]) ⟨.refl _,o5,rfl⟩ (λi σ H' _ iv=>.of (iv.1 _ _ hD7)) ?_ ?_
  ·intro _ _;rintro i v σ H8 hi ⟨g8,o5,rfl⟩;obtain⟨p,x,rfl,hx,s,h1,h2,h3⟩:=hz7.2 i v hi;have hf:=(ho x.1).mp (uG.mpr ⟨x,pS hx,rfl⟩);simp! [qP];refine⟨p,R,s,x.2,ys,ss,x.1,rfl,g8 _ _ h1,y6 _ _ _ _ (zI g8) h2,g8 _ _ h3,g8 _ _ hR7,by lia,hs7.ts yb (zI g8),hf.lt,own _ hf,λH9 g9=>⟨true,rfl,?_⟩⟩
   have g79:=g8.trans g9;obtain⟨a1,b1,hs1,ha1,hb1⟩:=y6 _ _ _ _ (zI g79) h2;obtain⟨⟨u1,k1⟩,u2,k2⟩:=kn _ hf;have hp9:=g79 _ _ h1;have hd9:=g79 _ _ hd7;exact yP ⟨_,hp9,_,at0,_,rfl,_,hs1,_,at0,some u1,(by rw[←k1];exact .t (k:=kQ x.1.1) hd9 ha1.1),yP ⟨_,hp9,_,at0,_,rfl,_,hs1,_,at1,some u2,(by rw[←k2];exact .t (k:=kQ x.1.2) hd9 hb1.1),yP g79⟩⟩
  ·rintro σ H8 ⟨g8,o5,rfl⟩;have hD8:=g8 _ _ hD7;have hz8:=xJ hz7 (zI g8) λb _ us h=>g8 _ _ h;refine hX _ _ (yO λfX hX=>?_);simp! [];refine yq ?_;simp! [iZip,hD8];intro q2 hq2;have g9:=ze hq2 (HO.lst (yr zs none (some (-1))));have eq2:upd H8 q2 (HO.lst (yr zs none (some (-1)))) q2=some (HO.lst (yr zs none (some (-1)))):=upd_same;generalize upd H8 q2 (HO.lst (yr zs none (some (-1))))=H9 at*;refine⟨zs,g9 _ _ hD8,λq3 hq3=>?_⟩;have g10:=ze hq3 (HO.lst (yr zs (some 1) none));have eq3:upd H9 q3 (HO.lst (yr zs (some 1) none)) q3=some (HO.lst (yr zs (some 1) none)):=upd_same;have eq2':=g10 _ _ eq2;generalize upd H9 q3 (HO.lst (yr zs (some 1) none))=H10 at*;rw[zbt] at eq2';rw[Jh] at eq3;have g810:=g9.trans g10;refine⟨⟨_,.of eq2'⟩,⟨_,.of eq3⟩,?_⟩;refine ZA (xs:=zs.take (zs.length-1)) (ys:=zs.drop 1) (λi σ H'=>zg H10 H'/\∃o6 o7:Option V,σ=[some (.ref a),some (.ref R),some (.ref Lh),some (.ref D),some (.ref d),o5,o6,o7,none,none,none]) ⟨.refl _,none,none,rfl⟩ (λi σ H' iv=>⟨.of (iv.1 _ _ eq2'),.of (iv.1 _ _ eq3)⟩) (by rw[pV,pg];lia) ?_ ?_
   ·rintro i x y Tn σ HA hx hy ⟨gA,o6,o7,rfl⟩ hTn;have hx':zs[i]?=some x:=by
     rw[BY] at hx
     split at hx
     ·exact hx
     ·cases hx
    have hy':zs[i+1]?=some y:=by
     rw[Uv,EE] at hy;exact hy
    obtain⟨p1,x1,rfl,e1,s1,v1,w1,_⟩:=hz8.2 i x hx';obtain⟨p2,x2,rfl,e2,s2,v2,w2,_⟩:=hz8.2 (i+1) y hy';have gB:=ze hTn (HO.tup [V.ref p1,V.ref p2]);have tB:upd HA Tn (HO.tup [V.ref p1,V.ref p2]) Tn=some (HO.tup [V.ref p1,V.ref p2]):=upd_same;generalize upd HA Tn (HO.tup [V.ref p1,V.ref p2])=HB at*;have g8B:=g810.trans (gA.trans gB);have v1B:=g8B _ _ v1;have v2B:=g8B _ _ v2;have lt:LtF x1.1 x2.1:=by
     have m1:(xs.map (·.1))[i]?=some x1.1:=by rw[pQ,e1];rfl
     have m2:(xs.map (·.1))[i+1]?=some x2.1:=by rw[pQ,e2];rfl
     obtain⟨l1,m1⟩:=pD.mp m1;obtain⟨l2,m2⟩:=pD.mp m2;have:=Qx.mp pw i (i+1) l1 l2 (by lia)
     rw[m1,m2] at this;exact this
    simp! [tB,v1B,v2B];exact⟨s1,s2,x1.1,x2.1,rfl,y6 _ _ _ _ (zI g8B) w1,y6 _ _ _ _ (zI g8B) w2,lt,λHC gC=>⟨true,rfl,yP (gA.trans (gB.trans gC))⟩⟩
   ·rintro σ HA ⟨gA,o6,o7,rfl⟩;have g8A:=g810.trans gA;have g7A:=g8.trans g8A;have hRA:=g7A _ _ hR7;refine hX _ _ (yO λfX hX=>?_);simp! [];refine yq ?_;simp! [wu,hRA];refine⟨by lia,by lia,vQ (λi σ H'=>zg HA H'/\∃o8:Option V,σ=[some (.ref a),some (.ref R),some (.ref Lh),some (.ref D),some (.ref d),o5,o6,o7,o8,none,none]) ⟨.refl _,none,rfl⟩ ?_ ?_⟩
    ·intro _ _;rintro i σ HB hi ⟨gB,o8,rfl⟩;have g7B:=g7A.trans gB;have hRB:=g7B _ _ hR7;have hi':i<ys.length:=by lia
     have hsB:LR S2H HB ys ss:=qU (hs7.ts yb (zI g7B));obtain⟨b',e,e1,e2,h1⟩:=hsB.at hi';have ai:atI ys (i:Int)=some (.ref b'):=yp e1;have es:ss.getD i zQ=e:=by rw[pE,e2];rfl
     have hl':i<ss.length:=by rw[←hs.1];exact hi'
     simp! [Aj,hRB,ai];exact⟨D,b',i,zs,ss,xs.map (·.1),rfl,g7B _ _ hD7,rwy_n (xJ hz7 (zI g7B) λb _ us h=>g7B _ _ h),(by rw[es];exact h1),λj f hj of=>zci TT pw ho hj of,spo_end TT pw ho hl',λHC gC=>⟨true,rfl,yP (gB.trans gC)⟩⟩
    ·rintro σ HB ⟨gB,o8,rfl⟩;have g7B:=g7A.trans gB;have hDB:=g7B _ _ hD7;have hzB:=xJ hz7 (zI g7B) λb _ us h=>g7B _ _ h;refine hX _ _ (yO λfX hX=>?_);simp! [];refine yT ?_;simp! [yi];refine⟨⟨_,.of hDB⟩,λKL hKL=>?_⟩;refine xp (xs:=zs) (λi us H'=>zg HB H'/\H' KL=some (.lst us)/\us.length=i/\∃ks:List ((Q3×Q3)×Addr),ks.map (·.1)=(xs.map (·.1)).take i/\LR (RwY ss) H' us ks/\∀b,b∈ks.map (·.2)->HB b=none/\b≠KL) ⟨ze hKL _,upd_same,rfl,[],by rw[ul];rfl,.nil,λb hb=>by cases hb⟩ (λi us H' q=>.of (q.1 _ _ hDB)) ?_ ?_
     ·rintro i us HC v hi hv ⟨gC,hKC,lu,ks,ek,hk',hf⟩;obtain⟨p,x,rfl,hx,s,v1,v2,v3⟩:=hzB.2 i v hv;have v1C:=gC _ _ v1;have v3C:=gC _ _ v3;simp! [v1C,v3C];intro c1 hc1;have s1:=ze hc1 (HO.lst (zj (zH ss x.1)));have t1:upd HC c1 (HO.lst (zj (zH ss x.1))) c1=some (HO.lst (zj (zH ss x.1))):=upd_same;generalize upd HC c1 (HO.lst (zj (zH ss x.1)))=HD at*;intro t ht;have s2:=ze ht (HO.tup [V.ref s,V.ref c1]);have t2:upd HD t (HO.tup [V.ref s,V.ref c1]) t=some (HO.tup [V.ref s,V.ref c1]):=upd_same;generalize upd HD t (HO.tup [V.ref s,V.ref c1])=HE at*;have sA:=s1.trans s2;have hKE:=sA _ _ hKC;have n1:c1≠KL:=(zN hKC hc1).symm;have hf':∀b',b'∈(ks++[(x.1,c1)]).map (·.2)->HB b'=none/\b'≠KL:=λb' hb=>by
       rw[ug] at hb;rcases pP.mp hb with hb|hb
       ·exact hf b' hb
       ·rw[pN.mp hb];exact⟨gC.free hc1,n1⟩
      refine cw_put hi hKE (small10k (by lia)) ⟨yt (gC.trans sA) hKL,upd_same,by rw[pM,lu];rfl,ks++[(x.1,c1)],?_,?_,hf'⟩
      ·rw[ug,ek,uP,pQ,hx];rfl
      ·have sx:RwY ss HE t (x.1,c1):=⟨s,t2,y6 _ _ _ _ (zI (gC.trans sA)) v2,s2 _ _ t1⟩;refine xJ ((xJ hk' (zI sA) λb _ us h=>sA _ _ h).snoc sx) (xX hKE) λb' hb us h=>?_;rw[zh (hf' b' hb).2];exact h
     ·rintro us HC ⟨gC,hKC,lu,ks,ek,hk',hf⟩;rw[pz (by rw[pL,hz.1];exact pJ _)] at ek
      have g7C:=g7B.trans gC;have hRC:=g7C _ _ hR7;refine hX _ _ (yO λfX hX=>?_);simp! [hRC];intro q4 hq4;rw[Jh];have s9:=ze hq4 (HO.lst (ys.drop 1));have e9:upd HC q4 (HO.lst (ys.drop 1)) q4=some (HO.lst (ys.drop 1)):=upd_same;generalize upd HC q4 (HO.lst (ys.drop 1))=HD at*;have g7D:=g7C.trans s9;have ltBD:=ltB7.same g7D;have ltPD:=ltP7.same g7D;have ltND:=ltN7.same g7D;refine⟨q4,ys.drop 1,ss.drop 1,rfl,e9,by rw[pg];lia,(hs7.drop 1).ts yb (zI g7D),ltBD,ltPD,ltND,λD2 zs2 xs2 ps2 g2' HE stE ltBE ltPE ltNE hDE _ hz2 _ pw2 ho2 _ _ TT2=>?_⟩
      have othE:∀{b:Addr}{o:HO},HD b=some o->(∀ps,o≠.tbl ps)->HE b=some o:=λh n=>stE _ _ (ltBD.ne h n) (ltPD.ne h n) (ltND.ne h n) h;have lstE:∀{b:Addr}{us:List V},HD b=some (.lst us)->HE b=some (.lst us):=λh=>othE h λ_ z=>nomatch z;have tupE:∀b us,HD b=some (.tup us)->HE b=some (.tup us):=λb us h=>othE h λ_ z=>nomatch z;have len2:zs2.length<=us.length:=by
       have h1:=pce_few TT TT2 (λi=>i+1) (λi hi=>by
        rw[pg] at hi;refine⟨by lia,?_⟩
        rw[pE,pE,Uv,EE]) ho ho2 (List.Pairwise.imp (R:=LtF) (S:=(·≠·)) (λ{a b} h z=>W0 (x:=b) (by rw[z] at h;exact h)) pw2)
       rw[pL,pL,←hz2.1,←hz.1] at h1;lia
      have hKE:=lstE (s9 _ _ hKC);have hDE':=lstE (g7D _ _ hD7);have hzE:LR (RwY ss) HE zs xs:=xJ (xJ hz7 (zI g7D) λb _ us h=>g7D _ _ h) tupE λb _ us h=>lstE h;have hkE:LR (RwY ss) HE us ks:=xJ (xJ hk' (zI s9) λb _ us h=>s9 _ _ h) tupE λb _ us h=>lstE h;refine⟨D2,rfl,_,.inl hDE,_,.inl hKE,?_⟩;rw[if_neg (λz=>by have:=of_decide_eq_true z;lia)]
      refine⟨_,_,Yz hDE' hzE,Yz hKE hkE,Yd _ _,Yd _ _,_,rfl,?_⟩;rw[ek,Zb];refine yP ?_;have live:∀b,b∈xs.map (·.2)->∃us,HB b=some (.lst us):=λb hb=>by
       obtain⟨x,hx,rfl⟩:=uG.mp hb;obtain⟨i,hi⟩:=uY.mp hx;obtain⟨p,x',_,e2,_,_,_,w3⟩:=hzB.at (j:=i) (by rw[hzB.1];exact(pD.mp hi).1)
       rw[hi] at e2
       cases e2;exact⟨_,w3⟩
      have liveE:∀b,b∈xs.map (·.2)->∃us,HE b=some (.lst us):=λb hb=>by
       obtain⟨us,h⟩:=live b hb;exact⟨us,lstE ((gC.trans s9) _ _ h)⟩
      have nfD:D∉xs.map (·.2):=λz=>by
       obtain⟨x,hx,e⟩:=uG.mp z;exact(hfr x hx).2.2 e
      have nfK:KL∉xs.map (·.2):=λz=>by
       obtain⟨us,h⟩:=live KL z;rw[hKL] at h
       cases h
      have nfk:∀b,b∈ks.map (·.2)->b∉xs.map (·.2):=λb hb z=>by
       obtain⟨us,h⟩:=live b z;rw[(hf b hb).1] at h
       cases h
      refine hX _ _ (yO λfX hX=>?_);simp! [];refine yq ?_;simp! [iZip];refine⟨⟨_,.of hDE'⟩,⟨_,.of hKE⟩,?_⟩;refine ZA (xs:=zs) (ys:=us) (λi σ H'=>∃p5 p10:Option V,σ=[some (.ref a),some (.ref R),some (.ref Lh),some (.ref D),some (.ref d),p5,o6,o7,o8,some (.ref KL),p10]/\(∀b o,b∉xs.map (·.2)->HE b=some o->H' b=some o)/\∀b o,b∈(xs.map (·.2)).drop i->HE b=some o->H' b=some o) ⟨_,_,rfl,λb o _ h=>h,λb o _ h=>h⟩ (λi σ H' iv=>?_) (by lia) ?_ ?_
      ·obtain⟨_,_,_,f1,_⟩:=iv;exact⟨.of (f1 _ _ nfD hDE'),.of (f1 _ _ nfK hKE)⟩
      ·rintro i x y Tn σ HF hx hy ⟨p5,p10,rfl,f1,f2⟩ hTn;obtain⟨p1,x1,rfl,e1,s1,r1,r2,r3⟩:=hzE.2 i x hx;obtain⟨p2,x2,rfl,e2,s2,r4,r5,r6⟩:=hkE.2 i y hy;have eqq:x2.1=x1.1:=by
        have m:=congrArg (λl=>l[i]?) ek;simp only[pQ,e1,e2,QQ,UL] at m;exact m
       rw[eqq] at r6;have gT:=ze hTn (HO.tup [V.ref p1,V.ref p2]);have tT:upd HF Tn (HO.tup [V.ref p1,V.ref p2]) Tn=some (HO.tup [V.ref p1,V.ref p2]):=upd_same;generalize upd HF Tn (HO.tup [V.ref p1,V.ref p2])=HG at*;have nt:∀{b:Addr}{us:List V},HE b=some (.tup us)->HG b=some (.tup us):=λ{b us} h=>by
        refine gT _ _ (f1 _ _ (λz=>?_) h);obtain⟨vs,hv⟩:=liveE b z;rw[h] at hv
        cases hv
       have q1:=nt r1;have q2:=nt r4;have dr:(xs.map (·.2)).drop i=x1.2::(xs.map (·.2)).drop (i+1):=by
        have m1:(xs.map (·.2))[i]?=some x1.2:=by rw[pQ,e1];rfl
        obtain⟨l1,m1⟩:=pD.mp m1;rw[Qg l1,m1]
       have mp:x1.2∈(xs.map (·.2)).drop i:=by rw[dr];exact pX
       have k1:=gT _ _ (f2 _ _ mp r3);have k2:=gT _ _ (f1 _ _ (nfk _ (uG.mpr ⟨x2,pS e2,rfl⟩)) r6);simp! [tT,q1,q2];refine⟨_,_,w9 k1,w9 k2,vM _,vM _,_,rfl,?_⟩;rw[Ye];have ndd:((xs.map (·.2)).drop i).Nodup:=nd.sublist (Fp _ _);rw[dr,List.nodup_cons] at ndd;refine yP ⟨_,q1,_,at1,xa k1,_,rfl,_,k1,small1000 (by rw[yL];have:=ZQ ss x1.1;have:=hs.1;lia),λb o nb h=>?_,λb o hb h=>?_⟩
       ·rw[zh (λz=>nb (by rw[z];exact gH mp))]
        exact gT _ _ (f1 b o nb h)
       ·rw[zh (λz=>ndd.1 (by rw[←z];exact hb))]
        exact gT _ _ (f2 b o (by rw[dr];exact pY _ hb) h)
      ·rintro σ HF ⟨p5,p10,rfl,f1,f2⟩;have hDF:=f1 _ _ nfD hDE';have othA:∀{b:Addr}{o:HO},HE b=some o->(∀us,o≠.lst us)->upd HF D (HO.lst []) b=some o:=λ{b o} h n=>by
        have nb:b∉xs.map (·.2):=λz=>by
         obtain⟨vs,hv⟩:=liveE b z;rw[h] at hv;exact n vs (uN hv)
        have:=f1 _ _ nb h;rw[zh (λz=>by rw[z,hDF] at this;exact n _ (uN this).symm)]
        exact this
       have tupA:∀b us,HE b=some (.tup us)->upd HF D (HO.lst []) b=some (.tup us):=λb us h=>othA h λ_ z=>nomatch z;have lamA:∀{tb:Addr}{lp:Pos}{ql:Str},zE HE tb lp ql->zE (upd HF D (HO.lst [])) tb lp ql:=λ{tb lp ql} h=>by
        obtain⟨tp,h1,h2,h3⟩:=h;exact⟨tp,othA h1 (λ_ z=>nomatch z),h2,h3.imp id λ⟨c,e,hc⟩=>⟨c,e,othA hc λ_ z=>nomatch z⟩⟩
       have nLh:Lh∉xs.map (·.2):=λz=>by
        obtain⟨x,hx,e⟩:=uG.mp z;have:=(hfr x hx).2.1;rw[e,eLh] at this
        cases this
       have hLA:upd HF D (HO.lst []) Lh=some (.lst ys):=by
        rw[zh (zN eLh hDn)];exact f1 _ _ nLh (lstE (g7D _ _ hLh7))
       have hKA:upd HF D (HO.lst []) KL=some (.lst us):=by
        rw[zh (λz=>by rw[z,hDB] at hKL;cases hKL)]
        exact f1 _ _ nfK hKE
       have hkA:LR (RwY ss) (upd HF D (HO.lst [])) us ks:=xJ hkE tupA λb hb vs h=>by
        rw[zh (λz=>by have:=(hf b hb).1;rw[z,hDB] at this;cases this)]
        exact f1 _ _ (nfk b hb) h
       have hsA:LR (StE 130) (upd HF D (HO.lst [])) ys ss:=hs7.ts yb λb vs h=>tupA _ _ (tupE _ _ (g7D _ _ h));have ltBA:=lamA ltBE;have ltPA:=lamA ltPE;have ltNA:=lamA ltNE;refine hX _ _ (yO λfX hX=>?_);simp! [];refine⟨xa hDF,⟨_,hDF⟩,?_⟩;generalize upd HF D (HO.lst [])=HG at*;refine hX _ _ ?_;simp! [];refine⟨Lh,ys,ss,rfl,hLA,by lia,hsA,ltBA,ltPA,ltNA,λD4 zs4 xs4 ps4 g4' HH stH _ _ _ hDH _ hz4 hfr4 pw4 ho4 _ _ TT4=>?_⟩
       have othH:∀{b:Addr}{o:HO},HG b=some o->(∀ps,o≠.tbl ps)->HH b=some o:=λh n=>stH _ _ (ltBA.ne h n) (ltPA.ne h n) (ltNA.ne h n) h;have hz4':LR (RwY ss) HH zs4 xs4:=⟨hz4.1,λj v z=>by
        obtain⟨p,x,e,f,s,h1,h2⟩:=hz4.2 j v z;exact⟨p,x,e,f,s,h1,h2,(hfr4 x (pS f)).1⟩⟩
       have eq4:xs4.map (·.1)=xs.map (·.1):=Va pw4 pw λf=>by
        rw[ho4 f,ho f];exact zbe TT4 TT f
       refine⟨_,_,Yz hDH hz4',Yz (othH hKA λ_ z=>nomatch z) (xJ hkA (λb us h=>othH h λ_ z=>nomatch z) λb _ us h=>othH h λ_ z=>nomatch z),Yd _ _,Yd _ _,?_⟩;rw[eq4,ek,Zb];exact k HH
end
variable{ps:List Str}{F:UN}{us:List pB}
theorem ar1(h:us.length=1)(f:∀x0,AF F ⟨[x0],[]⟩=pure (ps.zip [x0])):AF F ⟨us,[]⟩=pure (ps.zip us):=by
 match us,h with
 |[x0],_=>exact f x0
theorem ar2(h:us.length=2)(f:∀x0 x1,AF F ⟨[x0,x1],[]⟩=pure (ps.zip [x0,x1])):AF F ⟨us,[]⟩=pure (ps.zip us):=by
 match us,h with
 |[x0,x1],_=>exact f x0 x1
theorem ar3(h:us.length=3)(f:∀x0 x1 x2,AF F ⟨[x0,x1,x2],[]⟩=pure (ps.zip [x0,x1,x2])):AF F ⟨us,[]⟩=pure (ps.zip us):=by
 match us,h with
 |[x0,x1,x2],_=>exact f x0 x1 x2
def all_mk{l:EO}{w:uR}{K:pF}{h:Heap}{mg:Str->Option pB}{fa f0 f1 f2 f3 f4 f5 f6 f7 f8 f9 cT0 pT0 f10 cT1 pT1 f11 f12 f13 f14 f15 f16 f17 f18 f19 cT2 pT2 f20 f21 f22 f23 f24 f25 f26 f27 f28 f29 f30 f31 f32 f33 f34 f35 f36 f37 f38 f39 f40 f41 f42 f43:Addr}{d0 d1 d2 d3 d4 d5 d6 d7 d8 d11 d12 d13 d14 d15 d16 d17 d18 d20 d21 d22 d23 d24 d25 d26 d27 d28 d29 d30 d31 d32 d33 d34 d35 d36 d37 d38 d39 d40 d41 d42 d43:UN}(X:K.In h)(G:h.Ns uV mg)(hfa:mg "law"=some (.ref fa)){odT0 anT0:Option Addr}{slT0:Array (Option pB)}{oT0 kVT0 dcT0 pmT0 ctT0:pB}{tdT0:Option Addr}{tvT0:Array pB}{tsT0:Array (Option pB)}{tcT0:pB}{odT1 anT1:Option Addr}{slT1:Array (Option pB)}{oT1 kVT1 dcT1 pmT1 ctT1:pB}{tdT1:Option Addr}{tvT1:Array pB}{tsT1:Array (Option pB)}{tcT1:pB}{odT2 anT2:Option Addr}{slT2:Array (Option pB)}{oT2 kVT2 dcT2 pmT2 ctT2:pB}{tdT2:Option Addr}{tvT2:Array pB}{tsT2:Array (Option pB)}{tcT2:pB}
  (h0:Fd K "is_whole" Xo f0 d0)
  (h1:Fd K "divisor" Wx f1 d1)
  (h2:Fd K "point" X3 f2 d2)
  (h3:Fd K "before" XQ f3 d3)
  (h4:Fd K "sign_of" Xh f4 d4)
  (h5:Fd K "line_of" Wp f5 d5)
  (h6:Fd K "side_of" WT f6 d6)
  (h7:Fd K "met" YX f7 d7)
  (h8:Fd K "order_keys" XZ f8 d8)
  (a9:Qj K uV "in_order"=some (some (.ref f9)))(l9:K.lookup f9=some ⟨oT0,odT0,.func (UA "in_order" "in_order" (xt xE) (yD xE) (zp xE) .none kVT0 dcT0 pmT0 anT0 (.ref cT0) ctT0),slT0⟩)(c9:gY K (.ref cT0) "in_order"=true)(k9:AO K (.ref f9)=true)
  (lT0:K.lookup cT0=some ⟨tcT0,tdT0,.fields tvT0,tsT0⟩)(vT0:tvT0[11]?=some (.ref pT0))(hT0:Dw K cT0 pT0=true)(tT0:BF K "in_order"=some (cT0,pT0))(nT0:K.lookup pT0=none)
  (a10:Qj K uV "by_points"=some (some (.ref f10)))(l10:K.lookup f10=some ⟨oT1,odT1,.func (UA "by_points" "by_points" (xt xv) (yD xv) (zp xv) .none kVT1 dcT1 pmT1 anT1 (.ref cT1) ctT1),slT1⟩)(c10:gY K (.ref cT1) "by_points"=true)(k10:AO K (.ref f10)=true)
  (lT1:K.lookup cT1=some ⟨tcT1,tdT1,.fields tvT1,tsT1⟩)(vT1:tvT1[11]?=some (.ref pT1))(hT1:Dw K cT1 pT1=true)(tT1:BF K "by_points"=some (cT1,pT1))(nT1:K.lookup pT1=none)
  (h11:Fd K "ends_of" Wh f11 d11)
  (h12:Fd K "meet" Xp f12 d12)
  (h13:Fd K "meet_on_line" jO f13 d13)
  (h14:Fd K "stops" XX f14 d14)
  (h15:Fd K "stop_at" XM f15 d15)
  (h16:Fd K "lying_at" XT f16 d16)
  (h17:Fd K "note" XF f17 d17)
  (h18:Fd K "shared_ends" Ws f18 d18)
  (a19:Qj K uV "near_pairs"=some (some (.ref f19)))(l19:K.lookup f19=some ⟨oT2,odT2,.func (UA "near_pairs" "near_pairs" (xt xA) (yD xA) (zp xA) .none kVT2 dcT2 pmT2 anT2 (.ref cT2) ctT2),slT2⟩)(c19:gY K (.ref cT2) "near_pairs"=true)(k19:AO K (.ref f19)=true)
  (lT2:K.lookup cT2=some ⟨tcT2,tdT2,.fields tvT2,tsT2⟩)(vT2:tvT2[11]?=some (.ref pT2))(hT2:Dw K cT2 pT2=true)(tT2:BF K "near_pairs"=some (cT2,pT2))(nT2:K.lookup pT2=none)
  (h20:Fd K "pieces" Wa f20 d20)
  (h21:Fd K "_law_cell_at" WX f21 d21)
  (h22:Fd K "_law_whole" YS f22 d22)
  (h23:Fd K "_law_stream" Xa f23 d23)
  (h24:Fd K "_law_divisor" Wl f24 d24)
  (h25:Fd K "_law_lowest" X0 f25 d25)
  (h26:Fd K "_law_point" WP f26 d26)
  (h27:Fd K "_law_before" Xf f27 d27)
  (h28:Fd K "_law_turn" XL f28 d28)
  (h29:Fd K "_law_on" XB f29 d29)
  (h30:Fd K "_law_is_point" WF f30 d30)
  (h31:Fd K "_law_is_stretch" YN f31 d31)
  (h32:Fd K "_law_part" jF f32 d32)
  (h33:Fd K "_law_fan" W3 f33 d33)
  (h34:Fd K "_law_net" WB f34 d34)
  (h35:Fd K "_law_row" XU f35 d35)
  (h36:Fd K "_law_drawn" Wt f36 d36)
  (h37:Fd K "_law_comb" XG f37 d37)
  (h38:Fd K "_law_put_off" X8 f38 d38)
  (h39:Fd K "_law_stretches" vA f39 d39)
  (h40:Fd K "_law_piece" Y8 f40 d40)
  (h41:Fd K "_law_chain" WK f41 d41)
  (h42:Fd K "_law_ahead" WQ f42 d42)
  (h43:Fd K "law" X5 f43 d43)
  (eT01:pT0≠pT1)
  (eT02:pT0≠pT2)
  (eT12:pT1≠pT2)
  (z0:Qj K uV "abs"=some none)
  (z1:Qj K uV "bool"=some none)
  (z2:Qj K uV "enumerate"=some none)
  (z3:Qj K uV "int"=some none)
  (z4:Qj K uV "isinstance"=some none)
  (z5:Qj K uV "len"=some none)
  (z6:Qj K uV "list"=some none)
  (z7:Qj K uV "max"=some none)
  (z8:Qj K uV "min"=some none)
  (z9:Qj K uV "range"=some none)
  (z10:Qj K uV "sorted"=some none)
  (z11:Qj K uV "tuple"=some none)
  (z12:Qj K uV "zip"=some none)
  :∃(fd:UN)(ts:List Addr),(∀b,b∈ts->K.lookup b=none/\∃y c,y∈([uT "in_order",uT "by_points",uT "near_pairs"]:List Str)/\BF K y=some (c,b))/\(∀(s:pC)(v:pB),FY s fd ⟨[v],[]⟩ [("_law_script",v)])/\∀base:Heap,K.In base->base.Ns uV mg->(∀b,b∈ts->base.BuiltinsAt mg b)->zx l.prog w K mg base CX0 8 fa fd ["_law_script"] (qN K ts):=by
 cases hfa.symm.trans (HU X G h43.1);have FC9:wQ K "in_order" "in_order" xE f9 _ cT0 pT0:=⟨⟨_,_,_,_,_,_,_,_,rfl,l9,c9⟩,hT0⟩;have FC10:wQ K "by_points" "by_points" xv f10 _ cT1 pT1:=⟨⟨_,_,_,_,_,_,_,_,rfl,l10,c10⟩,hT1⟩;have FC19:wQ K "near_pairs" "near_pairs" xA f19 _ cT2 pT2:=⟨⟨_,_,_,_,_,_,_,_,rfl,l19,c19⟩,hT2⟩;have T:Txt K mg (λn=>[f0,f1,f2,f3,f4,f5,f6,f7,f8,f9,f10,f11,f12,f13,f14,f15,f16,f17,f18,f19,f20,f21,f22,f23,f24,f25,f26,f27,f28,f29,f30,f31,f32,f33,f34,f35,f36,f37,f38,f39,f40,f41,f42,fa,cT0,pT0,cT1,pT1,cT2,pT2].getD n 0) (λn=>[d0,d1,d2,d3,d4,d5,d6,d7,d8,UA "in_order" "in_order" (xt xE) (yD xE) (zp xE) .none kVT0 dcT0 pmT0 anT0 (.ref cT0) ctT0,UA "by_points" "by_points" (xt xv) (yD xv) (zp xv) .none kVT1 dcT1 pmT1 anT1 (.ref cT1) ctT1,d11,d12,d13,d14,d15,d16,d17,d18,UA "near_pairs" "near_pairs" (xt xA) (yD xA) (zp xA) .none kVT2 dcT2 pmT2 anT2 (.ref cT2) ctT2,d20,d21,d22,d23,d24,d25,d26,d27,d28,d29,d30,d31,d32,d33,d34,d35,d36,d37,d38,d39,d40,d41,d42,d43].getD n d43):=by
  refine⟨h0.at X G ?_,h1.at X G ?_,h2.at X G ?_,h3.at X G ?_,h4.at X G ?_,h5.at X G ?_,h6.at X G ?_,h7.at X G ?_,h8.at X G ?_,(Fd.at ⟨a9,Yg l9 c9 k9⟩ X G ?_),FC9,(Fd.at ⟨a10,Yg l10 c10 k10⟩ X G ?_),FC10,h11.at X G ?_,h12.at X G ?_,h13.at X G ?_,h14.at X G ?_,h15.at X G ?_,h16.at X G ?_,h17.at X G ?_,h18.at X G ?_,(Fd.at ⟨a19,Yg l19 c19 k19⟩ X G ?_),FC19,h20.at X G ?_,h21.at X G ?_,h22.at X G ?_,h23.at X G ?_,h24.at X G ?_,h25.at X G ?_,h26.at X G ?_,h27.at X G ?_,h28.at X G ?_,h29.at X G ?_,h30.at X G ?_,h31.at X G ?_,h32.at X G ?_,h33.at X G ?_,h34.at X G ?_,h35.at X G ?_,h36.at X G ?_,h37.at X G ?_,h38.at X G ?_,h39.at X G ?_,h40.at X G ?_,h41.at X G ?_,h42.at X G ?_,h43.at X G ?_,eT01,eT02,eT12,QU X G z0,QU X G z1,QU X G z2,QU X G z3,QU X G z4,QU X G z5,QU X G z6,QU X G z7,QU X G z8,QU X G z9,QU X G z10,QU X G z11,QU X G z12⟩
  all_goals
   intro _ _ _ _ _ _ us hl
   first|exact ar1 hl λ_=>rfl|exact ar2 hl λ_ _=>rfl|exact ar3 hl λ_ _ _=>rfl
 refine⟨_,[pT0,pT1,pT2],λb hb=>?_,?bnd,λbase hK _ hB=>ok_law T hK hB⟩;simp only[pR,QJ,or_false] at hb;rcases hb with rfl|rfl|rfl
 ·exact⟨nT0,_,cT0,by simp,tT0⟩
 ·exact⟨nT1,_,cT1,by simp,tT1⟩
 ·exact⟨nT2,_,cT2,by simp,tT2⟩
 obtain⟨_,⟨⟨oc,od,kV,doc,pm,an,cdv,ct,osl,e,_⟩,_⟩⟩:=h43;subst e;exact λs v=>.of_eq rfl
def walk{l:EO}{q:pi}{loose:List Str}{XP:(Str->Option pB)->Heap->Prop}{YP:uR->Heap->Prop}{d:DefRec}{K:Params->pF}(hn:l.most=some 63)(hdf:d.params.defaults=[])
  (hY:∀(w:uR)(h:Heap),YP w h->(K w.params).In h)(hD:∀y,y∈([uT "in_order",uT "by_points",uT "near_pairs"]:List Str)->∃e,(PyProof.Rows.recsOf q).find? (λe=>e.name==y)=some e)
  (F:∀(w:uR)(mg:Str->Option pB)(fa:Addr)(h:Heap),(K w.params).In h->h.Ns uV mg->mg d.name=some (.ref fa)->
   ∃(fd:UN)(ts:List Addr),(∀b,b∈ts->(K w.params).lookup b=none/\∃y c,y∈([uT "in_order",uT "by_points",uT "near_pairs"]:List Str)/\BF (K w.params) y=some (c,b))/\(∀(s:pC)(u:pB),FY s fd ⟨[u],[]⟩ [("_law_script",u)])/\∀base:Heap,(K w.params).In base->base.Ns uV mg->(∀b,b∈ts->base.BuiltinsAt mg b)->zx l.prog w (K w.params) mg base CX0 8 fa fd ["_law_script"] (qN (K w.params) ts)):
  HN q loose XP YP l.row.toRowW d [] (λf vs=>Gv f vs):=
 L2.walk_ofT (n:=63) (k:=8) (x:="_law_script") (CX:=λ_=>CX0) (sp:=λw ts=>qN (K w.params) ts) (ds:=[uT "in_order",uT "by_points",uT "near_pairs"]) hn (by decide) hdf ⟨rfl,by decide,by decide⟩ hY hD F (λ_ _ a ns ts hl hO hS=>⟨a,ns,rfl,hS,hl,λb hb _ _=>zc6 (hO.tabs b hb),λ_=>rfl⟩) λ_ _ _ _ _ z=>z
end Mine
set_option genInjectivity false
set_option genSizeOf false
structure PySem.W.Fast:Prop where(tw18253689536336989032 tw12371967464633727108 tw3476445506612059238 tw2179960271897364887 tw4182856855869123591 tw10058992171008732392 tw12870211399205607977 tw17245736371809106585 tw10628580105006969023 tw7400378030511989744 tw10992717218077555313 tw14587734953641362986 tw15034638259815416001 tw11641870930692023044 tw9731141962111833665 tw18330582082665486387 tw16702402326577904224 tw17898342691552614560 tw6852483207944572097 tw14071556593229949307 tw5949966847712523304 tw7668292047780563739 tw4478844136727169021 tw5581901578929836154 tw15422672311276182428 tw9419410695487330200 tw3191171111112201608 tw2419044668906715648 tw15844437904465093883 tw7310568413098130605 tw4695146153186224362 tw12393358267201965228 tw7553128757740396365 tw9564808169042118781 tw7846833793409050108 tw11408216657533984886 tw4048302057918348759 tw17859970692462049218 tw13600227657821778396 tw2664496442254340107 tw4416979096176275827 tw17318745321609870557 tw10419331699668870054 tw8592953122781297549 tw4287507759322920272 tw15990224560314635799 tw15957103589856620062 tw4593937544380132739 tw4844625656494595419 tw1300115956769187425 tw6729597668043011770 tw16351429430856191937 tw11563753315404214048 tw15033241310443270414 tw5049172469847238230 tw6528166362175344093 tw15019962535565717662 tw9625467776731939875 tw642506507349146618 tw17968969007179146557 tw1079129295248481003 tw3315325983889164785 tw14112412814950877235 tw259896398002501490 tw10270546077161355349 tw7584345981897530249 tw5123913114799806850 tw11102477028445449679 tw11747523060494110631 tw6576404931045370943 tw4241327277238048735 tw3463967292932846507 tw2831523240801091738 tw2299003678229124396 tw14310253130649400190 tw1519403777178880219 tw5363027159422760704 tw143752016158205966 tw1798500492238028145 tw745668061287883100 tw1711911844303198496 tw13479312407855836348 tw10931741194308414531 tw3042849774423557925 tw5549975787077546682 tw5655680011153207446 tw3275739634110891866 tw1125431775855300934 tw14816990855933270852 tw2043452684370375624 tw12299553217549953737 tw348313298279908241 tw2167679152456801034 tw7110836299110237569 tw16319650003833884943 tw17124645113060204472 tw13106074885811876365 tw3305951991815014560 tw8177317700257737966 tw4154704586992305080 tw819581338516933051 tw5820135514821483515 tw3607199325672985359 tw14555479644112793593 tw3030411557238530775 tw540160531115063689 tw9404035635233694090 tw9000483968274258706 tw1882860400274350086 tw12301985546608593772 tw12563098949454780335 tw1035882150873011547 tw9966602768428346908 tw475587514757917670 tw922906809245310296 tw12019137374121542637 tw2644386816139221589 tw3445870578956873353 tw10167483280229910867 tw2246853844842266013 tw13489723564904696795 tw7557488449641065743 tw3111200397569988576 tw17166279318494147944 tw5234010354286724893 tw5549295157472612251 tw11801351344492439490 tw5579128868458941282 tw13373053554364319932 tw12431799721449109801 tw3590992875348958550 tw6612891441725414466 tw9084481285545179670 tw4351667437895224695 tw18158095824698916850 tw14238636496782254471 tw10700690131252870596 tw12490700687642922734 tw681909757074912309 tw9651137723602770440 tw16549986459295719798 tw4541154648967112987 tw14523661567936897758 tw5585942906787384297 tw13175587588793328065 tw4900114949895923449 tw3198260896045425109 tw14667384473534165771 tw15220931295716293022 tw15655309053561918212 tw1745551117752655592 tw12591841860646995773 tw9950493972419874844 tw12155195955280399167 tw7002573355619292393 tw16894696010566292729 tw7502537623073651452 tw3569734382439545260 tw6508651708019582225 tw3764303744907976539 tw8121042295460611147 tw3150283896356680988 tw9179756623260040892 tw13341192491544232440 tw13799457042179673264 tw7870541100050969968 tw10122488165849661549 tw6130164811987744826 tw17250276166541042970 tw11581493904615680571 tw14268404730778782678 tw5042717888141520017 tw13781422060524053398 tw5896319424268461614 tw16445532727993310009 tw17401409331116930049 tw14153711791171676456 tw15955263175987985347 tw11719121756563311365 tw10294273240780162588 tw9830872812851483599 tw12757369932394568274 tw12416996505542895659 tw12437466931223561378 tw11795182079076866602 tw10762652118026280548 tw1167014965188130905 tw4431862098523512993 tw6559191562414123885 tw12373182000263517910 tw6798208415271564745 tw4118204668268937040:True)
open PySem PySem.W PyProof.Rows
set_option maxRecDepth 100000 in
set_option maxHeartbeats 0 in
theorem PySem.Challenge.cw_acre_k15_pieces_end_to_end_holds : PySem.Challenge.rw_acre_k15_pieces_end_to_end.Holds := by
 w_on;o_law;k_head;(case hw=>w_witness2)
 k_fill
 refine Mine.walk (l:=PySem.Challenge.rw_acre_k15_pieces_end_to_end) rfl rfl (λw h Y=>PySem.W.km_in_of Y) (λy hy=>by simp only[pR,QJ,or_false] at hy;rcases hy with rfl|rfl|rfl<;>exact⟨_,rfl⟩) ?F
 case F=>
  intro w mg fa h KX G hmg
  refine' Mine.all_mk KX G hmg ?h0 ?h1 ?h2 ?h3 ?h4 ?h5 ?h6 ?h7 ?h8 ?a9 ?l9 ?c9 ?k9 ?lT0 ?vT0 ?hT0 ?tT0 ?nT0 ?a10 ?l10 ?c10 ?k10 ?lT1 ?vT1 ?hT1 ?tT1 ?nT1 ?h11 ?h12 ?h13 ?h14 ?h15 ?h16 ?h17 ?h18 ?a19 ?l19 ?c19 ?k19 ?lT2 ?vT2 ?hT2 ?tT2 ?nT2 ?h20 ?h21 ?h22 ?h23 ?h24 ?h25 ?h26 ?h27 ?h28 ?h29 ?h30 ?h31 ?h32 ?h33 ?h34 ?h35 ?h36 ?h37 ?h38 ?h39 ?h40 ?h41 ?h42 ?h43 ?eT01 ?eT02 ?eT12 ?z0 ?z1 ?z2 ?z3 ?z4 ?z5 ?z6 ?z7 ?z8 ?z9 ?z10 ?z11 ?z12
  all_goals (try (refine' Mine.fd_mk ?a ?l ?c ?k;(case a=>k_is);(case l=>k_is);(case c=>k_is);(case k=>k_is)))
  (case a9=>k_is)
  (case l9=>k_is)
  (case c9=>k_is)
  (case k9=>k_is)
  (case lT0=>k_is)
  (case vT0=>rfl)
  (case hT0=>kernel_rfl)
  (case tT0=>kernel_rfl)
  (case nT0=>kernel_rfl)
  (case a10=>k_is)
  (case l10=>k_is)
  (case c10=>k_is)
  (case k10=>k_is)
  (case lT1=>k_is)
  (case vT1=>rfl)
  (case hT1=>kernel_rfl)
  (case tT1=>kernel_rfl)
  (case nT1=>kernel_rfl)
  (case a19=>k_is)
  (case l19=>k_is)
  (case c19=>k_is)
  (case k19=>k_is)
  (case lT2=>k_is)
  (case vT2=>rfl)
  (case hT2=>kernel_rfl)
  (case tT2=>kernel_rfl)
  (case nT2=>kernel_rfl)
  (case eT01=>decide)
  (case eT02=>decide)
  (case eT12=>decide)
  (case z0=>k_is)
  (case z1=>k_is)
  (case z2=>k_is)
  (case z3=>k_is)
  (case z4=>k_is)
  (case z5=>k_is)
  (case z6=>k_is)
  (case z7=>k_is)
  (case z8=>k_is)
  (case z9=>k_is)
  (case z10=>k_is)
  (case z11=>k_is)
  (case z12=>k_is)
