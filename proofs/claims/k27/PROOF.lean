import PyProof.Rows.All
import Wide.All
import OpenK.AllK
import Wide.FinOn
import Lean
import PyProof.EqAt
import PyProof.EqKinds
import PyProof.TupleCall
import PySem.Challenge.RW_acre_k27_whole_the_same_land
open Option renaming bind_eq_some_iff->kA,bind_some->kB,bind_assoc->uJ,map_eq_some_iff->uW,map_some->Um,toList->CL,bind->CP,isSome_map->GC,getD_none->Gc
open PySem renaming wpAny_bind->kC,Value->kL,wpAny_pure->kO,Shared->kR,starEach->pO,mainGlobals->uX,bootBuiltins->uw,wpAny_Call_Name_kw->QI,mem_of_lookup->QL,wpAny_seqItems->QQ,wpAny_callSpecial?_slot->Qa,Around->Qd,backTo->Qh,FuncData->Qn,compareOp->Qp,Program->Qq,wpAny_mono->Qr,wpAny_execs_cons->Qx,wpAny_call_entry->Qy,wpAny_truthy_bool->UG,wpAny_field->UJ,wpAny_newObj_type->Ua,isSubtype_type->Ub,wpAny_rule->Ud,wpAny_execs_nil->Uj,wpAny_passesOwn->Uk,keywordEach->Ul,codeAny_builtin->Un,swapsWith->Ur,wpAny_typeNameOfWhole_keyiter->hW,wpAny_Assign_Name->gC,sysModules->gE,wpAny_updateSeq->gG,plainId_quiet->gO,wpAny_isInstance->gP,builtinLookup_eq_fast->gV,foldedSetIterable->gY,codeAny_mono->gh,behindInMarks->AA,wpAny_attempt->AC,wpAny_holding->AD,wpAny_typeNameOf_keyiter->AE,rawInt->AI,IsPair->AK,wpAny_letGo->AN,wpAny_Assign_Subscript->AS,wpAny_setField_rec->AT,backToKw->Aa,wpAny_loadPart'->Ab,call_isinstance->Ac,Paired->Ae,codeAny->Ak,Builtin->Am,firstArgMember->At,pyNext->BB,bindArgs->BF,wpAny_specialOf->BK,argBest->BL,typeLookup_type->BM,wpAny_Constant_int->BO,sliceBounds->BT,isSubtype->BU,DictEntry->BV,Fin->BW,wpAny_setField->Bb,wpAny_tryCatch->Be,wpAny_dictEntries->Bf,wpAny_isTrue_Compare1->Bv,wpAny_isOneOf_keyiter->Bx,Spec->CC,call_meets->CE,compEnvC->CN,letOwnedTupleGo->CQ,seqItems?->Cc,wpAny_Name->Cd,wpAny_pyIter_tuple->Cf,recursionLimit->Cg,NameKind->Ci,wpAny_newFunctionEnv_cells->Cj,wpAny_fieldsOf->Cn,wpAny_BinOp->DF,slot_list_getitem->DG,wpAny_pyIter_list->DH,list_append->DL,wpAny_of_eq->DM,wpAny_standAt->DW,wpAny_newList->DZ,wpAny_forIn_list->De,callWith->Du,wpAny_pyIter_zip->Dw,builtinsNs->ED,seqIndex_neg->EF,wpAny_getItem_list_neg->EG,assignEach->EH,wpAny_call->EJ,closureFor->EM,richCompare_meets_room->EQ,wpAny_dictEpoch->EY,wpAny_storeName_local->Ea,codeAny_call_function->Eb,wpAny_notOrdered_dict->Ed,wpAny_loadName_local->Ek,intBits_le_iff->El,seqIndex_of->Em,wpAny_Expr_any->Ep,wpAny_newFunctionEnv->Er,wpAny_updateSeq_pair->Et,isSubtype_stop->Eu,wpAny_pyIter_keyiter->Ew,codeAny_extend_loopS->Ex,dictSetDefault->FB,intKind->FP,eqIsQuiet->FQ,getItem->FR,BindsTo->FS,Arguments->FT,wpAny_handled->Fc,wpAny_onRaise->Fe,Result->Fl,typeLookup->Fm,wpAny_evalAll_cons->Fp,wpAny_Return_some->Fx,wpAny_assign_Name->Fy,codeAny_whileLoop->Fz,storedH->GB,call_meetsIn->GD,wpAny_pyIter_slot->GF,ItemsOf->GG,wpAny_typeOf->GH,wpAny_pyIter_enum->GJ,wpAny_evalAll_nil->GN,wpAny_pyHash_int->GV,PyData->GW,storeName->GX,wpAny_Dict_empty->Ga,noFill_tuple_add->Gb,updateSeq->Ge,checkBuiltinCall->Gf,entryFor_of_tree->Gg,wpAny_throw->Gz,richCompare->HA,storedH_new->HB,codeAny_of_tree->HH,callerA->HS,ReadsAll->HU,entryOfKey->HV,pyIter->HW,newExc->HY,argsOk->HZ,call->Hb,defaultsOf->Hc,tupleKind->Hr,cellsFrom->Hs,typeOf->Hw,sizeLine->μ,wpAny->ν,model->ο,cLine->a7
open List renaming getElem?_eq_some_iff->kE,getD_eq_getElem?_getD->kG,getElem?_eq_getElem->kH,length_map->kJ,range->kM,map_cons->kN,mem_of_getElem?->kT,length_append->kW,getElem?_map->kX,length_cons->kZ,mem_filter->ke,mem_cons->kg,mem_map->kh,mem_singleton->ki,map_append->ku,length_take->pC,mem_append->pD,length_range->pE,mem_cons_self->pH,mem_iff_getElem?->pJ,mem_cons_of_mem->pT,take_add_one->pU,getElem?_cons_succ->pX,getElem?_cons_zero->pY,length_filter_le->pZ,mem_range->pe,size_toArray->ph,pairwise_iff_getElem->po,mem_iff_getElem->uA,getElem?_eq_none->uE,length_drop->uF,pairwise_cons->uI,getElem?_range->uM,mem_append_left->uO,take_append_drop->uP,mem_append_right->uQ,length_nil->uS,take_length->uY,map_map->uc,append_assoc->ui,getElem_mem->uq,nodup_append->QG,getElem?_append_right->QH,pairwise_singleton->QK,append_nil->QM,nodup_cons->QN,not_mem_nil->QO,mem_reverse->QP,take_of_length_le->QT,length_singleton->QU,flatMap_append->QW,lookup_cons->QZ,drop_eq_getElem_cons->Qf,set_cons_succ->Qi,length_zip->Qk,cons_append->Qm,pairwise_append->Qs,set_cons_zero->Qu,length_set->Qv,map_nil->UA,filter_cons->UB,getElem?_append_left->UC,map_congr_left->UF,ext_getElem?->UH,eq_nil_of_length_eq_zero->UI,flatMap_cons->UM,mem_of_mem_take->UV,getElem_drop->Ug,length_reverse->Ui,zip_cons_cons->Us,all_eq_true->Ut,getElem?_drop->Uu,getElem?_take->Uw,mem_flatMap->Uy,getElem?_set_ne->hZ,getElem_take->gD,zipWith_cons_cons->gI,getElem?_set_self->gJ,filter_append->gS,length_replicate->gU,nil_append->gW,reduceReplicate->gw,drop_drop->AL,toArray->AQ,of_mem_zip->AZ,getElem?_toArray->Ag,modify_succ_cons->Ah,modify_zero_cons->Ai,getElem?_set->Aj,reverse_perm->Ao,length_filter_lt_length_iff_exists->Ar,mem_of_mem_drop->Au,perm_ext_iff_of_nodup->Ax,zipWith->Ay,getElem?_replicate->BS,reverse_cons->Bh,drop_zero->Bj,drop_eq_nil_of_le->Bm,drop_of_length_le->Bo,take_zero->Bq,filter_congr->Br,pairwise_map->Bt,set->Bu,getElem?_zipWith->By,map_snd_zip->CF,eq_nil_iff_forall_not_mem->CH,getElem?_modify->CM,forIn_cons->CS,foldl_cons->CW,drop_take->Cq,filter_filter->Cw,exists_mem_of_ne_nil->DD,take_sublist->DI,length->DJ,filter->DQ,getElem_inj->Dg,zipIdx_cons->Do,nodup_range->EC,map_set->ET,length_eq_one_iff->EV,zip_append->EW,getElem?_reverse->Ef,replicate->Ej,forIn_nil->Es,drop_eq_nil_iff->FF,take_take->FJ,length_zipWith->FV,reverse_append->FZ,map_singleton->Fw,zip_nil_left->GL,drop_length->GY,map_fst_zip->GZ,ext_getElem->Gi,take_append->Gm,getElem_map->Gp,map_reverse->Gq,zipIdx_nil->HG,range_succ->HR
open PySem.Heap renaming get?_push_of_some->kK,get?_push_size->kf,get?_update_other->uH,get?_none_of_le->uN,lt_size->uU,get?_update_self->QJ,SameBut->UQ,size_push->gQ,get?_update_ne->FW,size_update->Gh,ExtBut->Gy,IsTuple->Hx
open Int renaming le_of_lt->kY,mul_eq_zero->kj,mul_neg_of_neg_of_pos->pR,mul_nonneg->pg,mul_nonpos_of_nonpos_of_nonneg->pi,mul_pos->uB,zero_mul->uL,mul_zero->uR,mul_comm->ud,toNat_natCast->QS,fmod_nonneg_of_pos->Qj,one_mul->UL,fmod_lt_of_pos->UT,natAbs_mul->Uh,mul_le_mul_of_nonneg_right->Ux,neg_mul->gA,lt_or_le->gL,add_zero->gM,le_refl->gq,neg_zero->gv,mul_le_mul_of_nonneg_left->AO,fdiv_eq_ediv_of_nonneg->Av,zero_add->Bg,fmod_add_mul_fdiv->Bz,le_ediv_of_mul_le->CB,mul_ediv_mul_of_pos_left->CX,mul_lt_mul_of_pos_right->Ca,add_comm->Cb,ofNat_dvd_left->Ct,eq_of_mul_eq_mul_right->Cu,le_of_mul_le_mul_right->Cv,mul_pos_of_neg_of_neg->DB,mul_neg->DP,not_lt->ES,not_le->EU,le_antisymm->EZ,natAbs_natCast->Fu,sub_zero->GI,le_trans->GO,ediv_mul_le->HP,natAbs_dvd->Hf,lt_irrefl->Ho,lt_asymm->IC,sub_self->IF,zero_sub->IG
open PyProof.Rows renaming wpS_bind->kn,wpS_pure->pP,Keyed->pS,pendingOf->uC,SortSt->uV,seqObj->QA,wpS_forRange->QV,callWith_type1->UX,listItems_at->Ue,wpS_modify->Uv,wpS_mono->gH,SortKind->gu,callWith_builtin1->AJ,IntsAre->An,setArr->BE,get?_update_seq->BN,subscriptTail_builtinR->BY,failedOf->Bi,wpS_get->CJ,envOfC->CR,mirror_perm->DN,listUpdate_at->Da,lt_int->Df,wpS_lift->Dx,AllBare->EE,keyKind'->FG,gallopOf->FI,mirror_size->FL,getElem?_mirror_all->FX,subscriptTail->Fb,Subscript_->Fj,setPending->Ft,ksk_end->GP,keyLt'->Gj,bubble_perm->HC,getElem?_bubble->HI,arrOf->a0
open Lean renaming maxHeartbeats->kz,mkIdent->GR
open Bool renaming false_ne_true->pF,and_eq_true->ue,false_eq_true->uk,eq_false_iff->Qc,true_and->UO,not_eq_true'->Uf,false_xor->Bn,not_eq_false'->Cp,xor_comm->Dd,not_eq_true->EB,eq_iff_iff->EX,xor_false->FM,xor_assoc->FO,or_false->Fg,and_true->Fh,noConfusion->Gs,not_or->HE,false_and->HX,not_true->Hi,true_xor->Hm,and_comm->Hp,not_not->IE
open Prod renaming fst->pG,ext->Qo,snd->Ey
open Nat renaming le_refl->pI,le_trans->uK,zero_le->QB,ne_of_lt->QC,lt_of_le_of_lt->Qt,reduceAdd->hU,lt_of_lt_of_le->gR,le_of_lt->AR,lt_or_eq_of_le->AW,lt_trichotomy->Aq,pow_le_pow_right->Aw,ne_of_gt->Bc,add_zero->Bl,succ_pos->Bp,lt_succ_self->CD,add_assoc->CI,reduceSub->CK,min_eq_left->CU,gcd_dvd_right->DO,xor_assoc->Dc,mul_lt_mul''->Dz,gcd_dvd_left->EA,pow_succ->ER,le_succ->Ez,lt_or_gt_of_ne->Fv,sub_self->GK,lt_succ_of_lt->GM,zero_add->GT,gcd_mul_right->GU,le_max_right->Gn,zero_lt_one->HK,min_le_left->HM,testBit_xor->HQ,not_lt->Hd,mul_le_mul->Hg,dvd_trans->Hn,add_comm->Hy,le_of_eq->Hz,sub_zero->IA,lt_or_ge->IB,zero_xor->ID,pow_add->IL,one_mul->IM,gcd->IQ
open Array renaming length_toList->pL,getElem?_eq_getElem->uG,toList_append->uT,getElem?_toList->uh,getD_eq_getD_getElem?->QE,getElem_mem->UK,getElem_toList->UW,getElem?_eq_none->AU,getD->AX,size_extract->BR,toList_push->Bk,toList_inj->CG,toList_reverse->CO,perm_iff_toList_perm->Co,getElem_extract->Eh,mem_toList_iff->FH,toList_modify->FY,forIn_toList->Fi,toList_zip->Gk,size->IN
open PySem.Obj renaming mapSeq->pW,data_mapFields->BQ,isFreed_of_fields->Ec,data_mapDictKeys->FE,mapFields->Ff,cls_mapFields->GE
open Classical renaming byContradiction->pv
open Option.some renaming inj->uD,injEq->Ba
open PySem.Calls renaming spliced_cons->uZ,spliced_nil->Qb,Name_function_global->Ce,evalArgs_plain->Eo
open PySem.Builtin.List renaming listExtendWith->uj,listSameRef->AF,listItems->AV,listTooLong->BG,listLengthHint->CY,listUpdate->Dp
open PySem.W renaming mg_none_of->ut,nsIn->QX,Frag->Qw,fnOf->gZ,codeHd_of_K->AH,hideAll->Ad,keepIn->BZ,codeIn->Ch,callWith_K->Ck,tabIn->Db,cellsFrom_some->EI,hideAll_get->Fa,codeRec_of->Fk,kat_cons->Go,codeHdIn->Gu,kat_yes->HN,OpenLaw->HO,kat_no->He,mg_of->Hq
open PySem.PyData renaming canLayAll0->uz,depthAll->QY,canLay0->UY,depth->UZ,eqv->Uo,eqvAll->Uz,int->AY,tuple->GQ
open PySem.Str renaming ofString->QD
open PySem.NameKind renaming free->QF,cell->BI
open List.Pairwise renaming filter->Qe,imp_of_mem->AG
open PySem.Builtin.SmallTypes renaming nextOf->Qg,ownedTupleIsFree->UN,ownedTupleHandOut->BC
open PySem.Value renaming ref->Ql,none->UD,type->UR,isInt_shape->DE,isInt->Gw,isStrOf->Hh,int->IR
open PySem.F renaming plain_max_loop->Qz,slot_dict_keyiterator_next->US,slot_tuple_iterator_next->Uc,slot_list_append->hH,slot_zip_next->Af,args_list_append_2->As,entry_list_append->BA,args_dict_keyiterator_next_1->BD,slot_list_extend->BH,entry_dict_keyiterator_next->BJ,args_tuple_iterator_next_1->BP,entry_tuple_iterator_next->BX,entry_max_loop->Bd,slot_dict_get->Bw,slot_dict_setdefault->CV,args_list_extend_2->Cm,entry_list_extend->Cy,slot_dict_getitem->Cz,plain_extend_loop->DA,type_list_append->DU,slot_list_insert->DV,args_tuple_add_2->DX,args_list_init_2->DY,plainAttrs_list->Di,args_dict_get_3->Dj,plainAttrs_dict->Dk,entry_tuple_add->Dl,args_zip_next_1->Dm,typeCall_list_1->Dq,entry_list_init->Ds,entry_dict_get->EL,slot_tuple_add->EN,entry_zip_next->EO,slot_dict_iter->EP,slot_list_lt->FK,called_list->FU
open PySem.Heap.SameBut renaming update->UE
open PySem.SeqAt renaming shaped->UP,eqBoolOverData->Cr
open PySem.Around renaming under_plainId->UU
open False renaming elim->Uq
open Ne renaming symm->gB
open PySem.MeetsSeq3 renaming plain_eq_loop->AM,entry_eq_loop->Dy
open PySem.Builtin.Tuple renaming tupleHashOf->Az
open PySem.Builtin.Dict_items renaming ownsTuple->CT
open PySem.Builtin.Builtins renaming bindParams->CZ
open PyProof renaming noPylong_of_log2->DR
open PySem.Paired renaming length->DS
open PySem.IsL renaming update->Dh
open PySem.Builtin.Range renaming rangeSize->Dv
open PySem.AutoSeq1 renaming sub_list_list->EK
open PySem.Builtin.Dict renaming showsAll->Ee
open List.Perm renaming append_left->Eg
open PySem.Builtin renaming bitXor->Ei
open ToString renaming toString->Ev
open Prod.mk renaming inj->FN,injEq->Hl
open PySem.Code renaming quiet_builtin->Fo
open PyProof.Rows.SortSt renaming mk'->Fq
open Sum.inl renaming inj->HD
open ForInStep renaming yield->HF
open StateT renaming run_pure->HJ
open Array.Perm renaming refl->HL
open PySem.Manifest renaming find?->Ha
open PySem.Shared renaming TypeIs->Hj,heap->IH
open PySem.Moved renaming eq_with->Hk
open LawfulMonad renaming pure_bind->Ht
open LawfulBEq renaming eq_of_beq->Hu
open Nat.succ renaming inj->Hv
open PySem.ItemsOf renaming nil->II
open PySem.IsRange renaming new->IJ
open Sum renaming inl->IP
open PyProof.Rows.IsTup renaming new->IS
set_option Elab.async false
set_option linter.all false
set_option maxRecDepth 100000
set_option maxHeartbeats 4000000
set_option compiler.extract_closed false
set_option bootstrap.genMatcherCode false
set_option genSizeOfSpec false
def θ:=@if_pos
def η:=@if_neg
def ι:=@decide_eq_false
def ζ:=@decide_eq_true
def ξ:=@of_decide_eq_true
def ω:=@decide_eq_decide
def τ:=@decide_eq_true_iff
def χ:=@beq_self_eq_true
def υ:=@congrArg
noncomputable section
namespace L2
open PySem PySem.Spec PyProof.Rows
abbrev eh:=Sum Int Str
noncomputable def vS:eh->kL->Bool
 |.inl k,v=>Gw k v
 |.inr x,v=>Hh x v
noncomputable def keyH(w:World):eh->Int
 |.inl k=>hashInt k
 |.inr x=>hashStr w x
theorem wR:∀{k:eh}{v:kL},vS k v=true->(∃i t,k=IP i/\v=IR i t)\/(∃x t,k=Sum.inr x/\v=Value.str x t)
 |.inl i,v,h=>by
  obtain⟨t,e⟩:=DE (k:=i) (v:=v) h;exact .inl ⟨i,t,rfl,e⟩
 |.inr x,v,h=>by
  obtain⟨t,e⟩:=Value.isStrOf_shape (x:=x) (v:=v) h;exact .inr ⟨x,t,rfl,e⟩
def zdh(i:Int)(t:Tok):vS (.inl i) (.int i t)=true:=by simp[vS,Gw]
def zbf(x:Str)(t:Tok):vS (.inr x) (.str x t)=true:=by simp[vS,Hh]
noncomputable def wW(prog:Qq)(w:World):PySem.KeyKind prog w eh where
 is:=vS
 hash:=keyH w
 inj:=λv a b ha hb=>by
  rcases wR ha with⟨i,t,rfl,rfl⟩|⟨x,t,rfl,rfl⟩<;>rcases wR hb with⟨j,u,rfl,e⟩|⟨y,u,rfl,e⟩<;>cases e<;>rfl
 byValue:=λk v h=>by rcases wR h with⟨i,t,rfl,rfl⟩|⟨x,t,rfl,rfl⟩<;>rfl
 pyHash:=λhv h=>by
  rcases wR hv with⟨i,t,rfl,rfl⟩|⟨x,t,rfl,rfl⟩
  ·exact GV h
  ·exact wpAny_pyHash_str h
 eqBool:=λhu hv h=>by
  rcases wR hu with⟨i,t,rfl,rfl⟩|⟨x,t,rfl,rfl⟩<;>rcases wR hv with⟨j,u,rfl,rfl⟩|⟨y,u,rfl,rfl⟩
  ·exact wpAny_eqBool_int (by rw[show decide ((IP i:eh)=.inl j)=(i==j) from by by_cases e:i=j<;>simp[e]] at h;exact h)
  ·exact SeqAt.EqAt.int_str i t y u _ _ _ _ (by simpa using h)
  ·exact SeqAt.EqAt.str_int x t j u _ _ _ _ (by simpa using h)
  ·exact wpAny_eqBool_str (by simpa using h)
 «strs»:=λk x t v h=>by
  rcases wR h with⟨i,u,rfl,e⟩|⟨y,u,rfl,e⟩<;>cases e
  cases v<;>rfl
abbrev KI:=Int ⊕ List Int
abbrev KT:=List KI
noncomputable def fN:KI->GW
 |.inl k=>.int k
 |.inr l=>.tuple (l.map .int)
section
variable{prog:Qq}{w:World}{A:Qd}{E:kL->kR->Prop}{s:kR}{h h':Heap}{O:Addr->Prop}
inductive IT(prog:Qq)(w:World)(O:Addr->Prop)(h:Heap):KT->List kL->Prop
 |nil:IT prog w O h [] []
 |a {k t ks vs}:IT prog w O h ks vs->IT prog w O h (.inl k::ks) (.int k t::vs)
 |t {l b ks vs}:¬O b->IsTupleKey (FP prog w) h l b->IT prog w O h ks vs->IT prog w O h (.inr l::ks) (.ref b::vs)
def IK(prog:Qq)(w:World)(O:Addr->Prop)(h:Heap)(k:KT)(a:Addr):Prop:=¬O a/\∃o items n,h.get? a=some o/\o.cls=.type "tuple"/\o.data=.seq items n/\IT prog w O h k items.toList
noncomputable def iH(w:World)(prog:Qq):KI->Int
 |.inl k=>hashInt k
 |.inr l=>tupleKeyHash (FP prog w) l
noncomputable def iN:KI->Nat
 |.inl _=>1
 |.inr l=>l.length+1
variable{vs:List kL}
theorem zc0{l:List Int}(e:ItemsAre (FP prog w) l vs):HU h vs (l.map .int) []:=by
 induction e with
 |nil=>exact .nil
 |cons k _ ih=>obtain⟨t,rfl⟩:=DE k;exact .cons (as:=[]) (bs:=[]) (.int _ t) ih
variable{k:KT}
theorem IT.read(e:IT prog w O h k vs):HU h vs (k.map fN) []:=by
 induction e with
 |nil=>exact .nil
 |a _ ih=>exact .cons (as:=[]) (bs:=[]) (.int _ _) ih
 |t _ k _ ih=>obtain⟨o,bE,n,h1,h2,h3,h4⟩:=k;exact .cons (as:=[]) (bs:=[]) (.tuple h1 h2 h3 (zc0 h4)) ih
variable{a:Addr}
def IK.read(e:IK prog w O h k a):Reads h (.ref a) (.tuple (k.map fN)) []:=by
 obtain⟨_,o,bE,n,h1,h2,h3,h4⟩:=e;exact .tuple h1 h2 h3 h4.read
theorem Vx:∀{a b:List Int},Uz (a.map .int) (b.map .int)=decide (a=b)
 |[],[]=>rfl
 |[],_::_=>rfl
 |_::_,[]=>rfl
 |a::as,b::bs=>by
  show(a==b&&Uz (as.map .int) (bs.map .int))=_
  rw[Vx];by_cases e:a=b<;>simp[e]
theorem Nd{a b:KI}:Uo (fN a) (fN b)=decide (a=b):=by
 cases a with
 |inl a=>cases b with
  |inl b=>show(a==b)=_;by_cases e:a=b<;>simp[e]
  |inr b=>rfl
 |inr a=>cases b with
  |inl b=>rfl
  |inr b=>show Uz (a.map .int) (b.map .int)=_;rw[Vx];simp
theorem YZ:∀{a b:KT},Uz (a.map fN) (b.map fN)=decide (a=b)
 |[],[]=>rfl
 |[],_::_=>rfl
 |_::_,[]=>rfl
 |a::as,b::bs=>by
  show(Uo (fN a) (fN b)&&Uz (as.map fN) (bs.map fN))=_
  rw[Nd,YZ];by_cases e:a=b<;>simp[e]
theorem L9:∀l:List Int,uz (l.map .int)=true/\QY (l.map .int)=0
 |[]=>⟨rfl,rfl⟩
 |k::l=>by
  obtain⟨h1,h2⟩:=L9 l
  constructor
  ·simpa[uz,UY] using h1
  ·simpa[QY,UZ] using h2
theorem jY:∀l:KT,uz (l.map fN)=true/\QY (l.map fN)<=1
 |[]=>⟨rfl,by simp[QY]⟩
 |k::l=>by
  obtain⟨h1,h2⟩:=jY l
  cases k with
  |inl k=>exact⟨by simpa[uz,UY,fN] using h1,by simpa[QY,UZ,fN] using h2⟩
  |inr k=>
   obtain⟨h3,h4⟩:=L9 k;exact⟨by simpa[uz,UY,fN,h3] using h1,by simp[QY,UZ,fN,h4];lia⟩
def IK.inj{l:KT}(x:IK prog w O h k a)(y:IK prog w O h l a):k=l:=by
 have e:=SeqAt.Reads.unique _ _ _ _ _ (show UY (.tuple (k.map fN))=true from(jY k).1) x.read y.read
 injection e with e
 have:=YZ (a:=k) (b:=l);rw[e,YZ] at this;exact ξ (this.symm.trans (by simp))
theorem zdr{Q:Int->kR->Prop}(hu:A.units+8<a7)(hk:IK prog w O s.heap k a)(h:Q (reduceHash (Az (k.map (iH w prog)))) {s with toks:=s.toks+((k.map iN).sum+1)}):ν (ο prog w) A (pyHash (.ref a)) Q E s:=by
 obtain⟨_,o,items,n,ho,hc,hd,hi⟩:=hk;refine PySem.W.pyHash_slot ⟨o,ho,hc⟩ PySem.F.slot_tuple_hash PySem.F.entry_tuple_hash (PySem.F.args_tuple_hash_1 _) (beq_builtin_none _) (.inr (by lia)) ?_
 show ν _ _ (Builtin.Tuple.tupleItemsOf (.ref a)>>=_) _ _ s
 refine kC (wpAny_tupleItemsOf ho hd (kC ?_));rw[<-Fi];refine De _ (λbZ(b:Array Int) s'=>∃done left,k=done++left/\IT prog w O s.heap left bZ/\b.toList=done.map (iH w prog)/\s'={s with toks:=s.toks+(done.map iN).sum}) _ ?_ ?_ _ _ ⟨[],k,rfl,hi,rfl,rfl⟩
 ·rintro x bZ b s' ⟨done,left,rfl,hl,hb,rfl⟩
  cases hl with
  |@a k t ks _ Ma=>exact kC (GV (kO ⟨done++[.inl k],ks,by simp,Ma,by simp[hb,iH],by simp[CI,iN]⟩))
  |@t l b' ks _ _ h1 Ma=>exact kC ((Hr (FP prog w)).pyHash (k:=l) (tupleKind_room_in1 (by lia)) h1 (kO ⟨done++[.inr l],ks,by simp,Ma,by simp[hb,iH,Hr],by simp[CI,iN,Hr]⟩))
 ·rintro b s' ⟨done,left,rfl,hl,hb,rfl⟩
  cases hl;rw[QM] at h;show ν _ _ (retInt (Az b.toList)) _ _ _;rw[hb];exact kC (wpAny_mkInt (kO ⟨_,_,rfl,by simpa[CI] using h⟩))
theorem zc4{Q:Bool->kR->Prop}(hk:IK prog w O s.heap k a)(h:Q true s):ν (ο prog w) A (FQ 8 (.ref a)) Q E s:=by
 obtain⟨_,o,items,n,ho,hc,hd,hi⟩:=hk;have go:∀(m:Nat){bE:Array kL}{n:Nat}{o:Obj}{a:Addr}{Q:Bool->kR->Prop},s.heap.get? a=some o->o.cls=.type "tuple"->o.data=.seq bE n->(∀v∈bE.toList,∀Q:Bool->kR->Prop,Q true s->ν (ο prog w) A (FQ m v) Q E s)->Q true s->ν (ο prog w) A (FQ (m+1) (.ref a)) Q E s:=λm{bE n o a Q} ho hc hd hv h=>by
  have hT:s.TypeIs (.ref a) "tuple":=⟨o,ho,hc⟩;unfold FQ;refine kC (BK hT PySem.F.slot_tuple_eq.lookup ?_);show ν _ _ (isInstance (.ref a) (.type "tuple")>>=_) _ _ s;refine kC (gP hT isSubtype_tuple_tuple ?_);simp only[Hi,uk,if_false];refine kC (QQ ho hd (kC ?_));show ν _ _ (forIn bE _ _) _ _ s;rw[<-Fi];refine De _ (λbZ r s'=>r.1=none/\s'=s/\∀v∈bZ,v∈bE.toList) _ ?_ ?_ _ _ ⟨rfl,rfl,λ_ z=>z⟩
  ·rintro v bZ r s' ⟨hr,rfl,all⟩;refine kC (hv v (all v (by simp)) _ ?_)
   simp only[Hi,uk,if_false];exact kO ⟨rfl,rfl,λu Nf=>all u (pT _ Nf)⟩
  ·rintro⟨r1,r2⟩ s' ⟨hr,rfl,_⟩
   simp only at hr
   subst hr;exact kO h
 have byv:∀(m:Nat){v:kL},carriedByValue v=true->∀Q:Bool->kR->Prop,Q true s->ν (ο prog w) A (FQ m v) Q E s:=λm v c Q q=>by rw[eqIsQuiet_byValue _ c];exact kO q
 refine go 7 ho hc hd (λv hv Q q=>?_) h;generalize items.toList=vs at hi hv
 induction hi with
 |nil=>cases hv
 |a _ ih=>
  rcases kg.mp hv with rfl|hv
  ·exact byv _ rfl Q q
  ·exact ih hv
 |@t l b _ _ _ h1 _ ih=>
  rcases kg.mp hv with rfl|hv
  ·obtain⟨o,bE,n,e1,e2,e3,e4⟩:=h1;exact go 6 e1 e2 e3 (λv hv=>byv _ (e4.byValue v hv)) q
  ·exact ih hv
def Gd(O:Addr->Prop)(h:Heap)(O':Addr->Prop)(h':Heap):Prop:=∀a o,h.get? a=some o->¬O a->h'.get? a=some o/\¬O' a
theorem IK.go{O':Addr->Prop}(g:Gd O h O' h')(x:IK prog w O h k a):IK prog w O' h' k a:=by
 obtain⟨n,o,bE,m,h1,h2,h3,h4⟩:=x;refine⟨(g a o h1 n).2,o,bE,m,(g a o h1 n).1,h2,h3,?_⟩;generalize bE.toList=vs at h4
 induction h4 with
 |nil=>exact .nil
 |a _ ih=>exact .a ih
 |t y z _ ih=>obtain⟨o,bE,n,z1,z2⟩:=z;exact .t (g _ o z1 y).2 ⟨o,bE,n,(g _ o z1 y).1,z2⟩ ih
noncomputable def xh(prog:Qq)(w:World):HeapKind prog w KT where
 is:=IK prog w λ_=>False
 hash:=λk=>reduceHash (Az (k.map (iH w prog)))
 draws:=λk=>(k.map iN).sum+1
 room:=λA=>A.units+8<a7
 inj:=λhx hy=>hx.inj hy
 keeps:=λ{h h' k a d o es ep} x ho hd hs=>by
  obtain⟨_,u,bE,n,e1,e2,e3,e4⟩:=x;refine⟨id,u,bE,n,(hs.2 a λq=>by subst q;rw[ho] at e1;cases e1;rw[hd] at e3;cases e3).trans e1,e2,e3,?_⟩
  generalize bE.toList=vs at e4
  induction e4 with
  |nil=>exact .nil
  |a _ ih=>exact .a ih
  |t y z _ ih=>exact .t y (z.keeps ho hd hs) ih
 pyHash:=λhu hk h=>zdr hu hk h
 eqBool:=λ{A E s x y a b Q} hu hx hy h=>by
  refine SeqAt.eqAt_reads (.tuple (x.map fN)) (.tuple (y.map fN)) A s _ _ _ _ hx.read hy.read (jY x).1 (jY y).1 ?_ _ _ _ _ ?_
  ·have:=(jY x).2;show A.units+min (QY _+1) _<_;lia
  ·show Q (Uz _ _) s;rw[YZ];exact h
 quiet:=λhk h=>zc4 hk h
end
end L2
namespace L2
open PySem
inductive Dt where
 |none|bool (b:Bool)|int (i:Int)|str (x:Str)|list (xs:List Dt)|tuple (xs:List Dt)|dK (ks:List eh) (xs:List Dt)|dT (ks:List KT) (xs:List Dt)
inductive Sl where
 |un|fz (d:Dt)|ow (io:Bool) (n:Nat) (d:Dt)|rd (d:Dt)
abbrev En:=List Sl
inductive Ou where
 |nx (Z:En)|rt (d:Dt) (Z:En)|bk (Z:En)|ct (Z:En)
mutual
noncomputable def fq:Dt->Option GW
 |.none=>some .none
 |.bool c=>some (.bool c)
 |.int i=>some (.int i)
 |.str x=>some (.str x)
 |.list ds=>(wN ds).bind λps=>some (.list ps)
 |.tuple ds=>(wN ds).bind λps=>some (.tuple ps)
 |.dK _ _=>none
 |.dT _ _=>none
noncomputable def wN:List Dt->Option (List GW)
 |[]=>some []
 |d::ds=>(fq d).bind λp=>(wN ds).bind λps=>some (p::ps)
end
noncomputable def sF:Sl->Option Dt
 |.fz d=>some d
 |_=>none
noncomputable def sR:Sl->Option Dt
 |.fz d=>some d
 |.ow _ 1 d=>some d
 |.rd d=>some d
 |_=>none
noncomputable def dV(i:Nat):En->Option Dt:=λZ=>(Z[i]?).bind sF
noncomputable def aY(i:Nat):En->Option Dt:=λZ=>(Z[i]?).bind sR
noncomputable def dC(d:Dt):En->Option Dt:=λ_=>some d
noncomputable def d1(k:Dt->Option Dt)(f:En->Option Dt):En->Option Dt:=λZ=>(f Z).bind k
noncomputable def d2(k:Dt->Dt->Option Dt)(f g:En->Option Dt):En->Option Dt:=λZ=>(f Z).bind λa=>(g Z).bind (k a)
noncomputable def ae:En->Option (List Dt):=λ_=>some []
noncomputable def aa(f:En->Option Dt)(g:En->Option (List Dt)):En->Option (List Dt):=λZ=>(f Z).bind λa=>(g Z).bind λas=>some (a::as)
noncomputable def aN(g:En->Option (List Dt)):En->Option Dt:=λZ=>(g Z).bind λas=>if as.length<=μ then some (.tuple as) else none
noncomputable def aQ(g:En->Option (List Dt)):En->Option Dt:=λZ=>(g Z).bind λas=>if as.length<=μ then some (.list as) else none
noncomputable def aj(F:List Dt->Option Dt)(g:En->Option (List Dt)):En->Option Dt:=λZ=>(g Z).bind F
noncomputable def H1:Dt->Option Bool
 |.bool b=>some b
 |_=>none
noncomputable def dB(f:En->Option Dt):En->Option Bool:=λZ=>(f Z).bind H1
noncomputable def cT(c d:En->Option Bool):En->Option Bool:=λZ=>(c Z).bind λb=>if b=true then d Z else some false
noncomputable def Ri(c d:En->Option Bool):En->Option Bool:=λZ=>(c Z).bind λb=>if b=true then some true else d Z
noncomputable def cJ(c:En->Option Bool):En->Option Bool:=λZ=>(c Z).bind λb=>some (!b)
noncomputable def Rj(c:En->Option Bool)(f g:En->Option Dt):En->Option Dt:=λZ=>(c Z).bind λb=>if b=true then f Z else g Z
def Ib(i j:Int):Prop:=i.natAbs<2^1000000/\j.natAbs<2^1000000
def YQ(_i j:Int):Prop:=j≠0/\j.natAbs<2^8999
def Ng(i j:Int):Prop:=0<=j/\j<=1000000/\i.natAbs<2^64
instance{i j:Int}:Decidable (Ib i j):=inferInstanceAs (Decidable (_/\_))
instance{i j:Int}:Decidable (YQ i j):=inferInstanceAs (Decidable (_/\_))
instance{i j:Int}:Decidable (Ng i j):=inferInstanceAs (Decidable (_/\_))
noncomputable def kI(C:Int->Int->Prop)[∀i j,Decidable (C i j)](g:Int->Int->Int):Dt->Dt->Option Dt
 |.int i,.int j=>if C i j then some (.int (g i j)) else none
 |_,_=>none
noncomputable def Ic(g:Int->Int->Int):Dt->Dt->Option Dt
 |.int i,.int j=>some (.int (g i j))
 |_,_=>none
noncomputable def kP(p:Int->Int->Bool):Dt->Dt->Option Dt
 |.int i,.int j=>some (.bool (p i j))
 |_,_=>none
noncomputable def kU(g:Int->Int):Dt->Option Dt
 |.int i=>some (.int (g i))
 |_=>none
noncomputable def zt:=Ic (·+·)
noncomputable def yL:=Ic (·-·)
noncomputable def zn:=kI Ib (·*·)
noncomputable def zO:=kI YQ Int.fdiv
noncomputable def zx:=kI (λ_ j=>j≠0) Int.fmod
noncomputable def qK:=kI Ng λi j=>i^j.toNat
noncomputable def wI:=Ic Ei
noncomputable def qc:=kU λi=> -i
noncomputable def nA:=kP λi j=>decide (i<j)
noncomputable def H2:=kP λi j=>decide (i<=j)
noncomputable def tW:=kP λi j=>decide (j<i)
noncomputable def Rk:=kP λi j=>decide (j<=i)
noncomputable def zr:Dt->Dt->Option Dt:=kP λi j=>decide (i=j)
noncomputable def wd:Dt->Dt->Option Dt:=kP λi j=> !decide (i=j)
noncomputable def sB(a b:Dt):Option Dt:=(fq a).bind λx=>(fq b).bind λy=>if UP x=true/\UP y=true then some (.bool (Uo x y)) else none
noncomputable def Ie(a b:Dt):Option Dt:=(fq a).bind λx=>(fq b).bind λy=>if UP x=true/\UP y=true then some (.bool (!PyData.eqv x y)) else none
noncomputable def vZ:Dt->Dt->Option Dt
 |.none,.none=>some (.bool true)
 |_,.none=>some (.bool false)
 |_,_=>none
noncomputable def ixN(n:Nat)(i:Int):Option Nat:=if 0<=i then(if i<n then some i.toNat else none) else if-(n:Int)<=i then some (i+n).toNat else none
noncomputable def Ig{α:Type}(xs:List α)(i:Int):Option α:=(ixN xs.length i).bind λj=>xs[j]?
noncomputable def af:Dt->Dt->Option Dt
 |.list ds,.int i=>Ig ds i
 |.tuple ds,.int i=>Ig ds i
 |_,_=>none
noncomputable def eU(f g:En->Option Dt):En->Option Dt:=λZ=>(dB f Z).bind λb=>if b=true then g Z else some (.bool false)
noncomputable def dOr(f g:En->Option Dt):En->Option Dt:=λZ=>(dB f Z).bind λb=>if b=true then some (.bool true) else g Z
noncomputable def Ih:Dt->Option Dt
 |.bool b=>some (.bool (!b))
 |_=>none
noncomputable def dD:Sl->Sl
 |.ow _ _ d=>.fz d
 |s=>s
noncomputable def ar(i:Nat)(f:En->Option Dt):En->Option Ou:=λZ=>(f Z).bind λd=>some (.nx (Z.set i (.fz d)))
noncomputable def bK(i:Nat)(f:En->Option Dt):En->Option Ou:=λZ=>(f Z).bind λd=>some (.nx (Z.set i (.ow false 1 d)))
noncomputable def cf(g:En->Option Ou):Ou->Option Ou
 |.nx Z=>g Z
 |o=>some o
noncomputable def ao(f g:En->Option Ou):En->Option Ou:=λZ=>(f Z).bind (cf g)
noncomputable def bI:En->Option Ou:=λZ=>some (.nx Z)
noncomputable def aK(f:En->Option Dt):En->Option Ou:=λZ=>(f Z).bind λd=>some (.rt d Z)
noncomputable def aC(c:En->Option Bool)(f g:En->Option Ou):En->Option Ou:=λZ=>(c Z).bind λb=>if b=true then f Z else g Z
noncomputable def cL(i:Nat)(f:En->Option Ou):En->Option Ou:=λZ=>f (Z.modify i dD)
noncomputable def qo:En->Option Ou:=λ_=>none
noncomputable def tA:Dt->Option (List Dt)
 |.list ds=>some ds
 |_=>none
noncomputable def sD:Sl->Option (Bool×List Dt)
 |.ow io 1 (.list ds)=>some (io,ds)
 |_=>none
noncomputable def B8(i:Nat)(f:En->Option Dt):En->Option Ou:=λZ=>(f Z).bind λd=>((Z[i]?).bind sD).bind λx=>if x.2.length<μ then some (.nx (Z.set i (.ow x.1 1 (.list (x.2++[d]))))) else none
noncomputable def Rl:Dt->Option (List Dt)
 |.tuple ds=>some ds
 |_=>none
noncomputable def iL(f:En->Option Dt):En->Option (List Dt):=λZ=>(f Z).bind tA
noncomputable def iT(f:En->Option Dt):En->Option (List Dt):=λZ=>(f Z).bind Rl
noncomputable def bG:List Dt->Option (List Dt)
 |[.int j]=>if-(2^62)<=j/\j<2^62/\j.toNat<=μ then some ((kM j.toNat).map λk:Nat=>.int k) else none
 |_=>none
noncomputable def wF:List Dt->Option (List Dt)
 |[.list xs,.list ys]=>some (Ay (λa b=>.tuple [a,b]) xs ys)
 |_=>none
noncomputable def sE:List Dt->Option (List Dt)
 |[.tuple xs,.tuple ys]=>if xs.length=ys.length then some (Ay (λa b=>.tuple [a,b]) xs ys) else none
 |_=>none
noncomputable def xR:List Dt->Option (List Dt)
 |[.list xs]=>some ((kM xs.length).zipWith (λ(k:Nat) x=>.tuple [.int k,x]) xs)
 |_=>none
noncomputable def C8:List Dt->Option (List Dt)
 |[.list xs]=>some xs.reverse
 |_=>none
noncomputable def iC(k:List Dt->Option (List Dt))(g:En->Option (List Dt)):En->Option (List Dt):=λZ=>(g Z).bind k
noncomputable def gN(i:Nat):Dt->En->Option En:=λd Z=>some (Z.set i (.fz d))
noncomputable def eu:List Dt->En->Option En
 |[],Z=>some Z
 |_,_=>none
noncomputable def bM(h:Dt->En->Option En)(hs:List Dt->En->Option En):List Dt->En->Option En
 |d::ds,Z=>(h d Z).bind (hs ds)
 |[],_=>none
noncomputable def gT(n:Nat)(hs:List Dt->En->Option En):Dt->En->Option En:=λd Z=>(Rl d).bind λds=>if ds.length=n then hs ds Z else none
noncomputable def fgt(fg:List Nat)(Z:En):En:=fg.foldl (λZ i=>Z.set i .un) Z
noncomputable def ym(h:Dt->En->Option En)(b:En->Option Ou)(fg:List Nat):List Dt->En->Option Ou
 |[],Z=>some (.nx Z)
 |d::ds,Z=>(h d Z).bind λbY=>(b bY).bind λo=>match o with
  |.nx cQ=>ym h b fg ds (fgt fg cQ)
  |.ct cQ=>ym h b fg ds (fgt fg cQ)
  |.bk cQ=>some (.nx cQ)
  |.rt d aZ=>some (.rt d aZ)
noncomputable def aO(fg:List Nat)(it:En->Option (List Dt))(h:Dt->En->Option En)(b:En->Option Ou):En->Option Ou:=λZ=>(it Z).bind λds=>ym h b fg ds Z
noncomputable def tK:Sl->Sl
 |.ow _ n d=>if n=1 then .rd d else .un
 |s=>s
noncomputable def inn(k:Nat)(ix:List Nat)(Z:En):En:=Ej k .un++ix.map λi=>((Z[i]?).map tK).getD .un
noncomputable def y9(f:Dt->Option (Option Dt)):List Dt->Option (List Dt)
 |[]=>some []
 |d::ds=>(f d).bind λo=>(y9 f ds).bind λr=>some (o.toList++r)
noncomputable def au(k:Nat)(ix:List Nat)(it:En->Option (List Dt))(h:Dt->En->Option En)(c:En->Option Bool)(e:En->Option Dt):En->Option Dt:=λZ=>(it Z).bind λds=>
 (y9 (λd=>(h d (inn k ix Z)).bind λbY=>(c bY).bind λb=>if b=true then(e bY).bind λy=>some (some y) else some none) ds).bind λr=>some (.list r)
noncomputable def bv:En->Option Bool:=λ_=>some true
noncomputable def cF:Ou->Option Dt
 |.rt d _=>some d
 |.nx _=>some .none
 |_=>none
noncomputable def bx(n k:Nat)(f:En->Option Ou):List Dt->Option Dt:=λds=>if ds.length=k then(f (ds.map Sl.fz++Ej (n-k) .un)).bind cF else none
noncomputable def zq:List Dt->Option Dt
 |[.list ds]=>some (.int ds.length)
 |[.tuple ds]=>some (.int ds.length)
 |_=>none
noncomputable def vi:List Dt->Option Dt
 |[.int i]=>some (.int (if i<0 then-i else i))
 |_=>none
noncomputable def y8(g:Int->Int->Int):List Dt->Option Dt
 |[.int i,.int j]=>some (.int (g i j))
 |_=>none
noncomputable def vY:List Dt->Option Dt
 |[.list ds]=>some (.list ds)
 |[.tuple ds]=>some (.list ds)
 |_=>none
noncomputable def zM:Dt->Dt->Option Dt
 |.list xs,.list ys=>if xs.length+ys.length<=μ then some (.list (xs++ys)) else none
 |_,_=>none
noncomputable def xQ:Dt->Dt->Option Dt
 |.tuple (x::xs),.tuple ys=>if(x::xs).length+ys.length<=μ then some (.tuple (x::xs++ys)) else none
 |_,_=>none
noncomputable def tL(n d:Nat):Option Int->Nat
 |none=>d
 |some v=>if v<0 then(v+(n:Int)).toNat else min v.toNat n
noncomputable def xc{α:Type}(xs:List α)(lo hi:Option Int):List α:=(xs.drop (tL xs.length 0 lo)).take (tL xs.length xs.length hi-tL xs.length 0 lo)
noncomputable def oN:En->Option (Option Int):=λ_=>some none
noncomputable def R0:Dt->Option (Option Int)
 |.int i=>some (some i)
 |_=>none
noncomputable def oS(f:En->Option Dt):En->Option (Option Int):=λZ=>(f Z).bind R0
noncomputable def dE(f:En->Option Dt)(lo hi:En->Option (Option Int)):En->Option Dt:=λZ=>(f Z).bind λd=>(lo Z).bind λl=>(hi Z).bind λu=>(tA d).bind λds=>some (.list (xc ds l u))
noncomputable def di(fg:List Nat)(c:En->Option Bool)(b:En->Option Ou):Nat->En->Option Ou
 |0,_=>none
 |n+1,Z=>(c Z).bind λt=>if t=true then(b Z).bind λo=>match o with
   |.nx cQ=>di fg c b n (fgt fg cQ)
   |.ct cQ=>di fg c b n (fgt fg cQ)
   |.bk cQ=>some (.nx cQ)
   |.rt d aZ=>some (.rt d aZ)
  else some (.nx Z)
noncomputable def jo(n:Nat)(fg:List Nat)(c:En->Option Bool)(b:En->Option Ou):En->Option Ou:=di fg c b n
noncomputable def tM(i:Nat)(k:Dt->Dt->Option Dt)(f:En->Option Dt):En->Option Ou:=ar i (d2 k (dV i) f)
noncomputable def B9(i:Nat)(g:En->Option (List Dt)):En->Option Ou:=λZ=>(g Z).bind λzs=>((Z[i]?).bind sD).bind λx=>if x.2.length+zs.length<=μ then some (.nx (Z.set i (.ow x.1 1 (.list (x.2++zs))))) else none
noncomputable def Ii(i:Nat)(f:En->Option Dt):En->Option Ou:=λZ=>(f Z).bind λd=>((Z[i]?).bind sD).bind λx=>if x.2.length<μ then some (.nx (Z.set i (.ow x.1 1 (.list (d::x.2))))) else none
noncomputable def zv{α β:Type}(f:α->Option β):List α->Option (List β)
 |[]=>some []
 |a::as=>(f a).bind λb=>(zv f as).bind λbs=>some (b::bs)
noncomputable def xa:Dt->Option Int
 |.int i=>some i
 |_=>none
noncomputable def qg(i:Nat)(fk fv:En->Option Dt):En->Option Ou:=λZ=>(fv Z).bind λv=>(fk Z).bind λk=>(xa k).bind λn=>((Z[i]?).bind sD).bind λx=>(ixN x.2.length n).bind λj=>some (.nx (Z.set i (.ow x.1 1 (.list (x.2.set j v)))))
noncomputable def wv:Dt->Option eh
 |.int i=>some (.inl i)
 |.str x=>some (.inr x)
 |_=>none
noncomputable def R1:Dt->Option KI
 |.int i=>some (.inl i)
 |.tuple ds=>(zv xa ds).bind λl=>some (.inr l)
 |_=>none
noncomputable def xI:Dt->Option KT
 |.tuple ds=>zv R1 ds
 |_=>none
noncomputable def kD:eh->Dt
 |.inl i=>.int i
 |.inr x=>.str x
noncomputable def iDt:KI->Dt
 |.inl i=>.int i
 |.inr l=>.tuple (l.map .int)
noncomputable def tkD(k:KT):Dt:=.tuple (k.map iDt)
section
variable{κ α:Type}[DecidableEq κ]
noncomputable def cR:List κ->List α->κ->Option α
 |k'::ks,a::as,k=>if k'=k then some a else cR ks as k
 |_,_,_=>none
noncomputable def yO(ks:List κ)(k:κ):Bool:=decide (k∈ks)
noncomputable def pK(ks:List κ)(k:κ):List κ:=if k∈ks then ks else ks++[k]
noncomputable def pV(ks:List κ)(as:List α)(k:κ)(a:α):List α:=if k∈ks then Ay (λk' b=>if k'=k then a else b) ks as else as++[a]
noncomputable def zV:List κ->κ->Option Nat
 |[],_=>none
 |k'::ks,k=>if k'=k then some 0 else(zV ks k).bind λn=>some (n+1)
end
noncomputable def yn:Dt->Dt->Option Dt
 |.dK ks ds,k=>(wv k).bind (cR ks ds)
 |.dT ks ds,k=>(xI k).bind (cR ks ds)
 |_,_=>none
noncomputable def zY:Dt->Dt->Option Bool
 |.dK ks _,k=>(wv k).bind λk=>some (yO ks k)
 |.dT ks _,k=>(xI k).bind λk=>some (yO ks k)
 |_,_=>none
noncomputable def dM(eE:Bool)(f g:En->Option Dt):En->Option Dt:=λZ=>(f Z).bind λk=>(g Z).bind λd=>(zY d k).bind λc=>some (.bool (if eE=true then !c else c))
noncomputable def bz(f g:En->Option Dt):En->Option Dt:=λZ=>(f Z).bind λd=>(g Z).bind (yn d)
noncomputable def ft(f g z:En->Option Dt):En->Option Dt:=λZ=>(f Z).bind λd=>(g Z).bind λk=>(z Z).bind λz=>(zY d k).bind λc=>if c=true then yn d k else some z
noncomputable def xg:Dt->Dt->Dt->Option Dt
 |.dK ks ds,k,v=>(wv k).bind λk=>if ks.length<μ then some (.dK (pK ks k) (pV ks ds k v)) else none
 |.dT ks ds,k,v=>(xI k).bind λk=>if ks.length<μ then some (.dT (pK ks k) (pV ks ds k v)) else none
 |_,_,_=>none
noncomputable def R2:Sl->Option (Bool×Dt)
 |.ow io n d=>if n=1 then some (io,d) else none
 |_=>none
noncomputable def sH(i:Nat)(fk fv:En->Option Dt):En->Option Ou:=λZ=>(fv Z).bind λv=>(fk Z).bind λk=>((Z[i]?).bind R2).bind λx=>(xg x.2 k v).bind λd=>some (.nx (Z.set i (.ow x.1 1 d)))
noncomputable def yl:List Dt->Option Dt
 |[.dT ks _]=>if(ks.all λk=>decide (k.length<=μ)&&k.all λi=>match i with|.inl _=>true|.inr l=>decide (l.length<=μ))=true then some (.list (ks.map tkD)) else none
 |[.dK ks _]=>some (.list (ks.map kD))
 |_=>none
noncomputable def iD(f:En->Option Dt):En->Option (List Dt):=λZ=>(f Z).bind λd=>(yl [d]).bind tA
noncomputable def H3:List Int->Int->Int
 |[],d=>d
 |n::ns,_=>ns.foldl max n
noncomputable def Ij(f g:En->Option Dt):En->Option Dt:=λZ=>(f Z).bind λd=>(tA d).bind λds=>(zv xa ds).bind λns=>(g Z).bind λz=>(xa z).bind λz=>some (.int (H3 ns z))
noncomputable def setCh:Dt->Nat->Dt->Dt
 |.list ds,j,c=>.list (ds.set j c)
 |.dK ks ds,j,c=>.dK ks (ds.set j c)
 |.dT ks ds,j,c=>.dT ks (ds.set j c)
 |d,_,_=>d
noncomputable def yZ:Dt->List Dt
 |.list ds=>ds
 |.dK _ ds=>ds
 |.dT _ ds=>ds
 |_=>[]
noncomputable def as2:Sl->Option (Bool×Dt)
 |.ow io 2 d=>some (io,d)
 |.ow io 1 (.dT [] [])=>some (io,.dT [] [])
 |.ow io 1 (.dK [] [])=>some (io,.dK [] [])
 |_=>none
noncomputable def xv:Dt->Dt->Option Nat
 |.dK ks _,k=>(wv k).bind (zV ks)
 |.dT ks _,k=>(xI k).bind (zV ks)
 |.list ds,.int i=>ixN ds.length i
 |_,_=>none
noncomputable def apD:Dt->Dt->Option Dt
 |.list cs,v=>if cs.length<μ then some (.list (cs++[v])) else none
 |_,_=>none
noncomputable def j8(i:Nat)(fk fl fv:En->Option Dt):En->Option Ou:=λZ=>(fv Z).bind λv=>(fk Z).bind λk=>(fl Z).bind λl=>((Z[i]?).bind as2).bind λx=>(xv x.2 k).bind λj=>((yZ x.2)[j]?).bind λc0=>(xg c0 l v).bind λc=>some (.nx (Z.set i (.ow x.1 2 (setCh x.2 j c))))
noncomputable def qW:Dt->Dt->Dt->Option Dt
 |.dT ks ds,k,c=>(xI k).bind λk=>if ks.length<μ/\yO ks k=false then some (.dT (ks++[k]) (ds++[c])) else none
 |_,_,_=>none
noncomputable def Yb(i:Nat)(fk fc:En->Option Dt):En->Option Ou:=λZ=>(fc Z).bind λc=>(fk Z).bind λk=>((Z[i]?).bind as2).bind λx=>(qW x.2 k c).bind λd=>some (.nx (Z.set i (.ow x.1 2 d)))
noncomputable def vQ(d k v:Dt):Option Dt:=match d with
 |.dT ks ds=>(xI k).bind λkk=>if ks.length<μ then match zV ks kk with
  |some j=>(ds[j]?).bind λc=>(apD c v).bind λc=>some (.dT ks (ds.set j c))
  |none=>some (.dT (ks++[kk]) (ds++[.list [v]])) else none
 |_=>none
noncomputable def vG(i:Nat)(fk:En->Option Dt)(j:Nat):En->Option Ou:=λZ=>(fk Z).bind λk=>(dV j Z).bind λv=>((Z[i]?).bind as2).bind λx=>(vQ x.2 k v).bind λd=>some (.nx (Z.set i (.ow x.1 2 d)))
noncomputable def w2:Sl->Option Dt
 |.ow true 2 d=>some d
 |_=>none
noncomputable def Ik:Ou->Option Dt
 |.nx Z=>(Z[0]?).bind w2
 |.rt .none Z=>(Z[0]?).bind w2
 |_=>none
noncomputable def vg(n k:Nat)(f:En->Option Ou):Dt->List Dt->Option Dt:=λd0 ds=>if ds.length+1=k then(f (.ow true 2 d0::(ds.map Sl.fz++Ej (n-(ds.length+1)) .un))).bind Ik else none
noncomputable def Nh(i:Nat)(F:Dt->List Dt->Option Dt)(ga:En->Option (List Dt)):En->Option Ou:=λZ=>(ga Z).bind λds=>((Z[i]?).bind as2).bind λx=>(F x.2 ds).bind λd=>some (.nx (Z.set i (.ow x.1 2 d)))
noncomputable def qm(eE:Bool)(f:En->Option Dt)(i:Nat):En->Option Dt:=λZ=>(f Z).bind λk=>((Z[i]?).bind as2).bind λx=>(zY x.2 k).bind λc=>some (.bool (if eE=true then !c else c))
noncomputable def tX:Dt->Option (Int×Int)
 |.tuple [.int i,.int j]=>some (i,j)
 |_=>none
noncomputable def R3:Dt->Option (List (Int×Int))
 |.list ds=>zv tX ds
 |_=>none
noncomputable def jl(lt:Nat->Nat->Bool)(i:Nat):List Nat->List Nat
 |[]=>[i]
 |j::r=>if lt j i=true then j::jl lt i r else i::j::r
noncomputable def xi(lt:Nat->Nat->Bool):List Nat->List Nat
 |[]=>[]
 |i::r=>jl lt i (xi lt r)
noncomputable def vH(lt:Nat->Nat->Bool):List Nat->Bool
 |[]=>true
 |i::r=>r.all (λj=>lt i j&& !lt j i)&&vH lt r
noncomputable def Il(n:Nat)(ds:List Dt)(lt:Nat->Nat->Bool):Option (List Dt):=if vH lt (xi lt (kM n))=true then some ((xi lt (kM n)).map λi=>ds.getD i .none) else none
noncomputable def xS(js:List Nat)(Z:En):Option (List Sl):=zv (λj=>(Z[j]?).bind λs=>(sR s).bind λ_=>some (tK s)) js
noncomputable def jN{κ:Type}(of:Dt->Option κ)(lt:κ->κ->Bool)(df:κ)(i0:Nat)(f g:En->Option Dt):En->Option Dt:=λZ=>(g Z).bind λd=>(tA d).bind λds=>(Z[i0]?).bind λs=>(sR s).bind λ_=>(zv (λd=>f [.fz d,tK s]) ds).bind λeV=>(zv of eV).bind λks=>(Il ds.length ds λi j=>lt (ks.getD i df) (ks.getD j df)).bind λr=>some (.list r)
noncomputable def Im(p:Int->Option Bool):Nat->Int->Int->Option Int
 |0,_,_=>none
 |n+1,lo,hi=>if lo<hi then(p ((lo+hi)/2)).bind λb=>if b=true then Im p n lo ((lo+hi)/2) else Im p n ((lo+hi)/2+1) hi else some lo
noncomputable def wu(js:List Nat)(f g:En->Option Dt):En->Option Dt:=λZ=>(g Z).bind λd=>(xa d).bind λn=>(xS js Z).bind λss=>(Im (λk=>(f (.fz (.int k)::ss)).bind H1) (n.toNat+1) 0 n).bind λr=>some (.int r)
noncomputable def Ni(tp eE:Bool)(k d:Dt):Option Dt:=(fq k).bind λx=>(if tp=true then Rl d else tA d).bind λds=>(wN ds).bind λes=>if x.canLay0=true/\uz es=true/\x.depth<=60 then some (.bool (if eE=true then !(es.any λe=>Uo e x) else es.any λe=>Uo e x)) else none
noncomputable def vP(i:Int):List Int->List Int
 |[]=>[i]
 |j::r=>if i<=j then i::j::r else j::vP i r
noncomputable def jA:List Int->List Int
 |[]=>[]
 |i::r=>vP i (jA r)
noncomputable def ww:List Dt->Option Dt
 |[d]=>(tA d).bind λds=>(zv xa ds).bind λns=>if ns.length<64 then some (.list ((jA ns).map .int)) else none
 |_=>none
noncomputable def qM:Dt->Option Dt
 |.list xs=>some (.list xs.reverse)
 |_=>none
noncomputable def xz(Tx T:String):Bool:=(Tx==T)||(Tx=="bool"&&T=="int")
noncomputable def tyD:Dt->Option String
 |.none=>some "NoneType"
 |.bool _=>some "bool"
 |.int _=>some "int"
 |.str _=>some "str"
 |.list _=>some "list"
 |.tuple _=>some "tuple"
 |_=>none
noncomputable def zW(T:String)(d:Dt):Option Dt:=(tyD d).bind λt=>some (.bool (xz t T))
end L2
namespace L2
open PySem PySem.Spec PyProof.Rows
open PySem.W (tabObj)
structure Gx where
 P:Qq
 w:World
 K:Qw
 mg:Str->Option kL
 base:Heap
 tb:List (Addr×Pos×Str)
def Gx.T(G:Gx)(a:Addr):Prop:=∃t∈G.tb,t.1=a
abbrev AP:=Addr->Prop
abbrev bL:AP:=λ_=>False
abbrev lo(vs:List kL)(n:Nat):Obj:={cls:=.type "list",data:=.seq vs.toArray n}
def DK(G:Gx)(h:Heap)(p:Addr)(ks:List eh)(vs:List kL):Prop:=ks.length=vs.length/\vs.length<=μ/\(p==gE)=false/\h.DictOf (wW G.P G.w) p (ks.zip vs)
def DT(G:Gx)(O:AP)(h:Heap)(p:Addr)(ks:List KT)(vs:List kL):Prop:=∃bs:List Addr,ks.length=bs.length/\bs.length=vs.length/\vs.length<=μ/\(p==gE)=false/\ks.Nodup/\Ae (IK G.P G.w O h) ks bs/\
 ∃o es ep,h.get? p=some o/\o.ExactDict/\o.data=.dict es ep/\es.toList=(ks.zip (bs.zip vs)).map (HV (xh G.P G.w))
def Top(G:Gx)(O:AP)(h:Heap)(R:List Dt->List kL->Prop):Dt->Addr->Prop
 |.list ds,p=>∃vs n,h.get? p=some (lo vs n)/\vs.length<=μ/\R ds vs
 |.dK ks ds,p=>∃vs,DK G h p ks vs/\R ds vs
 |.dT ks ds,p=>∃vs,DT G O h p ks vs/\R ds vs
 |_,_=>False
mutual
def R(G:Gx)(O:AP)(h:Heap):Dt->kL->Prop
 |.none,v=>v=.none
 |.bool b,v=>v=.bool b
 |.int i,v=>∃t,v=.int i t
 |.str x,v=>∃t,v=.str x t
 |.tuple ds,v=>∃p vs,v=.ref p/\¬O p/\IsTup h p (AQ vs)/\vs.length<=μ/\Rs G O h ds vs
 |.list ds,v=>∃p vs n,v=.ref p/\¬O p/\h.get? p=some (lo vs n)/\vs.length<=μ/\Rs G O h ds vs
 |.dK ks ds,v=>∃p vs,v=.ref p/\¬O p/\DK G h p ks vs/\Rs G O h ds vs
 |.dT ks ds,v=>∃p vs,v=.ref p/\¬O p/\DT G O h p ks vs/\Rs G O h ds vs
def Rs(G:Gx)(O:AP)(h:Heap):List Dt->List kL->Prop
 |[],vs=>vs=[]
 |d::ds,vs=>∃v r,vs=v::r/\R G O h d v/\Rs G O h ds r
end
section
variable{G:Gx}{O O' O2:AP}{h h' h2:Heap}{p a:Addr}{d:Dt}{ds es:List Dt}{v u:kL}{vs us:List kL}{ks:List eh}{kt:List KT}
def Gd.trans(g:Gd O h O' h')(k:Gd O' h' O2 h2):Gd O h O2 h2:=λa o e n=>k a o (g a o e n).1 (g a o e n).2
def Gd.less(i:∀a,O' a->O a):Gd O h O' h:=λ_ _ e n=>⟨e,λz=>n (i _ z)⟩
def DK.at(x:DK G h p ks vs)(k:∀o,h.get? p=some o->h'.get? p=some o):DK G h' p ks vs:=by
 obtain⟨a,b,c,o,es,ep,e,r⟩:=x;exact⟨a,b,c,o,es,ep,k _ e,r⟩
theorem DT.at(g:Gd O h O' h')(x:DT G O h p kt vs)(k:∀o,h.get? p=some o->h'.get? p=some o):DT G O' h' p kt vs:=by
 obtain⟨bs,a,b,c,d,n,q,o,es,ep,e,r⟩:=x;refine⟨bs,a,b,c,d,n,?_,o,es,ep,k _ e,r⟩;clear a b n r
 induction q with
 |nil=>exact .nil
 |cons x _ ih=>exact .cons (x.go g) ih
def DK.get(x:DK G h p ks vs):∃o es ep,h.get? p=some o/\o.data=.dict es ep:=by obtain⟨_,_,_,o,es,ep,e,_,d,_⟩:=x;exact⟨o,es,ep,e,d⟩
def DT.get(x:DT G O h p kt vs):∃o es ep,h.get? p=some o/\o.data=.dict es ep:=by obtain⟨_,_,_,_,_,_,_,o,es,ep,e,_,d,_⟩:=x;exact⟨o,es,ep,e,d⟩
theorem Top.get{R:List Dt->List kL->Prop}(x:Top G O h R d p):∃o,h.get? p=some o/\∀z,o.data≠.fields z:=by
 cases d with
 |list ds=>obtain⟨_,_,e,_⟩:=x;exact⟨_,e,λz q=>nomatch q⟩
 |dK ks ds=>obtain⟨_,x,_⟩:=x;obtain⟨o,_,_,e,q⟩:=x.get;exact⟨o,e,λz y=>by rw[q] at y;cases y⟩
 |dT ks ds=>obtain⟨_,x,_⟩:=x;obtain⟨o,_,_,e,q⟩:=x.get;exact⟨o,e,λz y=>by rw[q] at y;cases y⟩
 |_=>exact x.elim
theorem Top.imp{R R':List Dt->List kL->Prop}(g:Gd O h O' h')(k:∀o,h.get? p=some o->h'.get? p=some o)(r:∀ds vs,R ds vs->R' ds vs):∀{d},Top G O h R d p->Top G O' h' R' d p
 |.list _,⟨vs,n,e,l,q⟩=>⟨vs,n,k _ e,l,r _ _ q⟩
 |.dK _ _,⟨vs,x,q⟩=>⟨vs,x.at k,r _ _ q⟩
 |.dT _ _,⟨vs,x,q⟩=>⟨vs,x.at g k,r _ _ q⟩
theorem R.top(x:Top G O h (Rs G O h) d p)(n:¬O p):R G O h d (.ref p):=by
 cases d with
 |list ds=>obtain⟨vs,m,x⟩:=x;rw[R];exact⟨p,vs,m,rfl,n,x⟩
 |dK ks ds=>obtain⟨vs,x⟩:=x;rw[R];exact⟨p,vs,rfl,n,x⟩
 |dT ks ds=>obtain⟨vs,x⟩:=x;rw[R];exact⟨p,vs,rfl,n,x⟩
 |_=>exact x.elim
mutual
theorem R.go(g:Gd O h O' h'):∀(d:Dt)(v:kL),R G O h d v->R G O' h' d v
 |.none,v,x=>by rw[R] at x⊢;exact x
 |.bool _,v,x=>by rw[R] at x⊢;exact x
 |.int _,v,x=>by rw[R] at x⊢;exact x
 |.str _,v,x=>by rw[R] at x⊢;exact x
 |.tuple ds,v,x=>by rw[R] at x⊢;obtain⟨p,vs,e,n,⟨o,q,t⟩,l,r⟩:=x;exact⟨p,vs,e,(g p o q n).2,⟨o,(g p o q n).1,t⟩,l,Rs.go g ds vs r⟩
 |.list ds,v,x=>by rw[R] at x⊢;obtain⟨p,vs,m,e,n,q,l,r⟩:=x;exact⟨p,vs,m,e,(g p _ q n).2,(g p _ q n).1,l,Rs.go g ds vs r⟩
 |.dK ks ds,v,x=>by
  rw[R] at x⊢;obtain⟨p,vs,e,n,q,r⟩:=x;obtain⟨o,_,_,z,_⟩:=q.get;exact⟨p,vs,e,(g p o z n).2,q.at λo z=>(g p o z n).1,Rs.go g ds vs r⟩
 |.dT ks ds,v,x=>by
  rw[R] at x⊢;obtain⟨p,vs,e,n,q,r⟩:=x;obtain⟨o,_,_,z,_⟩:=q.get;exact⟨p,vs,e,(g p o z n).2,q.at g λo z=>(g p o z n).1,Rs.go g ds vs r⟩
theorem Rs.go(g:Gd O h O' h'):∀(ds:List Dt)(vs:List kL),Rs G O h ds vs->Rs G O' h' ds vs
 |[],vs,x=>by rw[Rs] at x⊢;exact x
 |d::ds,vs,x=>by rw[Rs] at x⊢;obtain⟨v,r,e,q,qs⟩:=x;exact⟨v,r,e,R.go g d v q,Rs.go g ds r qs⟩
end
theorem Rs.len:∀{ds:List Dt}{vs:List kL},Rs G O h ds vs->ds.length=vs.length
 |[],vs,x=>by rw[Rs] at x;rw[x];rfl
 |d::ds,vs,x=>by rw[Rs] at x;obtain⟨_,r,rfl,_,q⟩:=x;rw[kZ,kZ,q.len]
def Rs.nil:Rs G O h [] []:=by rw[Rs]
def Rs.cons(x:R G O h d v)(q:Rs G O h ds vs):Rs G O h (d::ds) (v::vs):=by rw[Rs];exact⟨v,vs,rfl,x,q⟩
theorem Rs.get:∀{ds:List Dt}{vs:List kL}{i:Nat}{d:Dt},Rs G O h ds vs->ds[i]?=some d->∃v,vs[i]?=some v/\R G O h d v
 |[],vs,i,d,x,e=>by simp at e
 |_::ds,vs,0,d,x,e=>by rw[Rs] at x;obtain⟨v,r,rfl,q,_⟩:=x;cases e;exact⟨v,rfl,q⟩
 |_::ds,vs,i+1,d,x,e=>by rw[Rs] at x;obtain⟨v,r,rfl,_,q⟩:=x;exact q.get (i:=i) e
theorem Rs.of{ds:List Dt}{vs:List kL}(l:ds.length=vs.length)(x:∀(i:Nat)(d:Dt)(v:kL),ds[i]?=some d->vs[i]?=some v->R G O h d v):Rs G O h ds vs:=by
 induction ds generalizing vs with
 |nil=>cases vs with
  |nil=>exact .nil
  |cons v vs=>cases l
 |cons d ds ih=>cases vs with
  |nil=>cases l
  |cons v vs=>exact .cons (x 0 d v rfl rfl) (ih (Hv l) λi d v a b=>x (i+1) d v a b)
theorem Rs.app(x:Rs G O h ds vs)(y:Rs G O h es us):Rs G O h (ds++es) (vs++us):=by
 induction ds generalizing vs with
 |nil=>rw[Rs] at x;subst x;exact y
 |cons d ds ih=>rw[Rs] at x;obtain⟨v,r,rfl,x1,x2⟩:=x;exact .cons x1 (ih x2)
def RT(G:Gx)(O:AP)(h:Heap)(d:Dt)(v:kL):Prop:=R G O h d v\/∃p,v=.ref p/\Top G O h (Rs G O h) d p
abbrev RM:Bool->Gx->AP->Heap->Dt->kL->Prop
 |true=>RT
 |false=>R
theorem RM.of(x:R G O h d v):∀{m},RM m G O h d v
 |true=>.inl x
 |false=>x
def RT.int{i:Int}(x:RT G O h (.int i) v):∃t,v=.int i t:=by have x:=x.elim id λ⟨_,_,z⟩=>z.elim;rw[R] at x;exact x
def RT.bl{b:Bool}(x:RT G O h (.bool b) v):v=.bool b:=by have x:=x.elim id λ⟨_,_,z⟩=>z.elim;rw[R] at x;exact x
def RT.tup(x:RT G O h (.tuple ds) v):∃p vs,v=.ref p/\¬O p/\IsTup h p (AQ vs)/\vs.length<=μ/\Rs G O h ds vs:=by have x:=x.elim id λ⟨_,_,z⟩=>z.elim;rw[R] at x;exact x
def RT.lst(x:RT G O h (.list ds) v):∃p vs n,v=.ref p/\h.get? p=some (lo vs n)/\vs.length<=μ/\Rs G O h ds vs:=by
 rcases x with x|⟨p,e,vs,n,x⟩
 ·rw[R] at x;obtain⟨p,vs,n,e,_,x⟩:=x;exact⟨p,vs,n,e,x⟩
 ·exact⟨p,vs,n,e,x⟩
def RT.go(g:Gd O h O' h')(k:∀p o,v=.ref p->h.get? p=some o->h'.get? p=some o)(x:RT G O h d v):RT G O' h' d v:=x.elim (λx=>.inl (R.go g _ _ x)) λ⟨p,e,x⟩=>.inr ⟨p,e,x.imp g (λo=>k p o e) λ_ _=>Rs.go g _ _⟩
theorem R.ref(x:R G O h d (.ref p)):¬O p/\∃o,h.get? p=some o:=by
 cases d with
 |tuple ds=>rw[R] at x;obtain⟨_,_,e,n,⟨o,z,_⟩,_⟩:=x;cases e;exact⟨n,o,z⟩
 |list ds=>rw[R] at x;obtain⟨_,_,_,e,n,z,_⟩:=x;cases e;exact⟨n,_,z⟩
 |dK ks ds=>rw[R] at x;obtain⟨_,_,e,n,z,_⟩:=x;cases e;obtain⟨o,_,_,z,_⟩:=z.get;exact⟨n,o,z⟩
 |dT ks ds=>rw[R] at x;obtain⟨_,_,e,n,z,_⟩:=x;cases e;obtain⟨o,_,_,z,_⟩:=z.get;exact⟨n,o,z⟩
 |int _=>rw[R] at x;obtain⟨_,x⟩:=x;cases x
 |str _=>rw[R] at x;obtain⟨_,x⟩:=x;cases x
 |_=>rw[R] at x;cases x
def RT.ex(x:RT G O h d v)(e:v=.ref p):∃o,h.get? p=some o:=by
 subst e;rcases x with x|⟨_,e,x⟩
 ·exact x.ref.2
 ·cases e;obtain⟨o,z,_⟩:=x.get;exact⟨o,z⟩
def R.int{i:Int}{t:Tok}:R G O h (.int i) (.int i t):=by rw[R];exact⟨t,rfl⟩
def R.bl{b:Bool}:R G O h (.bool b) (.bool b):=by rw[R]
def R.str{x:Str}{t:Tok}:R G O h (.str x) (.str x t):=by rw[R];exact⟨t,rfl⟩
def R.non:R G O h .none .none:=by rw[R]
mutual
theorem R.rd:∀(d:Dt)(v:kL)(y:GW),fq d=some y->R G O h d v->∃as,Reads h v y as
 |.none,v,y,e,x=>by cases e;rw[R] at x;subst x;exact⟨_,.none⟩
 |.bool b,v,y,e,x=>by cases e;rw[R] at x;subst x;exact⟨_,.bool b⟩
 |.int i,v,y,e,x=>by cases e;rw[R] at x;obtain⟨t,rfl⟩:=x;exact⟨_,.int i t⟩
 |.str i,v,y,e,x=>by cases e;rw[R] at x;obtain⟨t,rfl⟩:=x;exact⟨_,.str i t⟩
 |.list ds,v,y,e,x=>by
  rw[fq] at e;obtain⟨ps,q,e⟩:=kA.mp e;cases e;rw[R] at x;obtain⟨p,vs,n,rfl,_,z,_,r⟩:=x;obtain⟨as,r⟩:=Rs.rd ds vs ps q r;exact⟨_,.list z rfl rfl (by simpa using r)⟩
 |.tuple ds,v,y,e,x=>by
  rw[fq] at e;obtain⟨ps,q,e⟩:=kA.mp e;cases e;rw[R] at x;obtain⟨p,vs,rfl,_,⟨o,z,c,n,z2⟩,_,r⟩:=x;obtain⟨as,r⟩:=Rs.rd ds vs ps q r;exact⟨_,.tuple z c z2 (by simpa using r)⟩
 |.dK _ _,v,y,e,x=>by rw[fq] at e;cases e
 |.dT _ _,v,y,e,x=>by rw[fq] at e;cases e
theorem Rs.rd:∀(ds:List Dt)(vs:List kL)(ps:List GW),wN ds=some ps->Rs G O h ds vs->∃as,HU h vs ps as
 |[],vs,ps,e,x=>by rw[wN] at e;cases e;rw[Rs] at x;subst x;exact⟨_,.nil⟩
 |d::ds,vs,ps,e,x=>by
  rw[wN] at e;obtain⟨p,q1,e⟩:=kA.mp e;obtain⟨R4,q2,e⟩:=kA.mp e;cases e;rw[Rs] at x;obtain⟨v,r,rfl,h1,h2⟩:=x;obtain⟨as,r1⟩:=R.rd d v p q1 h1;obtain⟨bs,r2⟩:=Rs.rd ds r R4 q2 h2;exact⟨_,.cons r1 r2⟩
end
theorem RT.rd{y:GW}(e:fq d=some y)(x:RT G O h d v):∃as,Reads h v y as:=by
 rcases x with x|⟨p,rfl,x⟩
 ·exact R.rd _ _ _ e x
 ·cases d with
  |list ds=>
   rw[fq] at e;obtain⟨ps,q,e⟩:=kA.mp e;cases e;obtain⟨vs,n,z,_,r⟩:=x;obtain⟨as,r⟩:=Rs.rd ds vs ps q r;exact⟨_,.list z rfl rfl (by simpa using r)⟩
  |dK _ _=>rw[fq] at e;cases e
  |dT _ _=>rw[fq] at e;cases e
  |_=>exact x.elim
end
open PySem.W (tabObj)
structure Mod(K:Qw)(mg:Str->Option kL)(base:Heap):Prop where
 kin:K.In base
 glob:base.Ns uX mg
 blt:∃mb,base.Ns ED mb/\∀x:Str,x≠"__name__"->mb x=uw x
 nolimit:base.NoLimit
structure Cx extends Gx where
 A:Qd
 N:List Str
 env:Env
 fn:Bool
 rb:AP
abbrev Os:=Nat->Addr->Prop
def fP(ow:Os):AP:=λa=>∃i,ow i a
def Cx.cel(X:Cx):AP:=λa=>∃x,X.env.cells.lookup x=some a
def Cx.O(X:Cx)(B:AP)(ow:Os):AP:=λa=>B a\/fP ow a\/a=X.env.locals\/X.cel a
def Cx.W(X:Cx)(ow:Os):AP:=λa=>fP ow a\/a=X.env.locals\/(X.fn=true/\X.cel a)
structure Cx.Ok(X:Cx):Prop where
 mod:Mod X.K X.mg X.base
 kind:X.env.scope.kind=.function
 glob:X.env.globals=uX
 blt:X.env.builtins=ED
 inj:∀x y c,X.env.cells.lookup x=some c->X.env.cells.lookup y=some c->x=y
 has:∀x,(X.env.kindOf x=some .cell\/X.env.kindOf x=some .free)->∃c,X.env.cells.lookup x=some c
 hd:X.A.handled=none
def LT(E:AP)(h:Heap)(t:Addr×Pos×Str):Prop:=∃ps,h.get? t.1=some (tabObj ps)/\TriplesOk ps.toList/\(codeAmong t.2.1 ps.toList=none\/∃c,codeAmong t.2.1 ps.toList=some (.ref c)/\h.CodeRec (.ref c) t.2.2/\¬E c)
def yh(env:Env)(h:Heap)(m:Str->Option kL)(x:Str)(u:kL):Prop:=
 (env.kindOf x=some .local/\m x=some u)\/((env.kindOf x=some .cell\/env.kindOf x=some .free)/\∃c,env.cells.lookup x=some c/\h.IsCell c (some u))
def H4(G:Gx)(O:AP)(h:Heap)(qs:List Addr)(ds:List Dt)(vs:List kL):Prop:=vs=qs.map Ql/\ds.length=qs.length/\∀(i:Nat)(d:Dt)(q:Addr),ds[i]?=some d->qs[i]?=some q->Top G O h (Rs G O h) d q
def RW(G:Gx)(O:AP)(h:Heap)(S:AP):Nat->Dt->Addr->Prop
 |1,d,p=>(∀a,S a↔a=p)/\Top G O h (Rs G O h) d p
 |2,d,p=>∃qs,(∀a,S a↔a=p\/a∈qs)/\(p::qs).Nodup/\Top G O h (H4 G O h qs) d p
 |_,_,_=>False
def Sk(X:Cx)(B:AP)(π:Addr)(ow:Os)(h:Heap)(m:Str->Option kL)(x:Str)(i:Nat):Sl->Prop
 |.un=>True
 |.fz d=>∃u,yh X.env h m x u/\R X.toGx (X.O B ow) h d u
 |.ow io n d=>∃p,yh X.env h m x (.ref p)/\(io=true->p=π)/\RW X.toGx (X.O B ow) h (ow i) n d p
 |.rd d=>∃u,yh X.env h m x u/\RT X.toGx (X.O B ow) h d u/\∀p,u=.ref p->X.O B ow p->X.rb p
structure Inv(X:Cx)(B:AP)(π:Addr)(Z:En)(ow:Os)(s:kR):Prop where
 ok:X.Ok
 ge:EE s.gens
 base:∀b o,X.base.get? b=some o->s.heap.get? b=some o
 bo:∀a,X.O B ow a->X.base.get? a=none
 bt:∀a,X.T a->B a
 tb:∀t∈X.tb,LT (X.O B ow) s.heap t
 bd:∀a,B a->∃o,s.heap.get? a=some o
 rb:∀a,X.rb a->B a/\a≠X.env.locals/\¬X.cel a
 loc:∃m,s.heap.Ns X.env.locals m/\∀(i:Nat)(x:Str)(sl:Sl),X.N[i]?=some x->Z[i]?=some sl->Sk X B π ow s.heap m x i sl
 cell:∀x c,X.env.cells.lookup x=some c->∃v,s.heap.IsCell c v
 len:Z.length=X.N.length
 inj:∀i j a,ow i a->ow j a->i=j
 own:∀i a,ow i a->(∃o,s.heap.get? a=some o/\∀z,o.data≠.fields z)/\¬B a/\a≠X.env.locals/\¬X.cel a
structure St(G:Gx)(W:AP)(s s':kR):Prop where
 os:s'.os=s.os
 kp:∀a o,s.heap.get? a=some o->¬W a->¬G.T a->s'.heap.get? a=some o
 ex:∀a o,s.heap.get? a=some o->∃o',s'.heap.get? a=some o'
 tg:∀a ps,G.T a->s.heap.get? a=some (tabObj ps)->∃more,s'.heap.get? a=some (tabObj (ps++more))
variable{mm:Str->Option kL}
section
variable{X:Cx}{G:Gx}{B B' W W' E E':AP}{π:Addr}{Z aZ:En}{ow aL:Os}{s s' s1 s2:kR}{h h':Heap}{a p:Addr}{o:Obj}{d:Dt}{i:Nat}{x:Str}{v u:kL}
def St.refl:St G W s s:=⟨rfl,λ_ _ e _ _=>e,λ_ o e=>⟨o,e⟩,λ_ ps _ e=>⟨#[],by rw[e];simp⟩⟩
def St.trans(t:St G W s s1)(u:St G W' s1 s2)(w:∀a,W' a->W a\/s.heap.get? a=none):St G W s s2:=⟨u.os.trans t.os,λa o e n nt=>u.kp a o (t.kp a o e n nt) (λz=>(w a z).elim n λq=>by rw[q] at e;cases e) nt,λa o e=>let⟨_,e⟩:=t.ex a o e;u.ex a _ e,λa ps q e=>by
 obtain⟨m,e⟩:=t.tg a ps q e;obtain⟨m2,e⟩:=u.tg a _ q e;exact⟨m++m2,by rw[e,Array.append_assoc]⟩⟩
def St.then(t:St G W s s1)(u:St G bL s1 s2):St G W s s2:=t.trans u λ_ z=>z.elim
def St.up(u:St G bL s s'):St G W s s':=⟨u.os,λa o e _=>u.kp a o e id,u.ex,u.tg⟩
variable{t':Nat}
def St.keep(k:∀b o,s.heap.get? b=some o->h'.get? b=some o):St G W s {s with heap:=h',toks:=t'}:=⟨rfl,λa o e _ _=>k a o e,λa o e=>⟨o,k a o e⟩,λa ps _ e=>⟨#[],by rw[k _ _ e];simp⟩⟩
theorem St.free(t:St G W s s')(e:s'.heap.get? a=none):s.heap.get? a=none:=by
 cases q:s.heap.get? a with
 |none=>rfl
 |some o=>obtain⟨_,z⟩:=t.ex a o q;rw[e] at z;cases z
def LT.go(l:LT E h t)(i:∀a,E' a->E a\/∀o,h.get? a=some o->∀z,o.data≠.fields z)(k:∀b o,h.get? b=some o->¬E b->h'.get? b=some o)(kt:∀o,h.get? t.1=some o->h'.get? t.1=some o):LT E' h' t:=by
 obtain⟨ps,e,q,r⟩:=l;refine⟨ps,kt _ e,q,r.imp id λ⟨c,r1,⟨c2,oc,vs,tk,e2,e3,e4⟩,n⟩=>?_⟩
 cases e2;exact⟨c,r1,⟨c,oc,vs,tk,rfl,k _ _ e3 n,e4⟩,λz=>(i c z).elim n λq=>q oc e3 vs e4.1⟩
def LT.ne(l:LT E h t)(e:h.get? a=some o)(n:∀z,o.data≠.fields z):a≠t.1:=λq=>by obtain⟨ps,z,_⟩:=l;rw[q,z] at e;cases e;exact n ps rfl
def Inv.nt(I:Inv X B π Z ow s)(e:s.heap.get? a=some o)(n:∀z,o.data≠.fields z):¬X.T a:=λ⟨t,m,q⟩=>(I.tb t m).ne e n q.symm
def Inv.ntL(I:Inv X B π Z ow s):¬X.T X.env.locals:=by obtain⟨m,⟨o,es,ep,e,q,_⟩,_⟩:=I.loc;exact I.nt e λz y=>by rw[q] at y;cases y
def Inv.ntC(I:Inv X B π Z ow s){x:Str}{c:Addr}(hc:X.env.cells.lookup x=some c):¬X.T c:=by obtain⟨v,o,e,q⟩:=I.cell x c hc;exact I.nt e λz y=>by rw[q] at y;cases y
def Inv.ex(I:Inv X B π Z ow s)(h:X.O B ow a):∃o,s.heap.get? a=some o:=by
 rcases h with h|⟨i,h⟩|h|⟨x,h⟩
 ·exact I.bd a h
 ·obtain⟨⟨o,e,_⟩,_⟩:=I.own i a h;exact⟨o,e⟩
 ·obtain⟨m,⟨o,es,ep,e,_⟩,_⟩:=I.loc;exact⟨o,by rw[h];exact e⟩
 ·obtain⟨v,o,e,_⟩:=I.cell x a h;exact⟨o,e⟩
def Inv.apart(I:Inv X B π Z ow s)(n:s.heap.get? a=none):¬X.O B ow a:=λh=>by obtain⟨o,e⟩:=I.ex h;rw[n] at e;cases e
def Inv.fresh(I:Inv X B π Z ow s):¬X.O B ow s.heap.objs.size:=I.apart (uN (pI _))
def Inv.kin(I:Inv X B π Z ow s):X.K.In s.heap:=I.ok.mod.kin.keeps I.base
def Inv.fr(I:Inv X B π Z ow s):∀{a},X.base.get? a=some o->¬X.O B ow a:=λe z=>by rw[I.bo _ z] at e;cases e
def yh.go(l:yh X.env h m x u)(k:∀c o,X.env.cells.lookup x=some c->h.get? c=some o->h'.get? c=some o):yh X.env h' m x u:=l.imp id λ⟨q,c,e,o,z,y⟩=>⟨q,c,e,o,k c o e z,y⟩
theorem RW.go{O O' S:AP}(g:Gd O h O' h')(k:∀a o,S a->h.get? a=some o->h'.get? a=some o):∀{n},RW G O h S n d p->RW G O' h' S n d p
 |1,⟨q,t⟩=>⟨q,t.imp g (λo=>k p o ((q p).mpr rfl)) λ_ _=>Rs.go g _ _⟩
 |2,⟨qs,q,nd,t⟩=>⟨qs,q,nd,t.imp g (λo=>k p o ((q p).mpr (.inl rfl))) λ_ _⟨a,b,c⟩=>⟨a,b,λi d r e1 e2=>(c i d r e1 e2).imp g (λo=>k r o ((q r).mpr (.inr (kT e2)))) λ_ _=>Rs.go g _ _⟩⟩
def Inv.gd(I:Inv X B π Z ow s)(t:St X.toGx bL s s'):Gd (X.O B ow) s.heap (X.O B ow) s'.heap:=λa o e n=>⟨t.kp a o e id λz=>n (.inl (I.bt a z)),n⟩
theorem Sk.go{h h':Heap}{Io:Str->Option kL}{j:Nat}{sl:Sl}(k:Sk X B π ow h mm x j sl)(e:aL j=ow j)(g:Gd (X.O B ow) h (X.O B' aL) h')(l:∀u,yh X.env h mm x u->yh X.env h' Io x u)(ko:∀a o,ow j a->h.get? a=some o->h'.get? a=some o)(kr:∀p o,(X.O B ow p->X.rb p)->h.get? p=some o->(∀z,o.data≠.fields z)->h'.get? p=some o)(ri:∀p o,h.get? p=some o->X.O B' aL p->X.O B ow p):Sk X B' π aL h' Io x j sl:=by
 cases sl with
 |un=>trivial
 |fz d=>obtain⟨u,q,r⟩:=k;exact⟨u,l u q,R.go g _ _ r⟩
 |ow io n d=>obtain⟨p,q,z,r⟩:=k;exact⟨p,l _ q,z,by rw[e];exact r.go g ko⟩
 |rd d=>
  obtain⟨u,q,r,n⟩:=k;refine⟨u,l u q,?_,λp e z=>let⟨o,y⟩:=r.ex e;n p e (ri p o y z)⟩;rcases r with r|⟨p,e,r⟩
  ·exact .inl (R.go g _ _ r)
  ·obtain⟨o,z,nf⟩:=r.get;exact .inr ⟨p,e,r.imp g (λo' y=>by rw[z] at y;cases y;exact kr p o (n p e) z nf) λ_ _=>Rs.go g _ _⟩
theorem Inv.go{V:AP}(I:Inv X B π Z ow s)(kp:∀a o,s.heap.get? a=some o->¬V a->s'.heap.get? a=some o)(vB:∀a,V a->B a)(vl:¬V X.env.locals)(vc:∀a,X.cel a->¬V a)(vr:∀a o,X.rb a->s.heap.get? a=some o->(∀z,o.data≠.fields z)->¬V a)
  (ob:∀a,B' a->B a\/s.heap.get? a=none)(bt:∀a,X.T a->B' a)(rb:∀a,X.rb a->B' a)(bd:∀a,B' a->∃o,s'.heap.get? a=some o)(ge:EE s'.gens)(lt:∀t∈X.tb,LT (X.O B' ow) s'.heap t):Inv X B' π Z ow s':=by
 have oi:∀{a},X.O B' ow a->X.O B ow a\/s.heap.get? a=none:=λz=>z.elim (λz=>(ob _ z).imp .inl id) λz=>.inl (.inr z);have ri:∀p o,s.heap.get? p=some o->X.O B' ow p->X.O B ow p:=λp o e z=>(oi z).elim id λz=>by rw[z] at e;cases e
 have g:Gd (X.O B ow) s.heap (X.O B' ow) s'.heap:=λa o e n=>⟨kp a o e λz=>n (.inl (vB a z)),λz=>n (ri a o e z)⟩;obtain⟨m,⟨oL,es,ep,eL,rL⟩,sk⟩:=I.loc;have ck:∀{x c o},X.env.cells.lookup x=some c->s.heap.get? c=some o->s'.heap.get? c=some o:=λq e=>kp _ _ e (vc _ ⟨_,q⟩);have ko:∀{j a o},ow j a->s.heap.get? a=some o->s'.heap.get? a=some o:=λz e=>kp _ _ e λy=>(I.own _ _ z).2.1 (vB _ y);refine⟨I.ok,ge,λb o e=>kp b o (I.base b o e) λz=>I.fr e (.inl (vB b z)),λa z=>(oi z).elim (I.bo a) λz=>?_,bt,lt,bd,λa z=>⟨rb a z,(I.rb a z).2⟩,⟨m,⟨oL,es,ep,kp _ _ eL vl,rL⟩,λj x sl h1 h2=>(sk j x sl h1 h2).go rfl g (λu q=>q.go λc o=>ck) (λa o=>ko) (λp o q e nf=>kp p o e λz=>vr p o (q (.inl (vB p z))) e nf z) ri⟩,λx c e=>let⟨v,o,z,q⟩:=I.cell x c e;⟨v,o,ck e z,q⟩,I.len,I.inj,λj a h=>?_⟩
 ·cases q:X.base.get? a with
  |none=>rfl
  |some o=>rw[I.base a o q] at z;cases z
 ·obtain⟨⟨o,e,nf⟩,q,r⟩:=I.own j a h;exact⟨⟨o,ko h e,nf⟩,λz=>(ob a z).elim q (λz=>by rw[z] at e;cases e),r⟩
def Inv.st(I:Inv X B π Z ow s)(t:St X.toGx bL s s')(ge:EE s'.gens)(lt:∀t∈X.tb,LT (X.O B ow) s'.heap t):Inv X B π Z ow s':=
 I.go (V:=X.T) (λa o e n=>t.kp a o e id n) I.bt I.ntL (λa⟨x,z⟩=>I.ntC z) (λa o _ e nf=>I.nt e nf) (λ_=>.inl) I.bt (λa z=>(I.rb a z).1) (λa b=>let⟨o,e⟩:=I.bd a b;t.ex a o e) ge lt
def Sx(X:Cx)(B:AP)(π:Addr)(Z:En)(ow:Os)(s s':kR):Prop:=Inv X B π Z ow s'/\St X.toGx bL s s'
def Sx.trans(a:Sx X B π Z ow s s1)(b:Sx X B π Z ow s1 s2):Sx X B π Z ow s s2:=⟨b.1,a.2.then b.2⟩
def Inv.sx(I:Inv X B π Z ow s):Sx X B π Z ow s s:=⟨I,.refl⟩
def Inv.kept(I:Inv X B π Z ow s)(k:∀b o,s.heap.get? b=some o->h'.get? b=some o):Sx X B π Z ow s {s with heap:=h',toks:=t'}:=
 ⟨I.st (.keep k) I.ge λt m=>(I.tb t m).go (λ_=>.inl) (λb o e _=>k b o e) λo e=>k _ o e,.keep k⟩
def Inv.tok(I:Inv X B π Z ow s)(t:Nat):Sx X B π Z ow s {s with toks:=t}:=I.kept (h':=s.heap) λ_ _ e=>e
def Cx.O.mono(i:∀a,B' a->B a):X.O B' ow a->X.O B ow a:=λh=>h.imp (i a) id
def Inv.less(I:Inv X B π Z ow s)(i:∀a,B' a->B a)(bt:∀a,X.T a->B' a)(rb:∀a,X.rb a->B' a):Inv X B' π Z ow s:=
 I.go (V:=bL) (λ_ _ e _=>e) (λ_=>Uq) id (λ_ _=>id) (λ_ _ _ _ _=>id) (λa z=>.inl (i a z)) bt rb (λa z=>I.bd a (i a z)) I.ge λt q=>(I.tb t q).go (λa z=>.inl (Cx.O.mono i z)) (λ_ _ e _=>e) λ_ e=>e
def Inv.more'(I:Inv X B π Z ow s)(J:Sx X B π Z ow s s')(n:∀a,B' a->s.heap.get? a=none)(ex:∀a,B' a->∃o,s'.heap.get? a=some o)(lt:∀t∈X.tb,LT (X.O (λa=>B a\/B' a) ow) s'.heap t):Inv X (λa=>B a\/B' a) π Z ow s':=
 I.go (V:=X.T) (λa o e n=>J.2.kp a o e id n) I.bt I.ntL (λa⟨x,z⟩=>I.ntC z) (λa o _ e nf=>I.nt e nf) (λa z=>z.imp id (n a)) (λa z=>.inl (I.bt a z)) (λa z=>.inl (I.rb a z).1) (λa z=>z.elim (J.1.bd a) (ex a)) J.1.ge lt
def Inv.more(I:Inv X B π Z ow s)(n:∀a,B' a->s.heap.get? a=none)(k:∀b o,s.heap.get? b=some o->h'.get? b=some o)(ex:∀a,B' a->∃o,h'.get? a=some o):Inv X (λa=>B a\/B' a) π Z ow {s with heap:=h',toks:=t'}:=
 I.more' (I.kept k) n ex λt m=>(I.tb t m).go (λa z=>z.elim (λz=>z.elim (λz=>.inl (.inl z)) λz=>.inr λo e=>by rw[n a z] at e;cases e) λz=>.inl (.inr z)) (λb o e _=>k b o e) λo e=>k _ o e
def Inv.newp(I:Inv X B π Z ow s)(J:Sx X B π Z ow s s')(n:∀a,B' a->s.heap.get? a=none)(ex:∀a,B' a->∃o,s'.heap.get? a=some o/\∀z,o.data≠.fields z):Inv X (λa=>B a\/B' a) π Z ow s':=
 I.more' J n (λa z=>let⟨o,e,_⟩:=ex a z;⟨o,e⟩) λt m=>(J.1.tb t m).go (λa z=>z.elim (λz=>z.elim (λz=>.inl (.inl z)) λz=>.inr λo e=>by obtain⟨o',e',nf⟩:=ex a z;rw[e] at e';cases e';exact nf) λz=>.inl (.inr z)) (λb o e _=>e) λo e=>e
end
abbrev nE:kL->kR->Prop:=λ_ _=>False
def ax{α:Type}{t:Sem α}{Q Q':α->kR->Prop}{M:Model}{A:Qd}{E:kL->kR->Prop}{s:kR}(h:ν M A t Q E s)(hQ:∀a s,Q a s->Q' a s):ν M A t Q' E s:=Qr h hQ λ_ _ x=>x
def PE(X:Cx)(m:Bool)(e:Expr)(f:En->Option Dt):Prop:=∀B π Z ow s d,Inv X B π Z ow s->f Z=some d->ν (ο X.P X.w) X.A (eval e X.env) (λv s'=>Sx X B π Z ow s s'/\RM m X.toGx (X.O B ow) s'.heap d v) nE s
def PF(X:Cx)(e:Expr)(f:En->Option Dt):Prop:=∀B π Z ow s d,Inv X B π Z ow s->f Z=some d->ν (ο X.P X.w) X.A (eval e X.env) (λv s'=>Sx X B π Z ow s s'/\∃p,v=.ref p/\s.heap.get? p=none/\Top X.toGx (λa=>X.O B ow a\/a=p) s'.heap (Rs X.toGx (λa=>X.O B ow a\/a=p) s'.heap) d p) nE s
def PA(X:Cx)(m:Bool)(es:List Expr)(f:En->Option (List Dt)):Prop:=∀pos B π Z ow s ds,Inv X B π Z ow s->f Z=some ds->ν (ο X.P X.w) X.A (spliced (Qh pos (pO es X.env))) (λus s'=>Sx X B π Z ow s s'/\Ae (RM m X.toGx (X.O B ow) s'.heap) ds us) nE s
def PT(X:Cx)(e:Expr)(c:En->Option Bool):Prop:=∀B π Z ow s b,Inv X B π Z ow s->c Z=some b->ν (ο X.P X.w) X.A (isTrue e X.env (eval e X.env)) (λr s'=>r=b/\Sx X B π Z ow s s') nE s
def PW(X:Cx)(e:Expr)(c:En->Option Bool):Prop:=∀wh B π Z ow s b,Inv X B π Z ow s->c Z=some b->ν (ο X.P X.w) X.A (isTrue e X.env wh) (λr s'=>r=b/\Sx X B π Z ow s s') nE s
def Z2(X:Cx)(f:kL->kL->Sem kL)(k:Dt->Dt->Option Dt):Prop:=∀B π Z ow s a b d v u,Inv X B π Z ow s->k a b=some d->RT X.toGx (X.O B ow) s.heap a v->RT X.toGx (X.O B ow) s.heap b u->ν (ο X.P X.w) X.A (f v u) (λr s'=>Sx X B π Z ow s s'/\R X.toGx (X.O B ow) s'.heap d r) nE s
def ZC(X:Cx)(f:kL)(k:List Dt->Option Dt):Prop:=∀B π Z ow s ds d us,Inv X B π Z ow s->k ds=some d->Ae (RT X.toGx (X.O B ow) s.heap) ds us->ν (ο X.P X.w) X.A (call f us) (λr s'=>Sx X B π Z ow s s'/\R X.toGx (X.O B ow) s'.heap d r) nE s
def ZF(X:Cx)(f:kL)(k:List Dt->Option Dt):Prop:=∀B π Z ow s ds d us,Inv X B π Z ow s->k ds=some d->Ae (RT X.toGx (X.O B ow) s.heap) ds us->ν (ο X.P X.w) X.A (call f us) (λr s'=>Sx X B π Z ow s s'/\∃p,r=.ref p/\s.heap.get? p=none/\Top X.toGx (λa=>X.O B ow a\/a=p) s'.heap (Rs X.toGx (λa=>X.O B ow a\/a=p) s'.heap) d p) nE s
def Gl(X:Cx)(x:Str):Prop:=X.env.kindOf x=some .globalImplicit
def NS(e:Expr):Prop:=∀es env,pO (e::es) env=(false,eval e env)::pO es env
section
variable{X:Cx}{B:AP}{π:Addr}{Z:En}{ow:Os}{s s':kR}{m:Bool}{a b e:Expr}{es:List Expr}{f g:En->Option Dt}{ga:En->Option (List Dt)}{c c':En->Option Bool}{pos p:Pos}{x:Str}{d:Dt}{ds:List Dt}{v u:kL}{vs us:List kL}{q:Addr}
def RT.st(r:RT X.toGx (X.O B ow) s.heap d v)(I:Inv X B π Z ow s)(t:St X.toGx bL s s'):RT X.toGx (X.O B ow) s'.heap d v:=by
 rcases r with r|⟨p,e,r⟩
 ·exact .inl (R.go (I.gd t) _ _ r)
 ·obtain⟨o,z,nf⟩:=r.get;exact .inr ⟨p,e,r.imp (I.gd t) (λo e=>t.kp p o e id (I.nt z nf)) λ_ _=>Rs.go (I.gd t) _ _⟩
theorem RM.st(I:Inv X B π Z ow s)(t:St X.toGx bL s s'):∀{m},RM m X.toGx (X.O B ow) s.heap d v->RM m X.toGx (X.O B ow) s'.heap d v
 |true,r=>RT.st r I t
 |false,r=>R.go (I.gd t) _ _ r
theorem Nj{α β:Type}{F G:α->β->Prop}(f:∀a b,F a b->G a b){R5:List α}{l₂:List β}(x:Ae F R5 l₂):Ae G R5 l₂:=by
 induction x with
 |nil=>exact .nil
 |cons r t ih=>exact .cons (f _ _ r) ih
variable{G:Gx}{O:AP}{h:Heap}
theorem Yr(r:Ae (R G O h) ds us):Rs G O h ds us:=by
 induction r with
 |nil=>exact .nil
 |cons h _ ih=>exact .cons h ih
def R6(r:Top G (λa=>O a\/a=q) h (Rs G (λa=>O a\/a=q) h) d q)(n:¬O q):R G O h d (.ref q):=R.top (r.imp (Gd.less λ_=>.inl) (λ_ e=>e) λ_ _=>Rs.go (Gd.less λ_=>.inl) _ _) n
def fe(h:PF X e f):PE X m e f:=λB π Z ow s d I q=>ax (h B π Z ow s d I q) λv s'⟨t,p,e,n,r⟩=>⟨t,.of (by rw[e];exact R6 r (I.apart n))⟩
def Inv.look(I:Inv X B π Z ow s){i:Nat}{sl:Sl}(hN:X.N[i]?=some x)(e:Z[i]?=some sl):∃m,s.heap.Ns X.env.locals m/\Sk X B π ow s.heap m x i sl:=let⟨m,h,k⟩:=I.loc;⟨m,h,k i x sl hN e⟩
def ld{Q:kL->kR->Prop}{E:kL->kR->Prop}{mm:Str->Option kL}(I:Inv X B π Z ow s)(hn:s.heap.Ns X.env.locals mm)(l:yh X.env s.heap mm x u)(h:Q u s)(dN:(x==("__classdict__":Str))=false):ν (ο X.P X.w) X.A (loadName X.env x) Q E s:=by
 rcases l with⟨hk,hm⟩|⟨hk|hk,c,hc,Mc⟩
 ·exact Ek I.ok.kind hk hn hm h
 ·exact wpAny_loadName_cell I.ok.kind hk hc Mc h
 ·exact wpAny_loadName_free I.ok.kind hk hc Mc h dN
def dv(i:Nat)(hN:X.N[i]?=some x:=by rfl)(hd:(x==("__debug__":Str))=false:=by decide)(dN:(x==("__classdict__":Str))=false:=by decide):PE X m (.Name x pos) (dV i):=λB π Z ow s d I q=>by
 obtain⟨sl,e,q⟩:=kA.mp q;obtain⟨mm,hn,k⟩:=I.look hN e
 cases sl<;>cases q
 obtain⟨u,l,r⟩:=k;exact Cd (ld I hn l ⟨I.sx,.of r⟩ dN) hd
def dvr(i:Nat)(hN:X.N[i]?=some x:=by rfl)(hd:(x==("__debug__":Str))=false:=by decide)(dN:(x==("__classdict__":Str))=false:=by decide):PE X true (.Name x pos) (aY i):=λB π Z ow s d I q=>by
 obtain⟨sl,e,q⟩:=kA.mp q;obtain⟨mm,hn,k⟩:=I.look hN e;unfold sR at q
 split at q<;>cases q
 ·obtain⟨u,l,r⟩:=k;exact Cd (ld I hn l ⟨I.sx,.inl r⟩ dN) hd
 ·obtain⟨p,l,_,_,r⟩:=k;exact Cd (ld I hn l ⟨I.sx,.inr ⟨p,rfl,r⟩⟩ dN) hd
 ·obtain⟨u,l,r,_⟩:=k;exact Cd (ld I hn l ⟨I.sx,r⟩ dN) hd
def Nk{i j}:PE X m (.Constant (.int i) j pos) (dC (.int i)):=λB π Z ow s d I q=>by cases q;exact BO ⟨I.tok _,.of .int⟩
def R7{b j}:PE X m (.Constant (.bool b) j pos) (dC (.bool b)):=λB π Z ow s d I q=>by cases q;exact Constant_bool ⟨I.sx,.of .bl⟩
def Nl{j}:PE X m (.Constant .none j pos) (dC .none):=λB π Z ow s d I q=>by cases q;exact Constant_none ⟨I.sx,.of .non⟩
def Nn{x j}:PE X m (.Constant (.str x) j pos) (dC (.str x)):=λB π Z ow s d I q=>by cases q;exact Calls.Constant_str ⟨I.tok _,.of .str⟩
def W6{E Q}(I:Inv X B π Z ow s)(hg:Gl X x)(hm:X.mg x=some u)(h:Q u s)(hd:(x==("__debug__":Str))=false:=by decide):ν (ο X.P X.w) X.A (eval (.Name x pos) X.env) Q E s:=
 Ce I.ok.kind hg (Calls.loadGlobal_global (by rw[I.ok.glob];exact I.ok.mod.glob.keeps I.base) hm h) hd
def xm{E Q}(I:Inv X B π Z ow s)(hg:Gl X x)(hm:X.mg x=none)(hv:uw x=some u)(h:Q u s)(hn:x≠"__name__":=by decide)(hd:(x==("__debug__":Str))=false:=by decide):ν (ο X.P X.w) X.A (eval (.Name x pos) X.env) Q E s:=by
 obtain⟨mb,h1,h2⟩:=I.ok.mod.blt;exact Ce I.ok.kind hg (Calls.loadGlobal_builtin (by rw[I.ok.glob];exact I.ok.mod.glob.keeps I.base) hm (by rw[I.ok.blt];exact h1.keeps I.base) ((h2 x hn).trans hv) h) hd
variable{fn:kL->kL->Sem kL}
def op2{k:Dt->Dt->Option Dt}(ha:PE X true a f)(hb:PE X true b g)(hk:Z2 X fn k)(I:Inv X B π Z ow s)(q:d2 k f g Z=some d):
  ν (ο X.P X.w) X.A (eval a X.env) (λv aU=>ν (ο X.P X.w) X.A (eval b X.env) (λu cz=>ν (ο X.P X.w) X.A (fn v u) (λr s'=>Sx X B π Z ow s s'/\R X.toGx (X.O B ow) s'.heap d r) nE cz) nE aU) nE s:=by
 obtain⟨x,qa,q⟩:=kA.mp q;obtain⟨y,qb,q⟩:=kA.mp q;exact ax (ha B π Z ow s x I qa) λv s1⟨t1,r1⟩=>ax (hb B π Z ow s1 y t1.1 qb) λu s2⟨t2,r2⟩=>ax (hk B π Z ow s2 x y d v u t2.1 q (RT.st r1 t1.1 t2.2) r2) λr s3⟨t3,r3⟩=>⟨(t1.trans t2).trans t3,r3⟩
def o2{op:Operator}{k}(hk:Z2 X (binaryOp op) k)(ha:PE X true a f)(hb:PE X true b g):PE X m (.BinOp a op b pos) (d2 k f g):=λB π Z ow s d I q=>ax (DF (op2 ha hb hk I q)) λ_ _ h=>⟨h.1,.of h.2⟩
def c2{op:CmpOp}{k}(hk:Z2 X (Qp op) k)(ha:PE X true a f)(hb:PE X true b g)(hm:AA op b=false):PE X m (.Compare a [op] [b] pos) (d2 k f g):=λB π Z ow s d I q=>ax (wpAny_Compare1 (op2 ha hb hk I q) hm) λ_ _ h=>⟨h.1,.of h.2⟩
def A0{op:CmpOp}{k}(hk:Z2 X (Qp op) k)(ha:PE X true a f)(hb:PE X true b g)(hm:AA op b=false):PT X (.Compare a [op] [b] pos) (dB (d2 k f g)):=λB π Z ow s r I q=>by
 obtain⟨d,q,e⟩:=kA.mp q;refine Bv (ax (op2 ha hb hk I q) λ_ _ h1=>ax h1 λ_ _ h2=>ax h2 λc s3 hw=>?_) hm;obtain⟨t,r⟩:=hw
 cases d<;>cases e
 rw[R] at r;subst r;exact UG ⟨rfl,t⟩
theorem a9(b:Expr){op:CmpOp}(h:op≠.In:=by decide)(h2:op≠.NotIn:=by decide):AA op b=false:=by
 have e1:(op==CmpOp.In)=false:=by grind
 have e2:(op==CmpOp.NotIn)=false:=by grind
 cases b<;>simp[AA,e1,e2]
theorem zI{C:Int->Int->Prop}[∀i j,Decidable (C i j)]{g:Int->Int->Int}(rule:∀(i j:Int)(t u:Tok)(s:kR)(Q E:kL->kR->Prop),C i j->Q (.int (g i j) s.toks) {s with toks:=s.toks+1}->ν (ο X.P X.w) X.A (fn (.int i t) (.int j u)) Q E s):Z2 X fn (kI C g):=λB π Z ow s a b d v u I q ra rb=>by
 unfold kI at q
 split at q
 ·split at q<;>cases q
  obtain⟨t,rfl⟩:=ra.int;obtain⟨t',rfl⟩:=rb.int;exact rule _ _ _ _ _ _ _ ‹_› ⟨I.tok _,.int⟩
 ·cases q
def zI0{g:Int->Int->Int}(rule:∀(i j:Int)(t u:Tok)(s:kR)(Q E:kL->kR->Prop),Q (.int (g i j) s.toks) {s with toks:=s.toks+1}->ν (ο X.P X.w) X.A (fn (.int i t) (.int j u)) Q E s):Z2 X fn (Ic g):=λB π Z ow s a b d v u I q ra rb=>by
 unfold Ic at q
 split at q<;>cases q
 obtain⟨t,rfl⟩:=ra.int;obtain⟨t',rfl⟩:=rb.int;exact rule _ _ _ _ _ _ _ ⟨I.tok _,.int⟩
def zP{g:Int->Int->Bool}(rule:∀(i j:Int)(t u:Tok)(s:kR)(Q E:kL->kR->Prop),Q (.bool (g i j)) s->ν (ο X.P X.w) X.A (fn (.int i t) (.int j u)) Q E s):Z2 X fn (kP g):=λB π Z ow s a b d v u I q ra rb=>by
 unfold kP at q
 split at q<;>cases q
 obtain⟨t,rfl⟩:=ra.int;obtain⟨t',rfl⟩:=rb.int;exact rule _ _ _ _ _ _ _ ⟨I.sx,.bl⟩
def R8:Z2 X (Qp .Lt) nA:=zP λ_ _ _ _ _ _ _ q=>Df q
def R9:Z2 X (Qp .LtE) H2:=zP λ_ _ _ _ _ _ _ q=>le_int q
def Sa:Z2 X (Qp .Gt) tW:=zP λ_ _ _ _ _ _ _ q=>gt_int q
def z_ge:Z2 X (Qp .GtE) Rk:=zP λ_ _ _ _ _ _ _ q=>ge_int q
def Md:Z2 X (Qp .Eq) zr:=zP λi j _ _ _ _ _ q=>eq_int (by rw[show(i==j)=decide (i=j) by by_cases e:i=j<;>simp[e]];exact q)
def Sb:Z2 X (Qp .NotEq) wd:=zP λi j _ _ _ _ _ q=>ne_int (by rw[show(i !=j)= !decide (i=j) by by_cases e:i=j<;>simp[e]];exact q)
section
variable(ha:PE X true a f)(hb:PE X true b g)
include ha hb
theorem No:PE X m (.BinOp a .Add b pos) (d2 zt f g):=o2 (zI0 λ_ _ _ _ _ _ _ q=>add_int q) ha hb
theorem Np:PE X m (.BinOp a .Sub b pos) (d2 yL f g):=o2 (zI0 λ_ _ _ _ _ _ _ q=>sub_int q) ha hb
theorem Nq:PE X m (.BinOp a .Mult b pos) (d2 zn f g):=o2 (zI λ_ _ _ _ _ _ _ hc q=>mul_int q (PySem.IntMulOk.of_le (El.mpr hc.1) (El.mpr hc.2) (by decide))) ha hb
theorem Ip:PE X m (.BinOp a .FloorDiv b pos) (d2 zO f g):=o2 (zI λ_ j _ _ _ _ _ hc q=>floordiv_int hc.1 q (.inl (DR (by
 have h0:j.natAbs≠0:=by have:=hc.1;lia
 have:=(Nat.log2_lt h0).mpr hc.2;lia)))) ha hb
theorem Nr:PE X m (.BinOp a .Mod b pos) (d2 zx f g):=o2 (zI λ_ _ _ _ _ _ _ hc q=>mod_int' hc q) ha hb
theorem Nt:PE X m (.BinOp a .Pow b pos) (d2 qK f g):=o2 (zI λ_ _ _ _ _ _ _ hc q=>pow_int_small hc.1 hc.2.1 hc.2.2 q) ha hb
theorem Nv:PE X m (.BinOp a .BitXor b pos) (d2 wI f g):=o2 (zI0 λ_ _ _ _ _ _ _ q=>xor_int q) ha hb
theorem Sd:PE X m (.Compare a [.Lt] [b] pos) (d2 nA f g):=c2 R8 ha hb (a9 _)
theorem Se:PE X m (.Compare a [.LtE] [b] pos) (d2 H2 f g):=c2 R9 ha hb (a9 _)
theorem Sf:PE X m (.Compare a [.Gt] [b] pos) (d2 tW f g):=c2 Sa ha hb (a9 _)
theorem Nw:PE X m (.Compare a [.Eq] [b] pos) (d2 zr f g):=c2 Md ha hb (a9 _)
theorem Sg:PT X (.Compare a [.Lt] [b] pos) (dB (d2 nA f g)):=A0 R8 ha hb (a9 _)
theorem Sh:PT X (.Compare a [.LtE] [b] pos) (dB (d2 H2 f g)):=A0 R9 ha hb (a9 _)
theorem Si:PT X (.Compare a [.Gt] [b] pos) (dB (d2 tW f g)):=A0 Sa ha hb (a9 _)
theorem Sj:PT X (.Compare a [.GtE] [b] pos) (dB (d2 Rk f g)):=A0 z_ge ha hb (a9 _)
theorem Ny:PT X (.Compare a [.Eq] [b] pos) (dB (d2 zr f g)):=A0 Md ha hb (a9 _)
theorem Nz:PT X (.Compare a [.NotEq] [b] pos) (dB (d2 wd f g)):=A0 Sb ha hb (a9 _)
end
theorem z_eq(hu:X.A.units+64<a7):Z2 X (Qp .Eq) sB:=λB π Z ow s a b d v u I q ra rb=>by
 obtain⟨x,e1,q⟩:=kA.mp q;obtain⟨y,e2,q⟩:=kA.mp q
 split at q<;>cases q
 obtain⟨_,ra⟩:=ra.rd e1;obtain⟨_,rb⟩:=rb.rd e2;exact eq_dataH ra rb (‹_/\_›).1 (‹_/\_›).2 hu ⟨I.sx,.bl⟩
theorem z_ne(hu:X.A.units+64<a7):Z2 X (Qp .NotEq) Ie:=λB π Z ow s a b d v u I q ra rb=>by
 obtain⟨x,e1,q⟩:=kA.mp q;obtain⟨y,e2,q⟩:=kA.mp q
 split at q<;>cases q
 obtain⟨_,ra⟩:=ra.rd e1;obtain⟨_,rb⟩:=rb.rd e2;exact ne_dataH ra rb (‹_/\_›).1 (‹_/\_›).2 hu ⟨I.sx,.bl⟩
def Sm(hu:X.A.units+64<a7)(ha:PE X true a f)(hb:PE X true b g):PT X (.Compare a [.Eq] [b] pos) (dB (d2 sB f g)):=A0 (z_eq hu) ha hb (a9 _)
def Sn(hu:X.A.units+64<a7)(ha:PE X true a f)(hb:PE X true b g):PT X (.Compare a [.NotEq] [b] pos) (dB (d2 Ie f g)):=A0 (z_ne hu) ha hb (a9 _)
def RT.nn(r:RT G O h d v)(n:d≠.none):v≠.none:=λe=>by
 subst e;rcases r with r|⟨p,e,_⟩
 ·cases d<;>rw[R] at r<;>first|exact n rfl|exact nomatch r|(obtain⟨_,e⟩:=r;exact nomatch e)|(obtain⟨_,_,e,_⟩:=r;exact nomatch e)|(obtain⟨_,_,_,e,_⟩:=r;exact nomatch e)
 ·cases e
theorem So:Z2 X (Qp .Is) vZ:=λB π Z ow s a b d v u I q ra rb=>by
 have:b=.none/\((a=.none/\d=.bool true)\/(a≠.none/\d=.bool false)):=by
  cases b with
  |none=>cases a<;>cases q<;>simp
  |_=>cases a<;>cases q
 obtain⟨rfl,z⟩:=this;have e:u=.none:=by have:=rb.elim id λ⟨_,_,z⟩=>z.elim;rw[R] at this;exact this
 subst e;refine is_none_gen ⟨I.sx,?_⟩;rcases z with⟨rfl,rfl⟩|⟨n,rfl⟩
 ·have e:v=.none:=by have:=ra.elim id λ⟨_,_,z⟩=>z.elim;rw[R] at this;exact this
  subst e;exact .bl
 ·have:=ra.nn n;rw[show(v==UD)=false from beq_eq_false_iff_ne.mpr this];exact .bl
def NA(ha:PE X true a f)(hb:PE X true b g):PT X (.Compare a [.Is] [b] pos) (dB (d2 vZ f g)):=A0 So ha hb (a9 _)
def NB(h:PE X true e f)(he:∀Me,isTrue e X.env Me=(do let v <-Me;standAt e.pos;holding [v] (truthy v)):=by intro _;rfl):PT X e (dB f):=λB π Z ow s b I q=>by
 obtain⟨d,q,z⟩:=kA.mp q;refine isTrue_plain (ax (h B π Z ow s d I q) λv s1 hw=>?_) (he _);obtain⟨t,r⟩:=hw
 cases d<;>cases z
 rw[r.bl];exact UG ⟨rfl,t⟩
def PW.pt(h:PW X e c):PT X e c:=h _
def Iq(ha:PT X a c):PW X (.BoolOp .And [a] pos) c:=λwh B π Z ow s b I q=>isTrue_and (ax (ha B π Z ow s b I q) λr s1 h=>by
 cases r
 ·exact h
 ·exact isTrue_and_nil h)
def NC(ha:PT X a c):PW X (.BoolOp .Or [a] pos) c:=λwh B π Z ow s b I q=>isTrue_or (ax (ha B π Z ow s b I q) λr s1 h=>by
 cases r
 ·exact isTrue_or_nil h
 ·exact h)
variable{bZ:List Expr}
theorem ND(ha:PT X a c)(hb:PW X (.BoolOp .And (b::bZ) pos) c'):PW X (.BoolOp .And (a::b::bZ) pos) (cT c c'):=λwh B π Z ow s r I q=>by
 obtain⟨k,qa,q⟩:=kA.mp q;refine isTrue_and (ax (ha B π Z ow s k I qa) λk' s1 hw=>?_);obtain⟨e,t⟩:=hw;subst e
 cases k'
 ·grind
 ·exact ax (hb wh B π Z ow s1 r t.1 q) λ_ _⟨e,t2⟩=>⟨e,t.trans t2⟩
theorem Sp(ha:PT X a c)(hb:PW X (.BoolOp .Or (b::bZ) pos) c'):PW X (.BoolOp .Or (a::b::bZ) pos) (Ri c c'):=λwh B π Z ow s r I q=>by
 obtain⟨k,qa,q⟩:=kA.mp q;refine isTrue_or (ax (ha B π Z ow s k I qa) λk' s1 hw=>?_);obtain⟨e,t⟩:=hw;subst e
 cases k'
 ·exact ax (hb wh B π Z ow s1 r t.1 q) λ_ _⟨e,t2⟩=>⟨e,t.trans t2⟩
 ·grind
def NE(ha:PT X a c):PT X (.UnaryOp .Not a pos) (cJ c):=λB π Z ow s r I q=>by
 obtain⟨k,qa,q⟩:=kA.mp q
 cases q;exact isTrue_not (ax (ha B π Z ow s k I qa) λ_ _⟨e,t⟩=>⟨by rw[e],t⟩)
def NF{op}(h:PE X m a f):PE X m (.BoolOp op [a] pos) f:=λB π Z ow s d I q=>BoolOp_one (h B π Z ow s d I q)
def NG(ha:PE X true a f)(hb:PE X m (.BoolOp .And (b::bZ) pos) g):PE X m (.BoolOp .And (a::b::bZ) pos) (eU f g):=λB π Z ow s d I q=>by
 obtain⟨k,qa,q⟩:=kA.mp q;obtain⟨x,qa,z⟩:=kA.mp qa;refine BoolOp_and (ax (ha B π Z ow s x I qa) λv s1 hw=>?_);obtain⟨t,r⟩:=hw
 cases x<;>cases z
 rw[r.bl];refine UG ?_
 cases k
 ·cases q;exact⟨t,.of .bl⟩
 ·exact ax (hb B π Z ow s1 d t.1 q) λ_ _⟨t2,r⟩=>⟨t.trans t2,r⟩
def NH(ha:PE X true a f):PE X m (.UnaryOp .Not a pos) (d1 Ih f):=λB π Z ow s d I q=>by
 obtain⟨x,qa,q⟩:=kA.mp q;refine UnaryOp_ (ax (ha B π Z ow s x I qa) λv s1 hw=>?_);obtain⟨t,r⟩:=hw
 cases x<;>cases q
 rw[r.bl];exact not_of (UG ⟨t,.of .bl⟩)
def NI(ha:PE X true a f):PE X m (.UnaryOp .USub a pos) (d1 qc f):=λB π Z ow s d I q=>by
 obtain⟨x,qa,q⟩:=kA.mp q;refine UnaryOp_ (ax (ha B π Z ow s x I qa) λv s1 hw=>?_);obtain⟨t,r⟩:=hw
 cases x<;>cases q
 obtain⟨_,rfl⟩:=r.int;exact neg_int ⟨t.trans (t.1.tok _),.of .int⟩
def Sr{k:Expr}(hc:PT X k c)(ha:PE X m a f)(hb:PE X m b g):PE X m (.IfExp k a b pos) (Rj c f g):=λB π Z ow s d I q=>by
 obtain⟨r,qa,q⟩:=kA.mp q;refine wpAny_IfExp (ax (hc B π Z ow s r I qa) λr' s1 hw=>?_);obtain⟨e,t⟩:=hw;subst e
 cases r'
 ·exact ax (hb B π Z ow s1 d t.1 q) λ_ _⟨t2,r⟩=>⟨t.trans t2,r⟩
 ·exact ax (ha B π Z ow s1 d t.1 q) λ_ _⟨t2,r⟩=>⟨t.trans t2,r⟩
def dO:PA X m [] ae:=λpos B π Z ow s ds I q=>by cases q;exact Qb ⟨I.sx,.nil⟩
def cU(ha:PE X m e f)(hr:PA X m es ga)(n:NS e:=by intro _ _;rfl):PA X m (e::es) (aa f ga):=λpos B π Z ow s ds I q=>by
 obtain⟨x,qa,q⟩:=kA.mp q;obtain⟨y,qb,q⟩:=kA.mp q
 cases q;rw[n];show ν _ _ (spliced ((false,eval e X.env)::Qh pos (pO es X.env))) _ _ s;exact uZ (ax (ha B π Z ow s x I qa) λu s1⟨t1,r1⟩=>ax (hr pos B π Z ow s1 y t1.1 qb) λus s2⟨t2,r2⟩=>⟨t1.trans t2,.cons (RM.st t1.1 t2.2 r1) r2⟩)
theorem NJ{x1}(h:PA X false es ga):PE X m (.Tuple es x1 pos) (aN ga):=λB π Z ow s d I q=>by
 obtain⟨ds,qa,q⟩:=kA.mp q
 split at q<;>cases q
 refine wpAny_Tuple_spliced (ax (h pos B π Z ow s ds I qa) λus s1⟨t,r⟩=>⟨by rw[<-DS r];assumption,?_⟩)
 have t2:=t.1.kept (t':=s1.toks) λb o=>kK {cls:=.type "tuple",data:=.seq us.toArray};refine⟨t.trans t2,.of ?_⟩;rw[R];exact⟨_,us,rfl,t.1.fresh,IS _ _,by rw[<-DS r];assumption,Rs.go (t.1.gd t2.2) _ _ (Yr r)⟩
def Inv.lnew(I:Inv X B π Z ow s)(r:Rs X.toGx (X.O B ow) s.heap ds us)(l:us.length<=μ){h':Heap}{t' n:Nat}(k:∀b o,s.heap.get? b=some o->h'.get? b=some o)(fr:s.heap.get? q=none)(e:h'.get? q=some (lo us n)):
  Sx X B π Z ow s {s with heap:=h',toks:=t'}/\∃p,Ql q=.ref p/\s.heap.get? p=none/\Top X.toGx (λa=>X.O B ow a\/a=p) h' (Rs X.toGx (λa=>X.O B ow a\/a=p) h') (.list ds) p:=
 ⟨I.kept k,q,rfl,fr,us,n,e,l,Rs.go (λa o e n=>⟨k a o e,λz=>z.elim n λz=>by rw[z,fr] at e;cases e⟩) _ _ r⟩
theorem C9(h:PA X false es ga):PF X (.List es pos) (aQ ga):=λB π Z ow s d I q=>by
 obtain⟨ds,qa,q⟩:=kA.mp q
 split at q<;>cases q
 refine wpAny_List_spliced (ax (h pos B π Z ow s ds I qa) λus s1⟨t,r⟩=>⟨by rw[<-DS r];assumption,?_⟩)
 obtain⟨t2,p,e,n,r2⟩:=t.1.lnew (t':=s1.toks) (n:=0) (Yr r) (by rw[<-DS r];assumption) (λb o=>kK (lo us 0)) (uN (pI _)) (kf _ rfl)
 exact⟨t.trans t2,p,e,t.2.free n,r2⟩
theorem W5{n:Nat}{i:Int}{j:Nat}(h:ixN n i=some j):seqIndex? i n=some j/\j<n/\ -(n:Int)<=i/\i<n:=by
 unfold ixN at h
 split at h
 ·split at h<;>cases h
  exact⟨Em ‹_› ‹_›,by omega,by omega,‹_›⟩
 ·split at h<;>cases h
  exact⟨EF (by lia) ‹_›,by lia,‹_›,by lia⟩
def fQ:(μ:Nat)<2^63:=by rw[sizeLine_eq];decide
theorem Rs.at{G:Gx}{O:AP}{h:Heap}{i:Int}(r:Rs G O h ds vs)(e:Ig ds i=some d):∃j v,seqIndex? i vs.length=some j/\vs[j]?=some v/\ -(vs.length:Int)<=i/\i<vs.length/\R G O h d v:=by
 obtain⟨j,h1,h2⟩:=kA.mp e;obtain⟨v,h3,h4⟩:=r.get h2;rw[r.len] at h1;obtain⟨z1,_,z2,z3⟩:=W5 h1;exact⟨j,v,z1,h3,z2,z3,h4⟩
theorem Su(ha:PE X true a f)(hb:PE X true b g)(hp:∀o i,subscripted b false o i=operate [o,i] (FR o i):=by exact λ_ _=>rfl):PE X m (.Subscript a b pos) (d2 af f g):=λB π Z ow s d I q=>by
 refine Fj (ax (op2 (fn:=Fb a b) ha hb (λB π Z ow s x y d v u I q ra rb=>?_) I q) λ_ _ h1=>ax h1 λ_ _ h2=>ax h2 λ_ _ h=>⟨h.1,.of h.2⟩);have hn:=fQ;unfold af at q
 split at q
 ·obtain⟨t,rfl⟩:=rb.int;obtain⟨p,vs,n,rfl,z,l,r⟩:=ra.lst;obtain⟨j,w,h1,h2,h3,h4,h5⟩:=r.at q;have il:s.heap.IsList p vs.toArray:=⟨_,z,rfl,n,rfl⟩;have fin:Sx X B π Z ow s s/\R X.toGx (X.O B ow) s.heap d w:=⟨I.sx,h5⟩
  rename_i i
  by_cases h0:0<=i
  ·rw[Em h0 h4] at h1;exact item_listR il h0 (by lia) (by rw[uD h1];simpa using h2) fin (hp _ _)
  ·rw[EF (by lia) h3] at h1
   exact BY (x:=w) il.typeIs DG.lookup (EG (Q:=λr s'=>r=w/\_) il (by lia) (by rw[ph];lia) (by lia) (by rw[ph,uD h1];simpa using h2) ⟨rfl,fin⟩) (hp _ _)
 ·obtain⟨t,rfl⟩:=rb.int;obtain⟨p,vs,rfl,_,z,l,r⟩:=ra.tup;obtain⟨j,w,h1,h2,h3,h4,h5⟩:=r.at q;exact BY (x:=w) z.typeIs slot_tuple_getitem.lookup (getItem_tuple (j:=j) (Q:=λr s'=>r=w/\_) z (by lia) (by lia) (by rw[ph];exact h1) (by simpa using h2) ⟨rfl,I.sx,h5⟩) (hp _ _)
 ·cases q
end
open PySem.W (tabObj)
def Sq(X:Cx)(B:AP)(π:Addr)(ow:Os)(s:kR)(aZ:En)(aL:Os)(s':kR):Prop:=Inv X B π aZ aL s'/\St X.toGx (X.W ow) s s'/\∀a,fP aL a->fP ow a\/s.heap.get? a=none
def SP(X:Cx)(B:AP)(π:Addr)(ow:Os)(s:kR):Ou->Flow->kR->Prop
 |.nx aZ,.next,s'=>∃aL,Sq X B π ow s aZ aL s'
 |.bk aZ,.brk,s'=>∃aL,Sq X B π ow s aZ aL s'
 |.ct aZ,.cont,s'=>∃aL,Sq X B π ow s aZ aL s'
 |.rt d aZ,.ret v,s'=>∃aL,Sq X B π ow s aZ aL s'/\R X.toGx (X.O B aL) s'.heap d v
 |_,_,_=>False
def PS(X:Cx)(st:Stmt)(f:En->Option Ou):Prop:=∀B π Z ow s o,Inv X B π Z ow s->f Z=some o->ν (ο X.P X.w) X.A (exec st X.env) (SP X B π ow s o) nE s
def PSs(X:Cx)(st:List Stmt)(f:En->Option Ou):Prop:=∀B π Z ow s o,Inv X B π Z ow s->f Z=some o->ν (ο X.P X.w) X.A (execs st X.env) (SP X B π ow s o) nE s
def PG(X:Cx)(tg:Expr)(h:Dt->En->Option En):Prop:=∀B π Z ow s d aZ u,Inv X B π Z ow s->R X.toGx (X.O B ow) s.heap d u->h d Z=some aZ->ν (ο X.P X.w) X.A (assign tg X.env u) (λ_ s'=>∃aL,Sq X B π ow s aZ aL s') nE s
def PGs(X:Cx)(ts:List Expr)(h:List Dt->En->Option En):Prop:=∀B π Z ow s ds aZ us,Inv X B π Z ow s->Rs X.toGx (X.O B ow) s.heap ds us->h ds Z=some aZ->ν (ο X.P X.w) X.A (assignInOrder ((EH ts X.env).map (·.2)) us) (λ_ s'=>∃aL,Sq X B π ow s aZ aL s') nE s
def cH(ow:Os)(i:Nat)(S:AP):Os:=λj a=>(j=i/\S a)\/(j≠i/\ow j a)
variable{body:List Stmt}
section
variable{X:Cx}{B S:AP}{π:Addr}{Z aZ bY:En}{ow aL sI:Os}{s s' s1 s2:kR}{m:Bool}{a b e tg:Expr}{es:List Expr}{f g:En->Option Dt}{F H:En->Option Ou}{c:En->Option Bool}{h:Dt->En->Option En}{hs:List Dt->En->Option En}{pos bA:Pos}{x:Str}{d:Dt}{ds:List Dt}{u:kL}{us:List kL}{p:Addr}{i:Nat}{sl:Sl}{o:Ou}{fl:Flow}{st:Stmt}{bZ:List Stmt}
def Sq.refl(I:Inv X B π Z ow s):Sq X B π ow s Z ow s:=⟨I,.refl,λ_=>.inl⟩
def Sx.sq(t:Sx X B π Z ow s s'):Sq X B π ow s Z ow s':=⟨t.1,t.2.up,λ_=>.inl⟩
def Sq.w(q:Sq X B π ow s bY sI s1):∀a,X.W sI a->X.W ow a\/s.heap.get? a=none:=λa z=>z.elim (λz=>(q.2.2 a z).imp .inl id) λz=>.inl (.inr z)
def Sq.trans(q:Sq X B π ow s bY sI s1)(k:Sq X B π sI s1 aZ aL s'):Sq X B π ow s aZ aL s':=⟨k.1,q.2.1.trans k.2.1 q.w,λa z=>(k.2.2 a z).elim (q.2.2 a) λn=>.inr (q.2.1.free n)⟩
def Sq.sp(q:Sq X B π ow s bY sI s1)(k:SP X B π sI s1 o fl s2):SP X B π ow s o fl s2:=by
 cases o<;>cases fl<;>first|exact k.elim|(obtain⟨w,k⟩:=k;exact⟨w,q.trans k⟩)|(obtain⟨w,k,r⟩:=k;exact⟨w,q.trans k,r⟩)
def Sq.gd(I:Inv X B π Z ow s)(q:Sq X B π ow s aZ aL s'):Gd (X.O B ow) s.heap (X.O B aL) s'.heap:=λa o e n=>⟨q.2.1.kp a o e (λz=>n (z.elim (λz=>.inr (.inl z)) λz=>.inr (.inr (z.imp id (·.2))))) λz=>n (.inl (I.bt a z)),λz=>by
 rcases z with z|z|z
 ·exact n (.inl z)
 ·exact(q.2.2 a z).elim (λz=>n (.inr (.inl z))) λz=>by rw[z] at e;cases e
 ·exact n (.inr (.inr z))⟩
def zdk{N:List Str}(hN:N.Nodup){i j:Nat}{x:Str}(a:N[i]?=some x)(b:N[j]?=some x):i=j:=by
 obtain⟨h1,e1⟩:=kE.mp a;obtain⟨h2,e2⟩:=kE.mp b;exact(Dg hN).mp (e1.trans e2.symm)
theorem Wo(Z:En)(i j:Nat)(sl sk:Sl)(e:(Z.set i sl)[j]?=some sk):(j=i/\sk=sl)\/(j≠i/\Z[j]?=some sk):=by
 rw[Aj] at e
 split at e
 ·split at e
  ·cases e;exact .inl ⟨by lia,rfl⟩
  ·cases e
 ·exact .inr ⟨by lia,e⟩
def Cx.O.put(z:X.O B (cH ow i S) p):X.O (λa=>B a\/S a) ow p:=by
 rcases z with z|⟨j,⟨_,z⟩|⟨_,z⟩⟩|z
 ·exact .inl (.inl z)
 ·exact .inl (.inr z)
 ·exact .inr (.inl ⟨j,z⟩)
 ·exact .inr (.inr z)
def store(I:Inv X (λa=>B a\/S a) π Z ow s)(hN:X.N.Nodup)(hi:X.N[i]?=some x)(hx:X.env.scope.names.lookup x=some .local\/(X.fn=true/\X.env.scope.names.lookup x=some .cell))
  (hS:∀a,S a->(∃o,s.heap.get? a=some o/\∀z,o.data≠.fields z)/\¬B a/\a≠X.env.locals/\¬X.cel a/\¬fP ow a)(hr:∀a,X.rb a->B a)
  (k:∀h' mm,yh X.env h' mm x u->Gd (X.O (λa=>B a\/S a) ow) s.heap (X.O B (cH ow i S)) h'->(∀a o,S a->s.heap.get? a=some o->h'.get? a=some o)->Sk X B π (cH ow i S) h' mm x i sl):
  ν (ο X.P X.w) X.A (GX X.env x u) (λ_ s'=>Inv X B π (Z.set i sl) (cH ow i S) s'/\St X.toGx (X.W ow) s s') nE s:=by
 obtain⟨mm,hn,sk⟩:=id I.loc;have hiρ:i<Z.length:=by rw[I.len];exact(kE.mp hi).1
 have hcls:(X.env.scope.kind==.class||(X.env.scope.kind==.module&&X.env.locals !=X.env.globals))=false:=by rw[I.ok.kind];rfl
 have fin:∀{t':Nat}(w:Addr)(h':Heap)(Io:Str->Option kL),(w=X.env.locals\/(X.fn=true/\X.env.cells.lookup x=some w))->UQ w s.heap h'->h'.Ns X.env.locals Io->yh X.env h' Io x u->(∀y v,y≠x->yh X.env s.heap mm y v->yh X.env h' Io y v)->(∀y c,X.env.cells.lookup y=some c->∃v,h'.IsCell c v)->
   Inv X B π (Z.set i sl) (cH ow i S) {s with heap:=h',toks:=t'}/\St X.toGx (X.W ow) s {s with heap:=h',toks:=t'}:=λ{t'} w h' Io hw sb Ir lx ly hc=>by
  have wO:X.O (λa=>B a\/S a) ow w:=hw.elim (λz=>.inr (.inr (.inl z))) λz=>.inr (.inr (.inr ⟨x,z.2⟩));have nt:¬X.T w:=by rcases hw with rfl|hw;exact I.ntL;exact I.ntC hw.2
  have kp:∀a o,a≠w->s.heap.get? a=some o->h'.get? a=some o:=λa o n e=>(sb.2 a n).trans e;have g:Gd (X.O (λa=>B a\/S a) ow) s.heap (X.O B (cH ow i S)) h':=λa o e n=>⟨kp a o (λz=>n (z▸wO)) e,λz=>n z.put⟩;have wS:∀{a},S a->a≠w:=λz q=>by
   obtain⟨_,_,n1,n2,_⟩:=hS _ z;rcases hw with hw|hw
   ·exact n1 (q.trans hw)
   ·exact n2 ⟨x,q▸hw.2⟩
  have wo:∀{j a},ow j a->a≠w:=λz q=>by
   obtain⟨_,_,n1,n2⟩:=I.own _ _ z;rcases hw with hw|hw
   ·exact n1 (q.trans hw)
   ·exact n2 ⟨x,q▸hw.2⟩
  have ex:∀a o,s.heap.get? a=some o->∃o',h'.get? a=some o':=λa o e=>by
   by_cases z:a=w
   ·subst z;rcases hw with rfl|hw
    ·obtain⟨o,_,_,e,_⟩:=Ir;exact⟨o,e⟩
    ·obtain⟨_,o,e,_⟩:=hc x a hw.2;exact⟨o,e⟩
   ·exact⟨o,kp a o z e⟩
  refine⟨⟨I.ok,I.ge,λb o e=>kp b o (λz=>I.fr e (z▸wO)) (I.base b o e),λa z=>I.bo a z.put,λa z=>(I.bt a z).elim id λy=>?_,λt m=>?_,λa z=>let⟨o,e⟩:=I.bd a (.inl z);ex a o e,λa z=>⟨hr a z,(I.rb a z).2⟩,⟨Io,Ir,λj y Sv h1 h2=>?_⟩,hc,by rw[Qv];exact I.len,λj k a z1 z2=>?_,λj a z=>?_⟩,⟨rfl,λa o e n _=>kp a o (λz=>n (z▸hw.elim (λz=>.inr (.inl z)) λz=>.inr (.inr ⟨z.1,x,z.2⟩))) e,ex,λa ps z e=>⟨#[],by rw[kp a _ (λq=>nt (q▸z)) e];simp⟩⟩⟩
  ·obtain⟨⟨o,e,nf⟩,_⟩:=hS a y;exact(I.nt e nf z).elim
  ·exact(I.tb t m).go (λa z=>.inl z.put) (λb o e n=>kp b o (λz=>n (z▸wO)) e) λo e=>kp _ o (λz=>nt ⟨t,m,z⟩) e
  ·rcases Wo Z i j sl Sv h2 with⟨rfl,rfl⟩|⟨hj,h2⟩
   ·rw[hi] at h1;cases h1;exact k h' Io lx g λa o z e=>kp a o (wS z) e
   ·have ny:y≠x:=λz=>hj (zdk hN h1 (z▸hi));refine(sk j y Sv h1 h2).go (by funext a;exact propext ⟨λz=>z.elim (λz=>absurd z.1 hj) (·.2),λz=>.inr ⟨hj,z⟩⟩) g (λv=>ly y v ny) (λa o z e=>kp a o (wo z) e) (λp o n e _=>kp p o (λz=>?_) e) λp o _=>Cx.O.put
    obtain⟨_,n1,n2⟩:=I.rb p (n (z▸wO));exact hw.elim (λq=>n1 (z.trans q)) λq=>n2 ⟨x,z▸q.2⟩
  ·rcases z1 with⟨rfl,z1⟩|⟨n1,z1⟩<;>rcases z2 with⟨rfl,z2⟩|⟨n2,z2⟩
   ·rfl
   ·exact((hS a z1).2.2.2.2 ⟨_,z2⟩).elim
   ·exact((hS a z2).2.2.2.2 ⟨_,z1⟩).elim
   ·exact I.inj j k a z1 z2
  ·rcases z with⟨rfl,z⟩|⟨_,z⟩
   ·obtain⟨⟨o,e,nf⟩,n1,n2,n3,_⟩:=hS a z;exact⟨⟨o,kp a o (wS z) e,nf⟩,n1,n2,n3⟩
   ·obtain⟨⟨o,e,nf⟩,n1,n2⟩:=I.own j a z;exact⟨⟨o,kp a o (wo z) e,nf⟩,λz=>n1 (.inl z),n2⟩
 have cne:∀y c,X.env.cells.lookup y=some c->c≠X.env.locals:=λy c e z=>by
  obtain⟨_,o,ho,hd⟩:=I.cell y c e;obtain⟨o',_,_,Mf,nG,_⟩:=hn;rw[z,Mf] at ho;cases ho;rw[nG] at hd;cases hd
 rcases hx with hk|⟨hf,hk⟩
 ·refine Ea hk hn (λh' Ir hs=>fin _ h' _ (.inl rfl) hs Ir (.inl ⟨hk,by simp⟩) (λy v ny l=>?_) λy c e=>?_) hcls
  ·rcases l with⟨k,e⟩|⟨k,c,e,z⟩
   ·exact .inl ⟨k,by simp[ny,e]⟩
   ·exact .inr ⟨k,c,e,z.sameBut hs (cne y c e)⟩
  ·obtain⟨v,z⟩:=I.cell y c e;exact⟨v,z.sameBut hs (cne y c e)⟩
 ·obtain⟨c,hc⟩:=I.ok.has x (.inl hk);obtain⟨w',z⟩:=I.cell x c hc;refine wpAny_storeName_cell I.ok.kind hk hc z λh' NK hs=>fin c h' mm (.inr ⟨hf,hc⟩) hs (hn.sameBut hs (gB (cne x c hc))) (.inr ⟨.inl hk,c,hc,NK⟩) (λy v ny l=>?_) λy c' e=>?_
  ·rcases l with l|⟨k,c',e,z⟩
   ·exact .inl l
   ·exact .inr ⟨k,c',e,z.sameBut hs λq=>ny (I.ok.inj _ _ _ e (q▸hc))⟩
  ·by_cases q:c'=c
   ·subst q;exact⟨_,NK⟩
   ·obtain⟨v,z⟩:=I.cell y c' e;exact⟨v,z.sameBut hs q⟩
def Wc(I:Inv X B π Z ow s)(hN:X.N.Nodup)(hi:X.N[i]?=some x)(hx:X.env.scope.names.lookup x=some .local\/(X.fn=true/\X.env.scope.names.lookup x=some .cell))(r:R X.toGx (X.O B ow) s.heap d u):ν (ο X.P X.w) X.A (GX X.env x u) (λ_ s'=>∃aL,Sq X B π ow s (Z.set i (.fz d)) aL s') nE s:=by
 have J:Inv X (λa=>B a\/bL a) π Z ow s:=I.less (λa z=>z.elim id Uq) (λa z=>.inl (I.bt a z)) λa z=>.inl (I.rb a z).1;refine ax (store (S:=bL) (sl:=.fz d) J hN hi hx (λa z=>z.elim) (λa z=>(I.rb a z).1) λh' mm l g _=>⟨u,l,R.go g _ _ (R.go (Gd.less λa z=>Cx.O.mono (λ_ z=>z.elim id Uq) z) _ _ r)⟩) λ_ s'⟨J,t⟩=>⟨_,J,t,λa⟨j,z⟩=>z.elim (λz=>z.2.elim) λz=>.inl ⟨j,z.2⟩⟩
def NL(I:Inv X B π Z ow s)(J:Sx X B π Z ow s s1)(hN:X.N.Nodup)(hi:X.N[i]?=some x)(hx:X.env.scope.names.lookup x=some .local\/(X.fn=true/\X.env.scope.names.lookup x=some .cell))(n:s.heap.get? p=none)(r:Top X.toGx (λa=>X.O B ow a\/a=p) s1.heap (Rs X.toGx (λa=>X.O B ow a\/a=p) s1.heap) d p):ν (ο X.P X.w) X.A (GX X.env x (.ref p)) (λ_ s'=>∃aL,Sq X B π ow s (Z.set i (.ow false 1 d)) aL s') nE s1:=by
 have K:=I.newp (B':=λa=>a=p) J (λa z=>by rw[z];exact n) λa z=>by subst z;exact r.get
 have g0:Gd (λa=>X.O B ow a\/a=p) s1.heap (X.O (λa=>B a\/a=p) ow) s1.heap:=Gd.less λa z=>z.elim (λz=>z.elim (λz=>.inl (.inl z)) .inr) λz=>.inl (.inr z);have np:¬X.O B ow p:=I.apart n;refine ax (store (S:=λa=>a=p) (sl:=.ow false 1 d) K hN hi hx (λa z=>by subst z;exact⟨r.get,λz=>np (.inl z),λz=>np (.inr (.inr (.inl z))),λz=>np (.inr (.inr (.inr z))),λz=>np (.inr (.inl z))⟩) (λa z=>(I.rb a z).1) λh' mm l g k=>⟨p,l,nofun,λa=>⟨λz=>z.elim (·.2) λz=>absurd rfl z.1,λz=>.inl ⟨rfl,z⟩⟩,r.imp (g0.trans g) (λo=>k p o rfl) λ_ _=>Rs.go (g0.trans g) _ _⟩) λ_ s'⟨J',t⟩=>⟨_,J',J.2.up.trans t λa=>.inl,λa⟨j,z⟩=>z.elim (λz=>.inr (by rw[z.2];exact n)) λz=>.inl ⟨j,z.2⟩⟩
def It:PSs X [] bI:=λB π Z ow s o I q=>by cases q;exact Uj ⟨ow,.refl I⟩
def D0(h1:PS X st F)(h2:PSs X bZ H):PSs X (st::bZ) (ao F H):=λB π Z ow s o I q=>by
 obtain⟨o1,q1,q⟩:=kA.mp q;refine Qx (ax (h1 B π Z ow s o1 I q1) λfl s1 k=>?_)
 cases o1<;>cases fl<;>first|exact k.elim|(cases q;exact k)|skip
 obtain⟨w,k⟩:=k;exact ax (h2 B π _ w s1 o k.1 q) λ_ _ z=>k.sp z
theorem Iu(h1:PS X st F):PSs X [st] F:=λB π Z ow s o I q=>Qx (ax (h1 B π Z ow s o I q) λfl s1 k=>by
 cases fl with
 |next=>exact Uj k
 |_=>exact k)
def NM(he:PE X false e f):PS X (.Return (some e) pos) (aK f):=λB π Z ow s o I q=>by
 obtain⟨d,q1,z⟩:=kA.mp q
 cases z;exact Fx (ax (he B π Z ow s d I q1) λv s1⟨t,r⟩=>⟨ow,t.sq,r⟩)
def Sw{k:Expr}{sa sb:List Stmt}(hc:PT X k c)(ha:PSs X sa F)(hb:PSs X sb H):PS X (.If k sa sb pos) (aC c F H):=λB π Z ow s o I q=>by
 obtain⟨r,q1,q⟩:=kA.mp q;refine wpAny_If (ax (hc B π Z ow s r I q1) λr' s1 hw=>?_);obtain⟨e,t⟩:=hw;subst e
 cases r'
 ·exact ax (hb B π Z ow s1 o t.1 q) λ_ _ z=>t.sq.sp z
 ·exact ax (ha B π Z ow s1 o t.1 q) λ_ _ z=>t.sq.sp z
def D1:PS X st qo:=λB π Z ow s o I q=>nomatch q
def Sy(i:Nat)(hN:X.N.Nodup)(he:PE X false e f)(hi:X.N[i]?=some x:=by rfl)(hx:X.env.scope.names.lookup x=some .local\/(X.fn=true/\X.env.scope.names.lookup x=some .cell):=by first|exact .inl rfl|exact .inr ⟨rfl,rfl⟩)(hs:Ur e (some (.Name x bA)) pos.line X.env=pure false:=by rfl):PS X (.Assign [.Name x bA] e pos) (ar i f):=λB π Z ow s o I q=>by
 obtain⟨d,q1,z⟩:=kA.mp q
 cases z;exact gC (ax (he B π Z ow s d I q1) λv s1⟨t,r⟩=>ax (Wc t.1 hN hi hx r) λ_ s2⟨w,k⟩=>⟨w,t.sq.trans k⟩) hs
def Sz(i:Nat)(hN:X.N.Nodup)(he:PF X e f)(hi:X.N[i]?=some x:=by rfl)(hx:X.env.scope.names.lookup x=some .local\/(X.fn=true/\X.env.scope.names.lookup x=some .cell):=by first|exact .inl rfl|exact .inr ⟨rfl,rfl⟩)(hs:Ur e (some (.Name x bA)) pos.line X.env=pure false:=by rfl):PS X (.Assign [.Name x bA] e pos) (bK i f):=λB π Z ow s o I q=>by
 obtain⟨d,q1,z⟩:=kA.mp q
 cases z;exact gC (ax (he B π Z ow s d I q1) λv s1⟨t,p,e,n,r⟩=>by subst e;exact NL I t hN hi hx n r) hs
theorem RW.r{G:Gx}{O O':AP}{h:Heap}(i:∀a,O' a->O a/\¬S a):∀{n},RW G O h S n d p->R G O' h d (.ref p)
 |1,⟨q,t⟩=>R.top (t.imp (Gd.less λa z=>(i a z).1) (λ_ e=>e) λ_ _=>Rs.go (Gd.less λa z=>(i a z).1) _ _) λz=>(i p z).2 ((q p).mpr rfl)
 |2,⟨qs,q,nd,t⟩=>R.top (t.imp (Gd.less λa z=>(i a z).1) (λ_ e=>e) λds vs⟨e1,e2,k⟩=>Rs.of (by rw[e1,kJ];exact e2) λj d v h1 h2=>by
   rw[e1,kX] at h2;obtain⟨r,h3,rfl⟩:=uW.mp h2;exact R.top ((k j d r h1 h3).imp (Gd.less λa z=>(i a z).1) (λ_ e=>e) λ_ _=>Rs.go (Gd.less λa z=>(i a z).1) _ _) λz=>(i r z).2 ((q r).mpr (.inr (kT h3)))) λz=>(i p z).2 ((q p).mpr (.inl rfl))
def Inv.slot(I:Inv X B π Z ow s)(i:Nat)(D2:Sl)(k:∀x sl mm,Z[i]?=some sl->Sk X B π ow s.heap mm x i sl->Sk X B π (cH ow i bL) s.heap mm x i D2):Inv X B π (Z.set i D2) (cH ow i bL) s:=by
 have om:∀{a},X.O B (cH ow i bL) a->X.O B ow a:=λz=>by
  rcases z with z|⟨j,z|z⟩|z
  ·exact .inl z
  ·exact z.2.elim
  ·exact .inr (.inl ⟨j,z.2⟩)
  ·exact .inr (.inr z)
 obtain⟨mm0,hn0,sk0⟩:=I.loc;refine⟨I.ok,I.ge,I.base,λa z=>I.bo a (om z),I.bt,λt q=>(I.tb t q).go (λa z=>.inl (om z)) (λ_ _ e _=>e) λ_ e=>e,I.bd,I.rb,⟨mm0,hn0,λj x Sv h1 h2=>?_⟩,I.cell,by rw[Qv];exact I.len,λj k a z1 z2=>I.inj j k a (z1.elim (λz=>z.2.elim) (·.2)) (z2.elim (λz=>z.2.elim) (·.2)),λj a z=>I.own j a (z.elim (λz=>z.2.elim) (·.2))⟩
 rcases Wo Z i j D2 Sv h2 with⟨rfl,rfl⟩|⟨hj,h2⟩
 ·have:j<Z.length:=by rw[I.len];exact(kE.mp h1).1
  exact k x _ mm0 (kH this) (sk0 j x _ h1 (kH this))
 ·exact(sk0 j x Sv h1 h2).go (by funext a;exact propext ⟨λz=>z.elim (λz=>absurd z.1 hj) (·.2),λz=>.inr ⟨hj,z⟩⟩) (Gd.less λa=>om) (λ_ z=>z) (λ_ _ _ e=>e) (λ_ _ _ e _=>e) λ_ _ _=>om
theorem Inv.frz(I:Inv X B π Z ow s)(i:Nat):∃aL,Inv X B π (Z.modify i dD) aL s/\∀a,fP aL a->fP ow a:=by
 by_cases c:∃io n d,Z[i]?=some (.ow io n d)
 ·obtain⟨io,n,d,e⟩:=c;have em:Z.modify i dD=Z.set i (.fz d):=by
   refine UH λj=>?_;rw[CM,Aj]
   by_cases q:i=j
   ·subst q;rw[θ rfl,θ (kE.mp e).1,e];simp[dD]
   ·simp[q]
  refine⟨cH ow i bL,?_,λa⟨j,z⟩=>⟨j,z.elim (λz=>z.2.elim) (·.2)⟩⟩;rw[em];refine I.slot i _ λx sl mm e' k=>?_;rw[e] at e';cases e';obtain⟨p,l,_,r⟩:=k;refine⟨_,l,r.r λa z=>?_⟩;rcases z with z|⟨j,z|z⟩|z
  ·exact⟨.inl z,λy=>(I.own i a y).2.1 z⟩
  ·exact z.2.elim
  ·exact⟨.inr (.inl ⟨j,z.2⟩),λy=>z.1 (I.inj _ _ a z.2 y)⟩
  ·exact⟨.inr (.inr z),λy=>z.elim (I.own i a y).2.2.1 (I.own i a y).2.2.2⟩
 ·have em:Z.modify i dD=Z:=by
   refine UH λj=>?_;rw[CM]
   by_cases q:i=j
   ·subst q
    cases e:Z[i]? with
    |none=>simp
    |some sl=>cases sl<;>first|(simp[dD];done)|exact(c ⟨_,_,_,e⟩).elim
   ·simp[q]
  rw[em];exact⟨ow,I,λ_ z=>z⟩
def SA(i:Nat)(h:PS X st F):PS X st (cL i F):=λB π Z ow s o I q=>by
 obtain⟨w,J,k⟩:=I.frz i;exact ax (h B π _ w s o J q) λ_ _ z=>Sq.sp ⟨J,.refl,λa z=>.inl (k a z)⟩ z
theorem Inv.fgt:∀(fg:List Nat){Z:En}{ow:Os},Inv X B π Z ow s->∃aL,Inv X B π (fgt fg Z) aL s/\∀a,fP aL a->fP ow a
 |[],Z,ow,I=>⟨ow,I,λ_ z=>z⟩
 |i::fg,Z,ow,I=>by
  obtain⟨w,J,k⟩:=Inv.fgt fg (I.slot i .un λ_ _ _ _ _=>trivial);exact⟨w,J,λa z=>let⟨j,z⟩:=k a z;⟨j,z.elim (λz=>z.2.elim) (·.2)⟩⟩
def SD(i:Nat)(hN:X.N.Nodup)(hi:X.N[i]?=some x:=by rfl)(hx:X.env.scope.names.lookup x=some .local\/(X.fn=true/\X.env.scope.names.lookup x=some .cell):=by first|exact .inl rfl|exact .inr ⟨rfl,rfl⟩):PG X (.Name x pos) (gN i):=λB π Z ow s d aZ u I r q=>by
 cases q;exact Fy (Wc I hN hi hx r)
def Iw:PGs X [] eu:=λB π Z ow s ds aZ us I r q=>by
 cases ds<;>cases q
 rw[Rs] at r;subst r;exact assignInOrder_nil ⟨ow,.refl I⟩
theorem D3(h1:PG X e h)(h2:PGs X es hs)(he:(EH (e::es) X.env).map (·.2)=assign e X.env::(EH es X.env).map (·.2):=by rfl):PGs X (e::es) (bM h hs):=λB π Z ow s ds aZ us I r q=>by
 cases ds with
 |nil=>cases q
 |cons d ds=>
  obtain⟨bY,q1,q⟩:=kA.mp q;rw[Rs] at r;obtain⟨v,us,rfl,r1,r2⟩:=r;rw[he];exact assignInOrder_cons (ax (h1 B π Z ow s d bY v I r1 q1) λ_ s1⟨w,k⟩=>ax (h2 B π bY w s1 ds aZ us k.1 (Rs.go (Sq.gd I k) _ _ r2) q) λ_ s2⟨w2,k2⟩=>⟨w2,k.trans k2⟩)
theorem NN{k:Nat}(n:Nat)(h:PGs X es hs)(hn:(EH es X.env).length=n:=by rfl)(tN:(EH es X.env).findIdx? (·.1)=none:=by rfl):PG X (.Tuple es k pos) (gT n hs):=λB π Z ow s d aZ u I r q=>by
 obtain⟨ds,q1,q2⟩:=kA.mp q
 split at q2
 ·rename_i dl
  cases d<;>cases q1
  rw[R] at r;obtain⟨p,vs,rfl,_,ht,_,r⟩:=r;refine assign_Tuple_tuple I.ok.hd ht (by rw[hn,ph,<-r.len,dl]) tN λh' hx=>?_
  have t:=I.kept (t':=s.toks) λb o e=>hx b o (QC (uU e)) e;exact ax (h B π Z ow _ ds aZ _ t.1 (by simpa using Rs.go (I.gd t.2) _ _ r) q2) λ_ s2⟨w,k⟩=>⟨w,t.sq.trans k⟩
 ·cases q2
def NO(i:Nat)(hN:X.N.Nodup){op:Operator}{k:Dt->Dt->Option Dt}(hk:Z2 X (inplaceOp op) k)(he:PE X true e f)(hi:X.N[i]?=some x:=by rfl)(hx:X.env.scope.names.lookup x=some .local\/(X.fn=true/\X.env.scope.names.lookup x=some .cell):=by first|exact .inl rfl|exact .inr ⟨rfl,rfl⟩)(dN:(x==("__classdict__":Str))=false:=by decide):PS X (.AugAssign (.Name x bA) op e pos) (tM i k f):=λB π Z ow s o I q=>by
 obtain⟨d,q0,z⟩:=kA.mp q;obtain⟨y,q1,q0⟩:=kA.mp q0;obtain⟨z',q2,q0⟩:=kA.mp q0;obtain⟨sl,e1,e2⟩:=kA.mp q1;obtain⟨mm,hn,sk⟩:=I.look hi e1
 cases z
 cases sl<;>cases e2
 obtain⟨v,l,r⟩:=sk;exact wpAny_AugAssign_Name (ld I hn l (ax (he B π Z ow s z' I q2) λw s1⟨t1,r1⟩=>ax (hk B π Z ow s1 y z' d v w t1.1 q0 (.inl (R.go (I.gd t1.2) _ _ r)) r1) λz s2⟨t2,r2⟩=>ax (Wc t2.1 hN hi hx r2) λ_ s3⟨w,k⟩=>⟨w,(t1.trans t2).sq.trans k⟩) dN)
def NP:Z2 X (inplaceOp .Add) zt:=zI0 λ_ _ _ _ _ _ _ q=>iadd_int q
theorem sJ(n:Nat)(fg:List Nat)(hc:PT X e c)(hb:PSs X body F):PS X (.While e body [] pos) (jo n fg c F):=λB π Z ow s o I q=>by
 refine wpAny_While (Fz (λk s'=>∃aZ aL,Sq X B π ow s aZ aL s'/\di fg c F k aZ=some o) ?_ n ⟨Z,ow,.refl I,q⟩);rintro k s1 ⟨bY,sI,k1,q1⟩
 cases k with
 |zero=>cases q1
 |succ k=>
  unfold di at q1;obtain⟨t,q2,q1⟩:=kA.mp q1;refine Uk .never (ax (hc B π bY sI s1 t k1.1 q2) λr s2 hw=>?_);obtain⟨e,t2⟩:=hw;subst e
  cases r with
  |false=>cases q1;exact Uj ⟨sI,k1.trans t2.sq⟩
  |true=>
   obtain⟨o2,q3,q1⟩:=kA.mp q1;rw[θ rfl];refine Uk .never (ax (hb B π bY sI s2 o2 t2.1 q3) λfl s3 z=>?_);have go:∀{cQ},(∃w,Sq X B π sI s2 cQ w s3)->di fg c F k (L2.fgt fg cQ)=some o->∃m,m<k+1/\∃aZ aL,Sq X B π ow s aZ aL s3/\di fg c F m aZ=some o:=λ{cQ}⟨w,z⟩ q=>by
    obtain⟨w2,J,y⟩:=Inv.fgt fg z.1;exact⟨k,CD k,_,w2,(k1.trans t2.sq).trans (z.trans ⟨J,.refl,λa z=>.inl (y a z)⟩),q⟩
   cases o2<;>cases fl<;>first|exact z.elim|exact go z q1|(cases q1;exact(k1.trans t2.sq).sp z)
end
def Nx(F:AP)(s s':kR):Prop:=∃h' tk,s'={s with heap:=h',toks:=tk}/\∀b o,¬F b->s.heap.get? b=some o->h'.get? b=some o
structure Wk(X:Cx)(tg:Expr)(it:Addr)(F L:AP)(ds:List Dt)(tn:Nat->AP->Heap->Prop):Prop where
 le:ds.length<=μ
 keep:∀i O h O' h',tn i O h->Gd O h O' h'->(∀a o,F a\/L a->h.get? a=some o->h'.get? a=some o)->tn i O' h'
 item:∀i d O s,tn i O s.heap->(∀a,F a->O a)->(∀a,O a->∃o,s.heap.get? a=some o)->ds[i]?=some d->ν (ο X.P X.w) X.A (BB (.ref it)) (λr s1=>∃u,r=some u/\ν (ο X.P X.w) X.A (CQ tg (.ref it) u) (λ_ s2=>tn (i+1) O s2.heap/\R X.toGx O s2.heap d u/\Nx F s s2/\∀a,F a->∃o,s2.heap.get? a=some o) nE s1) nE s
 done:∀O s,tn ds.length O s.heap->(∀a,F a->O a)->ν (ο X.P X.w) X.A (BB (.ref it)) (λr s1=>r=none/\Nx F s s1) nE s
 self:∀A i O s Q E,tn i O s.heap->Q (.ref it) s->ν (ο X.P X.w) A (HW (.ref it)) Q E s
def PI(X:Cx)(m:Bool)(tg bh:Expr)(g:En->Option (List Dt)):Prop:=∀B π Z ow s ds,Inv X B π Z ow s->g Z=some ds->ν (ο X.P X.w) X.A (eval bh X.env) (λv s1=>ν (ο X.P X.w) X.A (HW v) (λSE s2=>∃it F L tn,SE=.ref it/\Inv X (λa=>B a\/F a) π Z ow s2/\St X.toGx bL s s2/\(∀a,F a->s.heap.get? a=none)/\(m=false->∀a,¬L a)/\(∀a,L a->X.O B ow a/\¬X.T a)/\Wk X tg it F L ds tn/\tn 0 (X.O (λa=>B a\/F a) ow) s2.heap) nE s1) nE s
section
variable{X:Cx}{B F L:AP}{π:Addr}{Z aZ bY:En}{ow aL sI:Os}{s s' s1 s2:kR}{m:Bool}{a b e tg bh:Expr}{es:List Expr}{f g:En->Option Dt}{ga:En->Option (List Dt)}{Fs:En->Option Ou}{h:Dt->En->Option En}{pos p A3:Pos}{d:Dt}{ds:List Dt}{u:kL}{us vs:List kL}{l it:Addr}
def Inv.nx{B':AP}(I:Inv X B π Z ow s)(fB:∀a,F a->B a)(k:Nx F s s')(nf:∀a,(a=X.env.locals\/X.cel a\/X.T a\/X.rb a)->¬F a)(i:∀a,B' a->B a)(ex:∀a,B' a->F a->∃o,s'.heap.get? a=some o)(b:∀a,X.T a\/X.rb a->B' a):Inv X B' π Z ow s':=by
 obtain⟨h',tk,rfl,kp⟩:=k;refine I.go (V:=F) (λa o e n=>kp a o n e) fB (nf _ (.inl rfl)) (λa z=>nf a (.inr (.inl z))) (λa _ z _ _=>nf a (.inr (.inr (.inr z)))) (λa z=>.inl (i a z)) (λa z=>b a (.inl z)) (λa z=>b a (.inr z)) (λa z=>?_) I.ge λt m=>(I.tb t m).go (λa z=>.inl (Cx.O.mono i z)) (λb o e n=>kp b o (λz=>n (.inl (fB b z))) e) λo e=>kp _ o (nf _ (.inr (.inr (.inl ⟨t,m,rfl⟩)))) e
 by_cases q:F a
 ·exact ex a z q
 ·obtain⟨o,e⟩:=I.bd a (i a z);exact⟨o,kp a o q e⟩
def Inv.nf(I:Inv X B π Z ow s)(n:∀a,F a->s.heap.get? a=none):∀a,(a=X.env.locals\/X.cel a\/X.T a\/X.rb a)->¬F a:=λa z y=>I.apart (n a y) (by
 rcases z with z|z|z|z
 ·exact .inr (.inr (.inl z))
 ·exact .inr (.inr (.inr z))
 ·exact .inl (I.bt a z)
 ·exact .inl (I.rb a z).1)
def Nx.st{G:Gx}{W:AP}{s0:kR}(t:St G W s0 s)(k:Nx F s s')(n:∀a,F a->s0.heap.get? a=none):St G W s0 s':=by
 obtain⟨h',tk,rfl,kp⟩:=k;have nF:∀{a o},s0.heap.get? a=some o->¬F a:=λe z=>by rw[n _ z] at e;cases e
 exact⟨t.os,λa o e n nt=>kp a o (nF e) (t.kp a o e n nt),λa o e=>let⟨o',q⟩:=t.ex a o e;⟨o',kp a _ (nF e) q⟩,λa ps z e=>let⟨m,q⟩:=t.tg a ps z e;⟨m,kp a _ (nF e) q⟩⟩
theorem NQ(fg:List Nat)(hi:PI X false tg bh ga)(hg:PG X tg h)(hb:PSs X body Fs)(hs:∀x,gY bh X.env x=pure x:=by intro _;rfl):PS X (.For tg bh body [] pos) (aO fg ga h Fs):=λB π Z ow s o I q=>by
 obtain⟨ds,q1,q⟩:=kA.mp q;refine wpAny_For (ax (hi B π Z ow s ds I q1) λv s1 k1=>ax k1 λSE s2 hw=>?_) hs;obtain⟨it,F,L,tn,e,I2,t2,n,nl,_,w,t0⟩:=hw;subst e;have nf:=I.nf n;have st0:Sq X (λa=>B a\/F a) π ow s Z ow s2:=⟨I2,t2.up,λ_=>.inl⟩;have ay:∀{aZ aL s'},Sq X (λa=>B a\/F a) π ow s aZ aL s'->Sq X B π ow s aZ aL s':=λk=>⟨k.1.less (λ_=>.inl) I.bt λa z=>(I.rb a z).1,k.2⟩;refine codeAny_forLoop_any (λk s'=>∃i aZ aL,k=ds.length-i/\i<=ds.length/\Sq X (λa=>B a\/F a) π ow s aZ aL s'/\tn i (X.O (λa=>B a\/F a) aL) s'.heap/\ym h Fs fg (ds.drop i) aZ=some o) ?_ ds.length ⟨0,Z,ow,rfl,QB _,st0,t0,q⟩;rintro k s3 ⟨i,ρ3,ow3,rfl,hi,k3,SG,q3⟩;have fO:∀a,F a->X.O (λa=>B a\/F a) ow3 a:=λa z=>.inl (.inr z)
 by_cases tB:i<ds.length
 ·rw[Qf tB] at q3;obtain⟨ρ4,q4,q3⟩:=kA.mp q3;obtain⟨o5,q5,q3⟩:=kA.mp q3;refine Uk .never (ax (w.item i _ _ s3 SG fO (λa z=>k3.1.ex z) (kH tB)) λr s4⟨u,e,k4⟩=>?_);subst e;refine Uk .never (ax k4 λ_ s5 hw=>?_);obtain⟨tn5,r5,x5,ex5⟩:=hw;have k5:Sq X (λa=>B a\/F a) π ow s ρ3 ow3 s5:=⟨k3.1.nx (λ_=>.inr) x5 nf (λ_=>id) (λa _=>ex5 a) λa z=>z.elim (k3.1.bt a) λz=>(k3.1.rb a z).1,x5.st k3.2.1 n,k3.2.2⟩;refine Uk .never (ax (hg _ π ρ3 ow3 s5 _ ρ4 u k5.1 r5 q4) λ_ s6 hw=>?_);obtain⟨NR,k6⟩:=hw;refine Uk .never (ax (hb _ π ρ4 NR s6 o5 k6.1 q5) λfl s7 z=>?_);have kF:∀{aZ aL bY sI s1 s'},Inv X (λa=>B a\/F a) π bY sI s1->Sq X (λa=>B a\/F a) π sI s1 aZ aL s'->∀a o,F a\/L a->s1.heap.get? a=some o->s'.heap.get? a=some o:=λJ k a o z e=>by
   have z:=z.resolve_right (nl rfl a);refine k.2.1.kp a o e (λy=>?_) λy=>nf a (.inr (.inr (.inl y))) z;rcases y with⟨j,y⟩|y|y
   ·exact(J.own j a y).2.1 (.inr z)
   ·exact nf a (.inl y) z
   ·exact nf a (.inr (.inl y.2)) z
  have tn6:=w.keep _ _ _ _ _ tn5 (k6.gd k5.1) (kF k5.1 k6);have go:∀{cQ},(∃w',Sq X (λa=>B a\/F a) π NR s6 cQ w' s7)->ym h Fs fg (ds.drop (i+1)) (L2.fgt fg cQ)=some o->∃m,m<ds.length-i/\∃j aZ aL,m=ds.length-j/\j<=ds.length/\Sq X (λa=>B a\/F a) π ow s aZ aL s7/\tn j (X.O (λa=>B a\/F a) aL) s7.heap/\ym h Fs fg (ds.drop j) aZ=some o:=λ{cQ}⟨w7,z⟩ q=>by
   obtain⟨w8,J,y⟩:=Inv.fgt fg z.1;have k8:Sq X (λa=>B a\/F a) π NR s6 _ w8 s7:=z.trans ⟨J,.refl,λa z=>.inl (y a z)⟩;exact⟨ds.length-(i+1),by omega,i+1,_,w8,rfl,tB,(k5.trans k6).trans k8,w.keep _ _ _ _ _ tn6 (k8.gd k6.1) (kF k6.1 k8),q⟩
  cases o5<;>cases fl<;>first|exact z.elim|exact go z q3|(cases q3;obtain⟨w7,z⟩:=z;exact⟨w7,ay ((k5.trans k6).trans z)⟩)|(cases q3;obtain⟨w7,z,r⟩:=z;exact⟨w7,ay ((k5.trans k6).trans z),R.go (Gd.less λa=>Cx.O.mono λ_=>.inl) _ _ r⟩)
 ·obtain rfl:i=ds.length:=by omega
  rw[GY] at q3
  cases q3;exact Uk .never (ax (w.done _ s3 SG fO) λr s4⟨e,x⟩=>by subst e;exact Uj ⟨ow3,k3.1.nx (λ_=>.inr) x nf (λ_=>.inl) (λa z y=>by obtain⟨o,e⟩:=I.bd a z;rw[n a y] at e;cases e) (λa z=>z.elim (I.bt a) λz=>(I.rb a z).1),x.st k3.2.1 n,k3.2.2⟩)
theorem qy{M:Model}{A:Qd}{E:kL->kR->Prop}{s:kR}{tg:Expr}{it:Addr}{u:kL}{o:Obj}{n:String}{vs:Array kL}{Q:Unit->kR->Prop}(ho:s.heap.get? it=some o)(hc:o.cls=.type n)(hd:o.data=.fields vs)
  (hn:["enumerate","zip","dict_itemiterator","dict_reverseitemiterator","odict_iterator","itertools.zip_longest","itertools.pairwise"].contains n=false)(hQ:Q () s):ν M A (CQ tg (.ref it) u) Q E s:=by
 unfold CQ
 cases tg<;>first
  |exact kO hQ
  |(cases u<;>first
    |exact kO hQ
    |(refine kC (wpAny_load ho ?_)
      rw[hc,hd];show ν M A (if(["enumerate","zip","dict_itemiterator","dict_reverseitemiterator","odict_iterator","itertools.zip_longest","itertools.pairwise"].contains n&&vs[0]?==some (AI _))=true then _ else _) Q E s;rw[η (by intro h;rw[hn,HX] at h;cases h)]
      exact kO hQ))
abbrev one(it:Addr):AP:=λa=>a=it
def Jd(hl:ds.length<=μ)(hd:X.A.handled=none)(Lp:AP):Wk X tg it (one it) Lp ds (λi O h=>h.IsListIter it l i/\(Lp l\/¬O l)/\∃vs n,h.get? l=some (lo vs n)/\vs.length<=μ/\Rs X.toGx O h ds vs):=by
 have ne:∀{h:Heap}{i vs n},h.IsListIter it l i->h.get? l=some (lo vs n)->l≠it:=λa b z=>by obtain⟨o,e,_,d⟩:=a;rw[z,e] at b;cases b;cases d
 refine⟨hl,λi O h O' h' w g k=>?_,λi d O s w fO ex nG=>?_,λO s w fO=>?_,λA i O s Q E t q=>wpAny_pyIter_listiter t.1 q⟩<;>obtain⟨a,b,vs,n,c,z,r⟩:=w
 ·refine⟨a.at λo e=>k it o (.inl rfl) e,b.imp id λb=>(g l _ c b).2,vs,n,?_,z,Rs.go g _ _ r⟩;exact b.elim (λb=>k l _ (.inr b) c) λb=>(g l _ c b).1
 ·obtain⟨u,hu,ru⟩:=r.get nG;refine wpAny_pyNext_list_item a ⟨_,c,rfl,n,rfl⟩ (x:=u) (by simpa using hu) λh' aH sb=>?_
  obtain⟨o,e,c',d'⟩:=id aH;have g:Gd O s.heap O h':=λa o e n=>⟨(sb.2 a λz=>n (fO a z)).trans e,n⟩;exact⟨u,rfl,qy (s:={s with heap:=h'}) e c' d' (by decide) ⟨⟨aH,b,vs,n,(sb.2 l (ne a c)).trans c,z,Rs.go g _ _ r⟩,R.go g _ _ ru,⟨h',s.toks,rfl,λb o n e=>(sb.2 b n).trans e⟩,λa z=>⟨o,z▸e⟩⟩⟩
 ·exact wpAny_pyNext_list_end hd a ⟨_,c,rfl,n,rfl⟩ (by simp[r.len]) λh' eb=>⟨rfl,h',s.toks,rfl,λb o n e=>eb b o n e⟩
def NT(hl:ds.length<=μ)(hd:X.A.handled=none):Wk X tg it (one it) bL ds (λi O h=>h.IsTupleIter it l i/\¬O l/\∃vs,IsTup h l (AQ vs)/\Rs X.toGx O h ds vs):=by
 refine⟨hl,λi O h O' h' w g k=>?_,λi d O s w fO ex nG=>?_,λO s w fO=>?_,λA i O s Q E t q=>wpAny_pyIter_tupleiter t.1 q⟩<;>obtain⟨a,b,vs,c,r⟩:=w
 ·obtain⟨o,c,d⟩:=c;exact⟨a.at λo e=>k it o (.inl rfl) e,(g l o c b).2,vs,⟨o,(g l o c b).1,d⟩,Rs.go g _ _ r⟩
 ·obtain⟨u,hu,ru⟩:=r.get nG;refine wpAny_pyNext_tuple_item a (show s.heap.IsTuple l vs.toArray from c) (x:=u) (by simpa using hu) λh' aH sb=>?_
  obtain⟨o,e,c',d'⟩:=id aH;have g:Gd O s.heap O h':=λa o e n=>⟨(sb.2 a λz=>n (fO a z)).trans e,n⟩;obtain⟨o2,e2,r2⟩:=c;exact⟨u,rfl,qy (s:={s with heap:=h'}) e c' d' (by decide) ⟨⟨aH,b,vs,⟨o2,(g l o2 e2 b).1,r2⟩,Rs.go g _ _ r⟩,R.go g _ _ ru,⟨h',s.toks,rfl,λb o n e=>(sb.2 b n).trans e⟩,λa z=>⟨o,z▸e⟩⟩⟩
 ·exact wpAny_pyNext_tuple_end hd a (show s.heap.IsTuple l vs.toArray from c) (by simp[r.len]) λh' eb=>⟨rfl,h',s.toks,rfl,λb o n e=>eb b o n e⟩
theorem NU{lw:Int}{n:Nat}(hl:n<=μ)(hd:X.A.handled=none):Wk X tg it (one it) bL ((kM n).map λk:Nat=>.int (lw+k)) (λi O h=>IsRangeIter h it (lw+(i:Nat)*1) ((n:Int)-(i:Nat)) 1):=by
 refine⟨by simpa using hl,λi O h O' h' t g k=>k it _ (.inl rfl) t,λi d O s t fO ex e=>?_,λO s t fO=>?_,λA i O s Q E t q=>wpAny_pyIter_rangeiter t q⟩
 ·have hi:i<n:=by have:=(kE.mp e).1;simpa using this
  refine(Walks.range (prog:=X.P) (w:=X.w) hd it lw 1 n).item i s _ _ hi t λv h' tk hv aH kk=>?_;obtain⟨t,rfl⟩:=hv;refine⟨_,rfl,qy (s:={s with heap:=h',toks:=tk}) (n:="range_iterator") aH rfl rfl (by decide) ⟨aH,?_,⟨h',tk,rfl,λb o n e=>kk b o (by simpa using n) e⟩,λa z=>⟨_,z▸aH⟩⟩⟩
  rw[kX,uM hi] at e
  cases e;rw[Int.mul_one];exact .int
 ·rw[kJ,pE] at t;exact wpAny_pyNext_range_end hd t (by lia) λh' eb=>⟨rfl,h',s.toks,rfl,λb o n e=>eb b o n e⟩
def wg(I:Inv X B π Z ow s)(t:Sx X B π Z ow s s1){tn:Nat->AP->Heap->Prop}{h':Heap}{tk:Nat}(w:Wk X tg it F L ds tn)(k:∀b o,s1.heap.get? b=some o->h'.get? b=some o)(n:∀a,F a->s1.heap.get? a=none)(ex:∀a,F a->∃o,h'.get? a=some o)(nl:m=false->∀a,¬L a)(lo:∀a,L a->X.O B ow a/\¬X.T a)(t0:Gd (X.O B ow) s1.heap (X.O (λa=>B a\/F a) ow) h'->tn 0 (X.O (λa=>B a\/F a) ow) h'):
  ∃it' F L tn,Ql it=.ref it'/\Inv X (λa=>B a\/F a) π Z ow {s1 with heap:=h',toks:=tk}/\St X.toGx bL s {s1 with heap:=h',toks:=tk}/\(∀a,F a->s.heap.get? a=none)/\(m=false->∀a,¬L a)/\(∀a,L a->X.O B ow a/\¬X.T a)/\Wk X tg it' F L ds tn/\tn 0 (X.O (λa=>B a\/F a) ow) h':=
 ⟨it,F,L,tn,rfl,t.1.more n k ex,t.2.then (.keep k),λa z=>t.2.free (n a z),nl,lo,w,t0 λa o e q=>⟨k a o e,λz=>q (z.elim (λz=>z.elim .inl λz=>by rw[n a z] at e;cases e) λz=>.inr z)⟩⟩
def fu{h:Heap}:h.get? h.objs.size=none:=uN (pI _)
def NV(hl:PE X false e f):PI X m tg e (iL f):=λB π Z ow s ds I q=>by
 obtain⟨d,q1,q⟩:=kA.mp q;refine ax (hl B π Z ow s d I q1) λv s1 hw=>?_;obtain⟨t,r⟩:=hw
 cases d<;>cases q
 rw[show RM false X.toGx (X.O B ow) s1.heap (.list ds) v=R X.toGx (X.O B ow) s1.heap (.list ds) v from rfl,R] at r;obtain⟨p,vs,n,rfl,np,z,lz,rs⟩:=r;exact DH ⟨_,z,rfl,n,rfl⟩ (wg (tk:=s1.toks) I t (Jd (by rw[rs.len];exact lz) I.ok.hd bL) (λb o=>kK _) (λa z=>z▸fu) (λa z=>by subst z;exact⟨_,kf _ rfl⟩) (λ_ _=>id) (λ_=>Uq) λg=>⟨⟨_,kf _ rfl,rfl,rfl⟩,.inr (g p _ z np).2,vs,n,kK _ z,lz,Rs.go g _ _ rs⟩)
def Ix(hl:PE X true e f):PI X true tg e (iL f):=λB π Z ow s ds I q=>by
 obtain⟨d,q1,q⟩:=kA.mp q;refine ax (hl B π Z ow s d I q1) λv s1 hw=>?_;obtain⟨t,r⟩:=hw
 cases d<;>cases q
 obtain⟨p,vs,n,rfl,z,lz,rs⟩:=RT.lst r;refine DH ⟨_,z,rfl,n,rfl⟩ (wg (tk:=s1.toks) I t (Jd (by rw[rs.len];exact lz) I.ok.hd λa=>a=p/\X.O B ow p) (λb o=>kK _) (λa z=>z▸fu) (λa z=>by subst z;exact⟨_,kf _ rfl⟩) (λh=>nomatch h) (λa y=>⟨y.1▸y.2,y.1▸t.1.nt z λ_ h=>nomatch h⟩) λg=>⟨⟨_,kf _ rfl,rfl,rfl⟩,?_,vs,n,kK _ z,lz,Rs.go g _ _ rs⟩)
 by_cases c:X.O B ow p
 ·exact .inl ⟨rfl,c⟩
 ·exact .inr (g p _ z c).2
def NW(hl:PE X false e f):PI X m tg e (iT f):=λB π Z ow s ds I q=>by
 obtain⟨d,q1,q⟩:=kA.mp q;refine ax (hl B π Z ow s d I q1) λv s1 hw=>?_;obtain⟨t,r⟩:=hw
 cases d<;>cases q
 obtain⟨p,vs,rfl,np,z,lz,rs⟩:=RT.tup (.inl r);exact Cf (show s1.heap.IsTuple p vs.toArray from z) (wg (tk:=s1.toks) I t (NT (by rw[rs.len];exact lz) I.ok.hd) (λb o=>kK _) (λa z=>z▸fu) (λa z=>by subst z;exact⟨_,kf _ rfl⟩) (λ_ _=>id) (λ_=>Uq) λg=>⟨⟨_,kf _ rfl,rfl,rfl⟩,let⟨o,z,_⟩:=z;(g p o z np).2,vs,let⟨o,z,r⟩:=z;⟨o,kK _ z,r⟩,Rs.go g _ _ rs⟩)
end
structure zK(k:Nat)(A:Qd):Prop where
 hd:A.handled=none
 dp:A.depth+3*k+5<Cg
 un:A.units+16*k+200<a7
theorem zK.mono{j k:Nat}{A:Qd}(r:zK k A)(h:j<=k):zK j A:=⟨r.hd,by have:=r.dp;lia,by have:=r.un;lia⟩
theorem zK.deeper{k:Nat}{A:Qd}(r:zK (k+1) A)(env:Env):zK k (A.deeper env):=
 ⟨r.hd,by have:=r.dp;show A.depth+1+3*k+5<_;lia,by have:=r.un;show A.units+3+16*k+200<_;lia⟩
theorem zK.depth{k:Nat}{A:Qd}(r:zK k A):A.depth<Cg:=by have:=r.dp;lia
theorem zK.units{k:Nat}{A:Qd}(r:zK k A):A.units+64<a7:=by have:=r.un;lia
structure E0(G:Gx)(B:AP)(s:kR):Prop where
 mod:Mod G.K G.mg G.base
 ge:EE s.gens
 base:∀b o,G.base.get? b=some o->s.heap.get? b=some o
 bo:∀a,B a->G.base.get? a=none
 bt:∀a,G.T a->B a
 tb:∀t∈G.tb,LT B s.heap t
 bd:∀a,B a->∃o,s.heap.get? a=some o
def Mg(h:Heap)(a:Addr):Prop:=∃o,h.get? a=some o/\∀z,o.data≠.fields z
structure zm(G:Gx)(k:Nat)(f:Addr)(fd:Qn)(ps:List Str)(F:List Dt->Option Dt):Prop where
 len:∀ds d,F ds=some d->ds.length=ps.length
 run:∀A B s args us ds d,zK k A->E0 G B s->FS s fd args (ps.zip us)->Rs G B s.heap ds us->F ds=some d->Ak (ο G.P G.w) A (.call (.ref f) args) (λr s'=>∃u,r=.ok (.ret u)/\St G bL s s'/\E0 G B s'/\R G B s'.heap d u) s
structure FnW(G:Gx)(k:Nat)(f:Addr)(fd:Qn)(ps:List Str)(F:Dt->List Dt->Option Dt):Prop where
 len:∀d0 ds d,F d0 ds=some d->ds.length+1=ps.length
 run:∀A(B S:AP) p s args us d0 ds d,zK k A->E0 G (λa=>B a\/S a) s->(∀a,S a->Mg s.heap a/\¬B a)->FS s fd args (ps.zip (.ref p::us))->RW G (λa=>B a\/S a) s.heap S 2 d0 p->Rs G (λa=>B a\/S a) s.heap ds us->F d0 ds=some d->
  Ak (ο G.P G.w) A (.call (.ref f) args) (λr s'=>∃u S',r=.ok (.ret u)/\St G S s s'/\E0 G (λa=>B a\/S' a) s'/\(∀a,S' a->(Mg s'.heap a/\¬B a)/\(S a\/s.heap.get? a=none))/\RW G (λa=>B a\/S' a) s'.heap S' 2 d p) s
def Binds(K:Qw)(fd:Qn)(ps:List Str):Prop:=∀(s:kR)(us:List kL),K.In s.heap->us.length=ps.length->FS s fd ⟨us,[]⟩ (ps.zip us)
structure zj(N P:List Str)(sc:Scope):Prop where
 kind:sc.kind=.function
 co:sc.isCoroutine=false
 gen:sc.isGenerator=false
 nd:N.Nodup
 pre:N.take P.length=P
 par:∀x∈P,sc.names.lookup x=some .local\/sc.names.lookup x=some .cell
 nofree:∀y∈sc.names,y.2≠.free
def zo{N P:List Str}{sc:Scope}(k:sc.kind=.function)(h:sc.isCoroutine=false/\sc.isGenerator=false/\N.Nodup/\N.take P.length=P/\(∀x∈P,sc.names.lookup x=some .local\/sc.names.lookup x=some .cell)/\∀y∈sc.names,y.2≠.free):zj N P sc:=⟨k,h.1,h.2.1,h.2.2.1,h.2.2.2.1,h.2.2.2.2.1,h.2.2.2.2.2⟩
noncomputable def wm(s:Stmt):FT:=match s with
 |.FunctionDef _ a _ _ _ _ _ _ _ _=>a
 |_=>{posonlyargs:=[],args:=[],vararg:=none,kwonlyargs:=[],kw_defaults:=[],kwarg:=none,defaults:=[]}
noncomputable def yK(s:Stmt):List Stmt:=match s with
 |.FunctionDef _ _ b _ _ _ _ _ _ _=>b
 |_=>[]
noncomputable def zd(s:Stmt):Scope:=match s with
 |.FunctionDef _ _ _ _ _ _ sc _ _ _=>sc
 |_=>{kind:=.function,names:=[],isGenerator:=false,isCoroutine:=false}
structure tC(K:Qw)(x qual:Str)(st:Stmt)(f:Addr)(fd:Qn)(nH:kL):Prop where
 ex:∃(oc:kL)(od:Option Addr)(kV doc pm:kL)(an:Option Addr)(ct:kL)(NX:Array (Option kL)),
  fd=gZ x qual (wm st) (yK st) (zd st) .none kV doc pm an nH ct/\K.lookup f=some ⟨oc,od,.func fd,NX⟩/\Ch K nH qual=true
 kp:BZ K (.ref f)=true
def zai{K:Qw}{x qual:Str}{st:Stmt}{f:Addr}{oc:kL}{od an:Option Addr}{NX:Array (Option kL)}{kV doc pm nH ct:kL}(l:K.lookup f=some ⟨oc,od,.func (gZ x qual (wm st) (yK st) (zd st) .none kV doc pm an nH ct),NX⟩)
  (c:Ch K nH qual=true)(k:BZ K (.ref f)=true):tC K x qual st f (gZ x qual (wm st) (yK st) (zd st) .none kV doc pm an nH ct) nH:=⟨⟨oc,od,kV,doc,pm,an,ct,NX,rfl,l,c⟩,k⟩
def tC.binds{K:Qw}{x qual:Str}{st:Stmt}{f:Addr}{fd:Qn}{nH:kL}{ps:List Str}(F:tC K x qual st f fd nH)
  (h:∀(kV doc pm:kL)(an:Option Addr)(nH ct:kL)(us:List kL),us.length=ps.length->BF (gZ x qual (wm st) (yK st) (zd st) .none kV doc pm an nH ct) ⟨us,[]⟩=pure (ps.zip us)):Binds K fd ps:=by
 obtain⟨oc,od,kV,doc,pm,an,ct,NX,rfl,lk,dN⟩:=F.ex;exact λs us _ l=>.of_eq (h kV doc pm an nH ct us l)
structure zi(K:Qw)(mg:Str->Option kL)(x:Str)(st:Stmt)(ps:List Str)(f:Addr)(fd:Qn):Prop where
 fn:∃nH,tC K x x st f fd nH
 bn:Binds K fd ps
 mg:mg x=some (.ref f)
def zi.kp{K:Qw}{mg:Str->Option kL}{x:Str}{st:Stmt}{ps:List Str}{f:Addr}{fd:Qn}(h:zi K mg x st ps f fd):BZ K (.ref f)=true:=let⟨_,q⟩:=h.fn;q.kp
theorem Zi{kindOf:Str->Option Ci}{x:Str}:∀{binds:List (Str×kL)}{m:Str->Option kL},(∀v,(x,v)∉binds)->bindL kindOf binds m x=m x
 |[],_,_=>rfl
 |(n,v)::r,m,h=>by
  unfold bindL;rw[Zi λw hw=>h w (pT _ hw)]
  split
  ·have:x≠n:=by rintro rfl;exact h v pH
   simp[this]
  ·rfl
theorem zaf{kindOf:Str->Option Ci}{x:Str}:∀{binds:List (Str×kL)}{m:Str->Option kL},(∀v,(x,v)∉binds)->bindC kindOf binds m x=m x
 |[],_,_=>rfl
 |(n,v)::r,m,h=>by
  unfold bindC;rw[zaf λw hw=>h w (pT _ hw)]
  split
  ·rfl
  ·have:x≠n:=by rintro rfl;exact h v pH
   simp[this]
theorem YM{kindOf:Str->Option Ci}{x:Str}{v:kL}:∀{P:List Str}{vs:List kL}{i:Nat}{m:Str->Option kL},P.Nodup->P[i]?=some x->vs[i]?=some v->kindOf x=some .local->bindL kindOf (P.zip vs) m x=some v
 |[],_,_,_,_,h,_,_=>by simp at h
 |_::_,[],_,_,_,_,h,_=>by simp at h
 |p::P,w::vs,0,m,nd,h1,h2,hk=>by
  simp at h1 h2;subst h1;subst h2
  show bindL kindOf ((p,w)::P.zip vs) m p=_
  unfold bindL;rw[Zi λv hv=>(QN.mp nd).1 (AZ hv).1,θ hk]
  simp
 |p::P,w::vs,i+1,m,nd,h1,h2,hk=>by
  show bindL kindOf ((p,w)::P.zip vs) m x=_
  unfold bindL;exact YM (i:=i) (QN.mp nd).2 (by simpa using h1) (by simpa using h2) hk
theorem ZP{kindOf:Str->Option Ci}{x:Str}{v:kL}:∀{P:List Str}{vs:List kL}{i:Nat}{m:Str->Option kL},P.Nodup->P[i]?=some x->vs[i]?=some v->kindOf x≠some .local->bindC kindOf (P.zip vs) m x=some v
 |[],_,_,_,_,h,_,_=>by simp at h
 |_::_,[],_,_,_,_,h,_=>by simp at h
 |p::P,w::vs,0,m,nd,h1,h2,hk=>by
  simp at h1 h2;subst h1;subst h2
  show bindC kindOf ((p,w)::P.zip vs) m p=_
  unfold bindC;rw[zaf λv hv=>(QN.mp nd).1 (AZ hv).1,η hk]
  simp
 |p::P,w::vs,i+1,m,nd,h1,h2,hk=>by
  show bindC kindOf ((p,w)::P.zip vs) m x=_
  unfold bindC;exact ZP (i:=i) (QN.mp nd).2 (by simpa using h1) (by simpa using h2) hk
noncomputable def y5(G:Gx)(N:List Str)(qual:Str)(scope:Scope)(f:Addr)(cd:kL)(A:Qd)(a:Addr):Cx where
 toGx:=G
 A:=A.deeper (CR qual scope a f cd)
 N:=N
 env:=CR qual scope a f cd
 fn:=true
 rb:=bL
def Jz{sc:Scope}{n:Nat}{x:Str}(h:sc.names.lookup x=some .cell):∃c,(Hs n sc.names []).lookup x=some c:=Option.isSome_iff_exists.mp (EI sc.names n [] (.inl h))
section
variable{G:Gx}{B B' S:AP}{N ps:List Str}{qual x:Str}{scope:Scope}{f:Addr}{cd:kL}{A:Qd}{s s1:kR}{us:List kL}{π:Addr}{Iy aZ:En}{st:Stmt}{fd:Qn}{k:Nat}{args:Args}{fs:En->Option Ou}{o:Ou}{d:Dt}{ds:List Dt}
def E0.less(e:E0 G B s)(i:∀a,B' a->B a)(bt:∀a,G.T a->B' a):E0 G B' s:=⟨e.mod,e.ge,e.base,λa z=>e.bo a (i a z),bt,λt m=>(e.tb t m).go (λa z=>.inl (i a z)) (λ_ _ e _=>e) λ_ e=>e,λa z=>e.bd a (i a z)⟩
abbrev Rm(S:AP):Os:=λi a=>i=0/\S a
theorem zbu(Sc:zj N ps scope)(hd:A.handled=none)(e0:E0 G (λa=>B a\/S a) s)(hS:∀a,S a->Mg s.heap a/\¬B a)(hl:Iy.length=N.length)(bt:∀a,G.T a->B a)
  (arg:∀i sl,Iy[i]?=some sl->sl=.un\/i<ps.length/\∃u,us[i]?=some u/\((∃d,sl=.fz d/\R G (λa=>B a\/S a) s.heap d u)\/i=0/\∃d,sl=.ow true 2 d/\u=.ref π/\RW G (λa=>B a\/S a) s.heap S 2 d π))
  (x:InCallC s s.heap.objs.size (bindL (CR qual scope s.heap.objs.size f cd).kindOf (ps.zip us) λ_=>none) (Hs (s.heap.objs.size+1) scope.names []) (bindC (CR qual scope s.heap.objs.size f cd).kindOf (ps.zip us) λ_=>none) s1):
  Inv (y5 G N qual scope f cd A s.heap.objs.size) B π Iy (Rm S) s1:=by
 obtain⟨h1,tk,rfl,hk⟩:=x.done;have nw:∀a,(a=s.heap.objs.size\/(y5 G N qual scope f cd A s.heap.objs.size).cel a)->s.heap.get? a=none:=λa z=>by
  rcases z with rfl|⟨y,z⟩
  ·exact fu
  ·exact uN (AR (x.above y a (QL z)))
 have oi:∀{a},(y5 G N qual scope f cd A s.heap.objs.size).O B (Rm S) a->(B a\/S a)\/s.heap.get? a=none:=λz=>by
  rcases z with z|⟨_,_,z⟩|z
  ·exact .inl (.inl z)
  ·exact .inl (.inr z)
  ·exact .inr (nw _ z)
 have g:Gd (λa=>B a\/S a) s.heap ((y5 G N qual scope f cd A s.heap.objs.size).O B (Rm S)) h1:=λa o e n=>⟨hk a o e,λz=>(oi z).elim n λz=>by rw[z] at e;cases e⟩
 have ndP:ps.Nodup:=by rw[<-Sc.pre];exact Sc.nd.sublist (DI _ _)
 refine⟨⟨e0.mod,Sc.kind,rfl,rfl,λy z c h1 h2=>name_of_addr x.apart (QL h1) (QL h2),λy hy=>?_,hd⟩,e0.ge,λb o e=>hk b o (e0.base b o e),λa z=>(oi z).elim (e0.bo a) λz=>?_,bt,λt m=>(e0.tb t m).go (λa z=>(oi z).imp id λz o e=>by rw[z] at e;cases e) (λb o e _=>hk b o e) λo e=>hk _ o e,λa z=>let⟨o,e⟩:=e0.bd a (.inl z);⟨o,hk a o e⟩,λa z=>z.elim,⟨_,x.toInCall.ns,λi y sl h2 h3=>?_⟩,λy c h=>⟨_,x.cell y c h⟩,hl,λi j a z1 z2=>z1.1.trans z2.1.symm,λi a z=>?_⟩
 ·have hy:scope.names.lookup y=some .cell\/scope.names.lookup y=some .free:=hy;rcases hy with hy|hy
  ·exact Jz hy
  ·exact absurd rfl (Sc.nofree _ (QL hy))
 ·cases q:G.base.get? a with
  |none=>exact q
  |some o=>rw[e0.base a o q] at z;cases z
 ·rcases arg i sl h3 with rfl|⟨hi,u,hu,r⟩
  ·trivial
  have hp:ps[i]?=some y:=by rw[<-Sc.pre,List.getElem?_take_of_lt hi];exact h2
  have l:yh (CR qual scope s.heap.objs.size f cd) h1 (bindL (CR qual scope s.heap.objs.size f cd).kindOf (ps.zip us) λ_=>none) y u:=by
   rcases Sc.par y (kT hp) with k|k
   ·exact .inl ⟨k,YM ndP hp hu k⟩
   ·obtain⟨c,e⟩:=Jz (n:=s.heap.objs.size+1) k;refine .inr ⟨.inl k,c,e,?_⟩;have q:=x.cell y c e;rw[ZP ndP hp hu (by show scope.names.lookup y≠_;rw[k];decide)] at q
    exact q
  rcases r with⟨d,rfl,r⟩|⟨rfl,d,rfl,rfl,r⟩
  ·exact⟨u,l,R.go g _ _ r⟩
  ·refine⟨π,l,λ_=>rfl,?_⟩;rw[show Rm S 0=S from funext λa=>propext ⟨(·.2),λz=>⟨rfl,z⟩⟩];exact r.go g λa o _=>hk a o
 ·obtain⟨⟨o,e,nf⟩,nb⟩:=hS a z.2;exact⟨⟨o,hk a o e,nf⟩,nb,(λq=>by rw[nw a (.inl q)] at e;cases e),(λq=>by rw[nw a (.inr q)] at e;cases e)⟩
def tC.run(F:tC G.K x qual st f fd cd)(Sc:zj N ps (zd st))(hr:zK (k+1) A)(e0:E0 G (λa=>B a\/S a) s)(hS:∀a,S a->Mg s.heap a/\¬B a)(hl:Iy.length=N.length)(bt:∀a,G.T a->B a)(hb:FS s fd args (ps.zip us))
  (arg:∀i sl,Iy[i]?=some sl->sl=.un\/i<ps.length/\∃u,us[i]?=some u/\((∃d,sl=.fz d/\R G (λa=>B a\/S a) s.heap d u)\/i=0/\∃d,sl=.ow true 2 d/\u=.ref π/\RW G (λa=>B a\/S a) s.heap S 2 d π))
  (dP:zK k (A.deeper (CR qual (zd st) s.heap.objs.size f cd))->PSs (y5 G N qual (zd st) f cd A s.heap.objs.size) (yK st) fs)(q:fs Iy=some o)(ho:o=.rt d aZ\/o=.nx aZ/\d=.none):
  Ak (ο G.P G.w) A (.call (.ref f) args) (λr s'=>∃u S',r=.ok (.ret u)/\St G S s s'/\E0 G (λa=>B a\/S' a) s'/\(∀a,S' a->(Mg s'.heap a/\¬B a)/\(S a\/s.heap.get? a=none))/\R G (λa=>B a\/S' a) s'.heap d u/\∀d' io,aZ[0]?=some (.ow io 2 d')->io=true->0<N.length->RW G (λa=>B a\/S' a) s'.heap S' 2 d' π) s:=by
 obtain⟨oc,od,kV,doc,pm,an,ct,NX,rfl,lk,dN⟩:=F.ex;have KX:G.K.In s.heap:=e0.mod.kin.keeps e0.base;have SH:s.heap.NoLimit:=e0.mod.nolimit.keeps e0.base;have sK:∀y∈ps.zip us,(zd st).names.lookup y.1=some .local\/((zd st).names.lookup y.1=some .cell/\((Hs (s.heap.objs.size+1) (zd st).names []).lookup y.1).isSome=true):=λ⟨n,v⟩ hy=>by
  rcases Sc.par n (AZ hy).1 with q|q
  ·exact .inl q
  ·exact .inr ⟨q,EI _ _ _ (.inl q)⟩
 refine Eb hr.depth (KX _ _ lk) rfl Sc.co Sc.gen rfl (Fk KX dN) (hb _ _ _ _ ?_);refine Cj Sc.kind sK λenv he s1 x=>?_;subst he;refine⟨SH.keeps x.toInCall.keep,codeAny_func ?_⟩;have I:=zbu (qual:=qual) (f:=f) (cd:=cd) Sc hr.hd e0 hS hl bt arg x;have t0:St G bL s s1:=by obtain⟨h1,tk,rfl,hk⟩:=x.done;exact .keep hk
 have nw:∀a,(a=s.heap.objs.size\/(y5 G N qual (zd st) f cd A s.heap.objs.size).cel a)->s.heap.get? a=none:=λa z=>by
  rcases z with rfl|⟨y,z⟩
  ·exact fu
  ·exact uN (AR (x.above y a (QL z)))
 refine Qr (dP (hr.deeper _) B π Iy (Rm S) s1 o I q) (λfl s' hs=>?_) λe s' hs=>hs.elim;have fin:∀{aL u},Sq (y5 G N qual (zd st) f cd A s.heap.objs.size) B π (Rm S) s1 aZ aL s'->R G ((y5 G N qual (zd st) f cd A s.heap.objs.size).O B aL) s'.heap d u->∃u' S',(Except.ok (Flow.ret u):Fl)=.ok (.ret u')/\St G S s s'/\E0 G (λa=>B a\/S' a) s'/\(∀a,S' a->(Mg s'.heap a/\¬B a)/\(S a\/s.heap.get? a=none))/\R G (λa=>B a\/S' a) s'.heap d u'/\∀d' io,aZ[0]?=some (.ow io 2 d')->io=true->0<N.length->RW G (λa=>B a\/S' a) s'.heap S' 2 d' π:=λ{aL u} J r=>by
  have om:∀a,(B a\/aL 0 a)->(y5 G N qual (zd st) f cd A s.heap.objs.size).O B aL a:=λa z=>z.elim .inl λz=>.inr (.inl ⟨0,z⟩);refine⟨u,aL 0,rfl,t0.up.trans J.2.1 λa z=>?_,⟨e0.mod,J.1.ge,J.1.base,λa z=>J.1.bo a (om a z),λa z=>.inl (bt a z),λt m=>(J.1.tb t m).go (λa z=>.inl (om a z)) (λ_ _ e _=>e) λ_ e=>e,λa z=>J.1.ex (om a z)⟩,λa z=>?_,R.go (Gd.less om) _ _ r,λd' io e h hN=>?_⟩
  ·rcases z with⟨_,_,z⟩|z|z
   ·exact .inl z
   ·exact .inr (nw a (.inl z))
   ·exact .inr (nw a (.inr z.2))
  ·obtain⟨n,b,_⟩:=J.1.own 0 a z;exact⟨⟨n,b⟩,(J.2.2 a ⟨0,z⟩).imp (λ⟨_,_,z⟩=>z) λz=>t0.free z⟩
  ·obtain⟨m,_,sk⟩:=J.1.loc;obtain⟨p,_,hp,r⟩:=sk 0 _ _ (kH hN) e;obtain rfl:=hp h;exact r.go (Gd.less om) λ_ _ _ e=>e
 rcases ho with rfl|⟨rfl,rfl⟩<;>cases fl<;>first|exact hs.elim|skip
 ·obtain⟨aL,J,r⟩:=hs;exact fin J r
 ·obtain⟨aL,J⟩:=hs;exact fin (u:=UD) J .non
theorem NY(h:(fs Iy).bind cF=some d):∃o aZ,fs Iy=some o/\(o=.rt d aZ\/o=.nx aZ/\d=.none):=by
 obtain⟨o,q,h⟩:=kA.mp h
 cases o with
 |nx Z=>cases h;exact⟨_,Z,q,.inr ⟨rfl,rfl⟩⟩
 |rt d' Z=>cases h;exact⟨_,Z,q,.inl rfl⟩
 |_=>cases h
theorem tC.okD(F:tC G.K x qual st f fd cd)(Sc:zj N ps (zd st))(hb:∀A a,zK k (A.deeper (CR qual (zd st) a f cd))->PSs (y5 G N qual (zd st) f cd A a) (yK st) fs):zm G (k+1) f fd ps (bx N.length ps.length fs):=by
 refine⟨λds d h=>?_,λA B s args us ds d hr e0 hB r h=>?_⟩<;>unfold bx at h<;>split at h
 ·assumption
 ·cases h
 ·obtain⟨o,aZ,q,ho⟩:=NY h;have hpl:ps.length<=N.length:=by have:=υ DJ Sc.pre;rw[pC] at this;lia
  have eq:∀{a},(B a\/bL a)->B a:=λz=>z.elim id Uq;refine gh (F.run Sc (B:=B) (S:=bL) (π:=0) hr (e0.less (λa=>eq) λa z=>.inl (e0.bt a z)) (λa z=>z.elim) (by rw[kW,kJ,gU];omega) e0.bt hB (λi sl e=>?_) (hb A _) q ho) λr s'⟨u,S',e,t,e1,_,r,_⟩=>⟨u,e,t,e1.less (λ_=>.inl) e0.bt,R.go (Gd.less λ_=>.inl) _ _ r⟩
  by_cases hi:i<ds.length
  ·rw[UC (by simpa using hi),kX] at e
   obtain⟨d,e1,rfl⟩:=uW.mp e;obtain⟨u,hu,ru⟩:=r.get e1;exact .inr ⟨by omega,u,hu,.inl ⟨d,rfl,R.go (Gd.less λa=>eq) _ _ ru⟩⟩
  ·rw[QH (by simpa using hi),BS] at e
   split at e<;>cases e
   exact .inl rfl
 ·cases h
def Mh{Z:En}{d:Dt}(h:(Z[0]?).bind w2=some d):Z[0]?=some (.ow true 2 d):=by
 obtain⟨s,q,h⟩:=kA.mp h;unfold w2 at h
 split at h<;>cases h
 exact q
theorem tC.okW(F:tC G.K x qual st f fd cd)(Sc:zj N ps (zd st))(hb:∀A a,zK k (A.deeper (CR qual (zd st) a f cd))->PSs (y5 G N qual (zd st) f cd A a) (yK st) fs):FnW G (k+1) f fd ps (vg N.length ps.length fs):=by
 refine⟨λd0 ds d h=>?_,λA B S p s args us d0 ds d hr e0 hS hB w r h=>?_⟩<;>unfold vg at h<;>split at h
 ·assumption
 ·cases h
 ·obtain⟨o,q,h⟩:=kA.mp h;have:∃aZ,(o=.rt .none aZ\/o=.nx aZ/\Dt.none=.none)/\aZ[0]?=some (.ow true 2 d):=by
   unfold Ik at h
   split at h
   ·exact⟨_,.inr ⟨rfl,rfl⟩,Mh h⟩
   ·exact⟨_,.inl rfl,Mh h⟩
   ·cases h
  obtain⟨aZ,ho,e'⟩:=this;have hpl:ps.length<=N.length:=by have:=υ DJ Sc.pre;rw[pC] at this;omega
  have bt:∀a,G.T a->B a:=λa z=>(e0.bt a z).elim id λy=>by
   obtain⟨⟨o,e,nf⟩,_⟩:=hS a y;obtain⟨t,m,q⟩:=z;exact((e0.tb t m).ne e nf q.symm).elim
  refine gh (F.run Sc (B:=B) (S:=S) (π:=p) hr e0 hS (by simp;omega) bt hB (λi sl e=>?_) (hb A _) q ho) λr s'⟨u,S',e,t,e1,sL,_,w⟩=>⟨u,S',e,t,e1,sL,w d true e' rfl (by omega)⟩
  cases i with
  |zero=>cases e;exact .inr ⟨by omega,_,rfl,.inr ⟨rfl,d0,rfl,rfl,w⟩⟩
  |succ i=>
   rw[pX] at e
   by_cases hi:i<ds.length
   ·rw[UC (by simpa using hi),kX] at e
    obtain⟨d,e1,rfl⟩:=uW.mp e;obtain⟨u,hu,ru⟩:=r.get e1;exact .inr ⟨by omega,u,hu,.inl ⟨d,rfl,ru⟩⟩
   ·rw[QH (by simpa using hi),BS] at e
    split at e<;>cases e
    exact .inl rfl
 ·cases h
end
section
variable{X:Cx}{B:AP}{π:Addr}{Z:En}{ow:Os}{s s1:kR}{m:Bool}{e:Expr}{es:List Expr}{f:En->Option Dt}{ga:En->Option (List Dt)}{p pos:Pos}{ds:List Dt}{d:Dt}{us:List kL}
def Inv.e0(I:Inv X B π Z ow s):E0 X.toGx (X.O B ow) s:=⟨I.ok.mod,I.ge,I.base,I.bo,λa z=>.inl (I.bt a z),I.tb,λa z=>I.ex z⟩
theorem Inv.call{k:Nat}{fa:Addr}{fd:Qn}{ps:List Str}{F:List Dt->Option Dt}(I:Inv X B π Z ow s)(ok:zm X.toGx k fa fd ps F)(hb:Binds X.K fd ps)(hr:zK k X.A)(r:Rs X.toGx (X.O B ow) s.heap ds us)(q:F ds=some d):
  ν (ο X.P X.w) X.A (call (.ref fa) us) (λv s'=>Sx X B π Z ow s s'/\R X.toGx (X.O B ow) s'.heap d v) nE s:=
 EJ (gh (ok.run X.A (X.O B ow) s ⟨us,[]⟩ us ds d hr I.e0 (hb s us I.kin (by rw[<-r.len];exact ok.len _ _ q)) r q) λr s'⟨u,e,t,e0,ru⟩=>by subst e;exact⟨⟨I.st t e0.ge e0.tb,t⟩,ru⟩)
def WJ{k k':Nat}{fa:Addr}{fd:Qn}{ps:List Str}{F:List Dt->Option Dt}{x:Str}{st:Stmt}(ok:zm X.toGx k fa fd ps F)(T:zi X.K X.mg x st ps fa fd)(hr:zK k' X.A)(ha:PA X false (e::es) ga)(hk:k<=k':=by decide)(hg:Gl X x:=by rfl)(tO:(x==("__debug__":Str))=false:=by decide)(he:pO (e::es) X.env=(false,eval e X.env)::pO es X.env:=by rfl)(hpl:(Qh pos (pO es X.env)).any (·.1)=false:=by rfl):
  PE X m (.Call (.Name x p) (e::es) [] pos) (aj F ga):=λB π Z ow s d I q=>by
 obtain⟨ds,q1,q⟩:=kA.mp q;refine QI (W6 I hg T.mg ?_ tO);exact Ck (h₀:=X.base) I.ok.mod.kin T.kp (ax (ha pos B π Z ow s ds I q1) λus s1⟨t,r⟩=>⟨t.1.kin,ax (t.1.call ok T.bn (hr.mono hk) (Yr r) q) λv s2⟨t2,r⟩=>⟨t.trans t2,.of r⟩⟩) he hpl
end
open PySem.W (tabObj)
def du(X:Cx)(h:Heap)(x:Str)(p:Addr):Prop:=∃mm,h.Ns X.env.locals mm/\yh X.env h mm x (.ref p)
structure Mt(X:Cx)(o:Expr)(name:Str)(args:List Expr)(aW aG:Pos):Prop where
 base:attributeBase o name X.env (eval o X.env)=eval o X.env
 few:((Qh aG (pO args X.env)).all (λx=> !x.1)&&(Aa aG (Ul [] X.env)).all (λx=>x.1.isSome)&&decide (args.length+([]:List Keyword).length+(if([]:List Keyword).isEmpty then 0 else 1)<30))=true
 line:(aW.endLine==aG.line)=true
 star:∃e r,pO args X.env=(false,eval e X.env)::r/\(Qh aG r).any (·.1)=false
def yJ{N:List Str}(h:decide N.Nodup=true):N.Nodup:=ξ h
structure Nm(X:Cx)(i:Nat)(x:Str):Prop where
 nd:X.N.Nodup
 ix:X.N[i]?=some x
 db:(x==("__debug__":Str))=false
 cd:(x==("__classdict__":Str))=false
variable{F:Dt->kL->Prop}{q:Addr}{name:Str}
section
variable{X:Cx}{B S':AP}{π:Addr}{Z aZ:En}{ow aL:Os}{s s' s1:kR}{m:Bool}{e o k ve:Expr}{es:List Expr}{f g fk fv:En->Option Dt}{ga:En->Option (List Dt)}{pos bA xp aW aG:Pos}{x:Str}{d d0:Dt}{ds zs:List Dt}{u v:kL}{us vs:List kL}{p:Addr}{i n n0:Nat}{io:Bool}{h':Heap}{t':Nat}
def Inv.hol(I:Inv X B π Z ow s)(hN:X.N[i]?=some x)(e:Z[i]?=some (.ow io n d)):∃p,du X s.heap x p/\(io=true->p=π)/\RW X.toGx (X.O B ow) s.heap (ow i) n d p:=by
 obtain⟨mm,hn,p,l,z,r⟩:=I.look hN e;exact⟨p,⟨mm,hn,l⟩,z,r⟩
theorem du.uniq{h:Heap}(a:du X h x p)(b:du X h x q):p=q:=by
 obtain⟨m,⟨o,es,ep,e,d,_,n⟩,l⟩:=a;obtain⟨m',⟨o',es',ep',e',d',_,n'⟩,l'⟩:=b;rw[e] at e';cases e';rw[d] at d';cases d';rcases l with⟨_,l⟩|⟨k,c,hc,o1,z,y⟩<;>rcases l' with⟨k',l'⟩|⟨k',c',NK,o2,z',y'⟩
 ·rw[<-n,n'] at l;rw[l] at l';cases l';rfl
 ·simp_all
 ·simp_all
 ·rw[hc] at NK;cases NK;rw[z] at z';cases z';rw[y] at y';cases y';rfl
def du.kp{W:AP}(a:du X s.heap x p)(I:Inv X B π Z ow s)(k:∀a o,s.heap.get? a=some o->¬W a->¬X.T a->h'.get? a=some o)(w:∀a,W a->a≠X.env.locals/\¬X.cel a):du X h' x p:=by
 obtain⟨m,⟨o,es,ep,e,r⟩,l⟩:=a;exact⟨m,⟨o,es,ep,k _ o e (λz=>(w _ z).1 rfl) I.ntL,r⟩,l.go λc o q e=>k c o e (λz=>(w _ z).2 ⟨_,q⟩) (I.ntC q)⟩
def du.sx(a:du X s.heap x p)(I:Inv X B π Z ow s)(t:Sx X B π Z ow s s1):du X s1.heap x p:=a.kp I (λa o e n nt=>t.2.kp a o e n nt) λa z=>z.elim
def SI{sl:Sl}(e:sl=.ow io n d)(h:∃p,yh X.env h' mm x (.ref p)/\(io=true->p=π)/\RW X.toGx (X.O B ow) h' (ow i) n d p):Sk X B π ow h' mm x i sl:=by subst e;exact h
theorem Inv.mut(I:Inv X B π Z ow s)(M:Nm X i x)(e:Z[i]?=some (.ow io n0 d0))(hp:du X s.heap x p)(t:St X.toGx (ow i) s s')(ge:EE s'.gens)(nS:∀a,S' a->Mg s'.heap a/\(ow i a\/s.heap.get? a=none))(lt:∀t∈X.tb,LT (X.O B (cH ow i S')) s'.heap t)(r:RW X.toGx (X.O B (cH ow i S')) s'.heap S' n d p):
  Sq X B π ow s (Z.set i (.ow io n d)) (cH ow i S') s':=by
 have oi:∀{a},X.O B (cH ow i S') a->X.O B ow a\/s.heap.get? a=none:=λz=>by
  rcases z with z|⟨j,⟨_,z⟩|⟨_,z⟩⟩|z
  ·exact .inl (.inl z)
  ·exact(nS _ z).2.imp (λz=>.inr (.inl ⟨i,z⟩)) id
  ·exact .inl (.inr (.inl ⟨j,z⟩))
  ·exact .inl (.inr (.inr z))
 have ri:∀p o,s.heap.get? p=some o->X.O B (cH ow i S') p->X.O B ow p:=λp o e z=>(oi z).elim id λz=>by rw[z] at e;cases e
 have kp:∀{a o},s.heap.get? a=some o->¬ow i a->¬X.T a->s'.heap.get? a=some o:=λe n nt=>t.kp _ _ e n nt;have g:Gd (X.O B ow) s.heap (X.O B (cH ow i S')) s'.heap:=λa o e n=>⟨kp e (λz=>n (.inr (.inl ⟨i,z⟩))) λz=>n (.inl (I.bt a z)),λz=>n (ri a o e z)⟩;have wl:∀a,ow i a->a≠X.env.locals/\¬X.cel a:=λa z=>(I.own i a z).2.2;obtain⟨mm,hn,sk⟩:=id I.loc;obtain⟨p',l',z',r'⟩:=sk i x _ M.ix e;obtain rfl:=hp.uniq ⟨mm,hn,l'⟩;have Ir:s'.heap.Ns X.env.locals mm:=by obtain⟨o,es,ep,q,r⟩:=hn;exact⟨o,es,ep,kp q (λz=>(wl _ z).1 rfl) I.ntL,r⟩
 have lk:∀{y u},yh X.env s.heap mm y u->yh X.env s'.heap mm y u:=λl=>l.go λc o q e=>kp e (λz=>(wl _ z).2 ⟨_,q⟩) (I.ntC q);have ne:∀{a o},s.heap.get? a=some o->S' a->ow i a:=λe z=>(nS _ z).2.elim id λz=>by rw[z] at e;cases e
 refine⟨⟨I.ok,ge,λb o e=>kp (I.base b o e) (λz=>I.fr e (.inr (.inl ⟨i,z⟩))) λz=>I.fr e (.inl (I.bt b z)),λa z=>(oi z).elim (I.bo a) λz=>?_,I.bt,lt,λa z=>let⟨o,e⟩:=I.bd a z;t.ex a o e,I.rb,⟨mm,Ir,λj y sl h1 h2=>?_⟩,λy c q=>let⟨v,o,e,r⟩:=I.cell y c q;⟨v,o,kp e (λz=>(wl _ z).2 ⟨_,q⟩) (I.ntC q),r⟩,by rw[Qv];exact I.len,λj k a z1 z2=>?_,λj a z=>?_⟩,⟨t.os,λa o e n nt=>kp e (λz=>n (.inl ⟨i,z⟩)) nt,t.ex,t.tg⟩,λa z=>?_⟩
 ·cases q:X.base.get? a with
  |none=>rfl
  |some o=>rw[I.base a o q] at z;cases z
 ·rcases Wo Z i j _ sl h2 with⟨rfl,e9⟩|⟨hj,h2⟩
  ·rw[M.ix] at h1;cases h1;exact SI e9 ⟨p,lk l',z',by rw[show cH ow j S' j=S' from funext λa=>propext ⟨λz=>z.elim (·.2) λz=>absurd rfl z.1,λz=>.inl ⟨rfl,z⟩⟩];exact r⟩
  ·refine(sk j y sl h1 h2).go (by funext a;exact propext ⟨λz=>z.elim (λz=>absurd z.1 hj) (·.2),λz=>.inr ⟨hj,z⟩⟩) g (λ_=>lk) (λa o z e=>?_) (λp o n e nf=>?_) ri
   ·obtain⟨⟨o',e',nf⟩,_⟩:=I.own j a z;rw[e] at e';cases e';exact kp e (λy=>hj (I.inj _ _ a z y)) (I.nt e nf)
   ·exact kp e (λy=>(I.own i p y).2.1 (I.rb p (n (.inr (.inl ⟨i,y⟩)))).1) (I.nt e nf)
 ·rcases z1 with⟨rfl,z1⟩|⟨n1,z1⟩<;>rcases z2 with⟨rfl,z2⟩|⟨n2,z2⟩
  ·rfl
  ·obtain⟨⟨o,e,_⟩,_⟩:=I.own _ _ z2;exact(n2 (I.inj _ _ a z2 (ne e z1))).elim
  ·obtain⟨⟨o,e,_⟩,_⟩:=I.own _ _ z1;exact(n1 (I.inj _ _ a z1 (ne e z2))).elim
  ·exact I.inj j k a z1 z2
 ·rcases z with⟨rfl,z⟩|⟨hj,z⟩
  ·obtain⟨nf,y|y⟩:=nS a z
   ·exact⟨nf,(I.own j a y).2⟩
   ·exact⟨nf,λz=>I.apart y (.inl z),λz=>I.apart y (.inr (.inr (.inl z))),λz=>I.apart y (.inr (.inr (.inr z)))⟩
  ·obtain⟨⟨o,e,nf⟩,r⟩:=I.own j a z;exact⟨⟨o,kp e (λy=>hj (I.inj _ _ a z y)) (I.nt e nf),nf⟩,r⟩
 ·obtain⟨j,⟨_,z⟩|⟨_,z⟩⟩:=z
  ·exact(nS a z).2.imp (λz=>⟨i,z⟩) id
  ·exact .inl ⟨j,z⟩
def Inv.mutH(I:Inv X B π Z ow s)(M:Nm X i x)(e:Z[i]?=some (.ow io n0 d0))(hp:du X s.heap x p)(k:∀a o,s.heap.get? a=some o->¬ow i a->h'.get? a=some o)(oS:∀a,ow i a->S' a)(nS:∀a,S' a->Mg h' a/\(ow i a\/s.heap.get? a=none))
  (r:Gd (X.O B ow) s.heap (X.O B (cH ow i S')) h'->RW X.toGx (X.O B (cH ow i S')) h' S' n d p):∃aL,Sq X B π ow s (Z.set i (.ow io n d)) aL {s with heap:=h',toks:=t'}:=by
 have oi:∀{a},X.O B (cH ow i S') a->X.O B ow a\/s.heap.get? a=none:=λz=>by
  rcases z with z|⟨j,⟨_,z⟩|⟨_,z⟩⟩|z
  ·exact .inl (.inl z)
  ·exact(nS _ z).2.imp (λz=>.inr (.inl ⟨i,z⟩)) id
  ·exact .inl (.inr (.inl ⟨j,z⟩))
  ·exact .inl (.inr (.inr z))
 have nT:∀{a},X.T a->¬ow i a:=λt z=>by obtain⟨⟨o,e,nf⟩,_⟩:=I.own i _ z;exact I.nt e nf t
 refine⟨_,I.mut M e hp ⟨rfl,λa o e n _=>k a o e n,λa o e=>?_,λa ps z e=>⟨#[],by rw[k a _ e (nT z)];simp⟩⟩ I.ge nS (λt q=>(I.tb t q).go (λa z=>(oi z).imp id λz o e=>by rw[z] at e;cases e) (λb o e n=>k b o e λz=>n (.inr (.inl ⟨i,z⟩))) λo e=>k _ o e (nT ⟨t,q,rfl⟩)) (r λa o e n=>⟨k a o e λz=>n (.inr (.inl ⟨i,z⟩)),λz=>(oi z).elim n λz=>by rw[z] at e;cases e⟩)⟩
 by_cases z:ow i a
 ·obtain⟨⟨o,q,_⟩,_⟩:=nS a (oS a z);exact⟨o,q⟩
 ·exact⟨o,k a o e z⟩
def Inv.mut1(I:Inv X B π Z ow s)(M:Nm X i x)(e:Z[i]?=some (.ow io 1 d0))(hp:du X s.heap x p)(sb:∀a o,a≠p->s.heap.get? a=some o->h'.get? a=some o)(r:Gd (X.O B ow) s.heap (X.O B ow) h'->¬X.T p->Top X.toGx (X.O B ow) h' (Rs X.toGx (X.O B ow) h') d p):∃aL,Sq X B π ow s (Z.set i (.ow io 1 d)) aL {s with heap:=h',toks:=t'}:=by
 obtain⟨p',tP,_,hS,top⟩:=I.hol M.ix e;obtain rfl:=hp.uniq tP;have np:X.O B ow p:=.inr (.inl ⟨i,(hS p).mpr rfl⟩);have tp:=r (λa o e n=>⟨sb a o (λz=>n (z▸np)) e,n⟩) (by obtain⟨o,e,nf⟩:=top.get;exact I.nt e nf)
 have om:∀a,X.O B (cH ow i (ow i)) a->X.O B ow a:=λa z=>by
  rcases z with z|⟨j,⟨_,z⟩|⟨_,z⟩⟩|z
  ·exact .inl z
  ·exact .inr (.inl ⟨i,z⟩)
  ·exact .inr (.inl ⟨j,z⟩)
  ·exact .inr (.inr z)
 refine I.mutH (S':=ow i) M e hp (λa o e n=>sb a o (λz=>n ((hS a).mpr z)) e) (λ_ z=>z) (λa z=>⟨?_,.inl z⟩) λg=>⟨hS,tp.imp (Gd.less om) (λ_ e=>e) λ_ _=>Rs.go (Gd.less om) _ _⟩;obtain rfl:=(hS a).mp z;exact tp.get
def Y7{o:Option Sl}(h:o.bind sD=some (io,ds)):o=some (.ow io 1 (.list ds)):=by
 obtain⟨sl,e,h⟩:=kA.mp h;unfold sD at h
 split at h<;>cases h
 exact e
def Inv.lst(I:Inv X B π Z ow s)(hN:X.N[i]?=some x)(q:(Z[i]?).bind sD=some (io,ds))(hp:du X s.heap x p):∃vs n,s.heap.get? p=some (lo vs n)/\vs.length<=μ/\Rs X.toGx (X.O B ow) s.heap ds vs:=by
 obtain⟨p',tP,_,_,r⟩:=I.hol hN (Y7 q);obtain rfl:=hp.uniq tP;exact r
def Inv.lset{f:Array kL->Array kL}(I:Inv X B π Z ow s)(M:Nm X i x)(q:(Z[i]?).bind sD=some (io,ds))(hp:du X s.heap x p)(e:s.heap.get? p=some (lo vs n))(hf:f vs.toArray=us.toArray)(r:Rs X.toGx (X.O B ow) s.heap zs us)(l:us.length<=μ):
  ∃aL,Sq X B π ow s (Z.set i (.ow io 1 (.list zs))) aL {s with heap:=s.heap.update p (pW f),toks:=t'}:=by
 have z:=Dh e f;rw[hf] at z;exact I.mut1 M (Y7 q) hp (λa o n e=>(uH s.heap (pW f) (gB n)).trans e) λg _=>⟨us,_,z,l,Rs.go g _ _ r⟩
def Iz{T id:String}{Q:kL->kR->Prop}(pa:PlainAttrs T)(slot:Slot T name id)(hty:Hw (.builtin id)=pure (.type "method_descriptor"))(M:Mt X o name es aW aG)
  (ev:ν (ο X.P X.w) X.A (eval o X.env) (λv s1=>(s1.TypeIs v T/\∀a,v=.ref a->∃ob,s1.heap.get? a=some ob/\ob.dict=none)/\ν (ο X.P X.w) X.A (spliced (Qh aG (pO es X.env))) (λus s2=>ν (ο X.P X.w) X.A (call (.builtin id) (v::us)) Q nE s2) nE s1) nE s):ν (ο X.P X.w) X.A (eval (.Call (.Attribute o name aW) es [] aG) X.env) Q nE s:=by
 obtain⟨e,r,h1,h2⟩:=M.star;refine wpAny_Call_method_late M.base M.few M.line rfl (ax ev λv s1⟨⟨ty,dc⟩,k⟩=>⟨T,id,pa,slot,hty,ty,dc,?_⟩);rw[h1] at k⊢;exact Calls.callWith_builtin (by show(false||(Qh aG r).any (·.1))=false;rw[h2]<;>rfl) (Eo k)
def Inv.quiet(I:Inv X B π Z ow s):interactive X.env=false:=by simp[interactive,I.ok.kind]
def W3(e:s.heap.get? p=some (lo vs n)):s.TypeIs (.ref p) "list"/\∀a,Ql p=.ref a->∃ob,s.heap.get? a=some ob/\ob.dict=none:=⟨⟨_,e,rfl⟩,λa z=>by cases z;exact⟨_,e,rfl⟩⟩
def wP{E Q}(I:Inv X B π Z ow s)(M:Nm X i x)(hp:du X s.heap x p)(h:Q (.ref p) s):ν (ο X.P X.w) X.A (eval (.Name x xp) X.env) Q E s:=let⟨mm,hn,l⟩:=hp;Cd (ld I hn l h M.cd) M.db
theorem zba{n:Nat}(h:n<=μ):BG n=false:=ι (by lia)
def Vt{id:String}(M:Nm X i x)(slot:Slot "list" name id)(hty:Hw (.builtin id)=pure (.type "method_descriptor"))(ha:PA X m es ga)(T:Mt X (.Name x xp) name es aW aG)(eW:Ur (.Call (.Attribute (.Name x xp) name aW) es [] aG) none pos.line X.env=pure false)
  (I:Inv X B π Z ow s)(q1:ga Z=some zs)(q2:(Z[i]?).bind sD=some (io,ds)){Q:Flow->kR->Prop}
  (k:∀p us vs n s2,Sx X B π Z ow s s2->du X s2.heap x p->Ae (RM m X.toGx (X.O B ow) s2.heap) zs us->s2.heap.get? p=some (lo vs n)->vs.length<=μ->Rs X.toGx (X.O B ow) s2.heap ds vs->ν (ο X.P X.w) X.A (call (.builtin id) (.ref p::us)) (λ_ s'=>Q .next s') nE s2):ν (ο X.P X.w) X.A (exec (.Expr (.Call (.Attribute (.Name x xp) name aW) es [] aG) pos) X.env) Q nE s:=by
 obtain⟨p,hp,_,_⟩:=I.hol M.ix (Y7 q2);obtain⟨vs,n,e,_⟩:=I.lst M.ix q2 hp;refine Ep (Iz Di slot hty T (wP I M hp ⟨W3 e,ax (ha aG B π Z ow s zs I q1) λus s2 hw=>?_⟩)) I.quiet eW;obtain⟨t,r⟩:=hw;have dQ:=hp.sx I t;obtain⟨vs,n,e,l,rs⟩:=t.1.lst M.ix q2 dQ;exact k p us vs n s2 t dQ r e l rs
theorem pr0{l:List Dt}(h:Ae F (d::l) us):∃u vs,us=u::vs/\F d u/\Ae F l vs:=by
 cases h with
 |cons r t=>exact⟨_,_,rfl,r,t⟩
def tY(h:Ae F [d] us):∃u,us=[u]/\F d u:=by
 obtain⟨u,vs,rfl,r,t⟩:=pr0 h
 cases t;exact⟨u,rfl,r⟩
def pr2(h:Ae F [d,d0] us):∃u v,us=[u,v]/\F d u/\F d0 v:=by
 obtain⟨u,vs,rfl,r,t⟩:=pr0 h;obtain⟨v,rfl,q⟩:=tY t;exact⟨u,v,rfl,r,q⟩
def c1(h:f Z=some d):aa f ae Z=some [d]:=by unfold aa ae;rw[h];rfl
theorem NZ(i:Nat)(he:PE X false e f)(n:NS e:=by intro _ _;rfl)(M:Nm X i x:=by exact⟨yJ (by kernel_rfl),rfl,by decide,by decide⟩)(T:Mt X (.Name x xp) "append" [e] aW aG:=by exact⟨rfl,rfl,rfl,_,_,rfl,rfl⟩)
  (eW:Ur (.Call (.Attribute (.Name x xp) "append" aW) [e] [] aG) none pos.line X.env=pure false:=by rfl):PS X (.Expr (.Call (.Attribute (.Name x xp) "append" aW) [e] [] aG) pos) (B8 i f):=λB π Z ow s o I q=>by
 obtain⟨d,q1,q⟩:=kA.mp q;obtain⟨⟨io,ds⟩,q2,q⟩:=kA.mp q
 split at q<;>cases q
 have lq:ds.length<μ:=‹_›;refine Vt M hH DU (cU he dO n) T eW I (c1 q1) q2 λp us vs n s2 t hp r e l rs=>?_;obtain⟨u,rfl,ru⟩:=tY r;have hl:=rs.len;refine CE hH ⟨_,e,rfl⟩ BA (As _ _) (DL p vs.toArray n u (by rw[ph];omega)) ⟨e,?_⟩
 obtain⟨w,k⟩:=t.1.lset (t':=s2.toks) (us:=vs++[u]) M q2 hp e (f:=λx=>x.push u) (by simp) (rs.app (.cons ru .nil)) (by rw[kW,QU];omega)
 exact⟨w,t.sq.trans k⟩
open PySem.SeqAt in
open PySem.AutoSeq1 (wpAny_loadPart') in
open PySem.MeetsSeq PySem.MeetsSeq2 PySem.MeetsSeq3 in
def IU(l b:Addr)(items bT:Array kL)(n n2:Nat)(dd:Option Addr)(sl:Array (Option kL))(hs0:¬(!items.isEmpty&&BG (items.size+bT.size))=true)(hs1:items.size<=μ)(IV:items.size+bT.size<=μ+1):
  Meets (Am.«list.extend» ⟨[.ref l,.ref b],[]⟩)
   (λ_ R s=>s.heap.get? l=some {cls:=.type "list",dict:=none,data:=.seq items n,slots:=#[]}/\s.heap.get? b=some {cls:=.type "tuple",dict:=dd,data:=.seq bT n2,slots:=sl}/\R (.ok (.ret UD)) {s with heap:=s.heap.update l (pW λx=>x++bT),toks:=s.toks}):=
 .of_wp λprog w A R s h=>by
  obtain⟨hp,g,d,tk,os⟩:=s;obtain⟨hl,hb,h⟩:=h;have f5:=AutoSeq1.sub_list_tuple;have f3:=EK;have zz:(items++bT).size<=μ+1:=by rw[Array.size_append];exact IV
  wp_walk using(gG hl rfl (hz:=hs1) (_hz':=zz)),Ab hl,Ab hb
  exact⟨_,rfl,h⟩
theorem ext{of:Dt->Option (List Dt)}(M:Nm X i x)(he:PE X true e f)(n:NS e)(T:Mt X (.Name x xp) "extend" [e] aW aG)(eW:Ur (.Call (.Attribute (.Name x xp) "extend" aW) [e] [] aG) none pos.line X.env=pure false)
  (hr:∀{B ow s d zs p vs n v}{Q:kL->kR->Prop},of d=some zs->RT X.toGx (X.O B ow) s.heap d v->s.heap.get? p=some (lo vs n)->vs.length<=μ->vs.length+zs.length<=μ->(∀us,Rs X.toGx (X.O B ow) s.heap zs us->Q .none {s with heap:=s.heap.update p (pW λx=>x++us.toArray),toks:=s.toks})->ν (ο X.P X.w) X.A (call (.builtin "list.extend") [.ref p,v]) Q nE s):PS X (.Expr (.Call (.Attribute (.Name x xp) "extend" aW) [e] [] aG) pos) (B9 i λZ=>(f Z).bind of):=λB π Z ow s o I q=>by
 obtain⟨zs,q1,q⟩:=kA.mp q;obtain⟨d,q1,q4⟩:=kA.mp q1;obtain⟨⟨io,ds⟩,q2,q⟩:=kA.mp q
 split at q<;>cases q
 refine Vt M BH PySem.F.type_list_extend (cU he dO n) T eW I (c1 q1) q2 λp us vs n s2 t hp r e l rs=>?_;obtain⟨u,rfl,ru⟩:=tY r;have hl:=rs.len;have lz:ds.length+zs.length<=μ:=‹_›;refine hr q4 ru e l (by lia) λus ur=>?_
 have Mi:=ur.len;obtain⟨w,k⟩:=t.1.lset (t':=s2.toks) (us:=vs++us) M q2 hp e (f:=λx=>x++us.toArray) (by simp) (rs.app ur) (by rw[kW];lia)
 exact⟨w,t.sq.trans k⟩
def Zq{a b:Array kL}(h:a.size+b.size<=μ):¬(!a.isEmpty&&BG (a.size+b.size))=true:=by rw[zba h,Bool.and_false];decide
theorem N0(i:Nat)(he:PE X true e f)(n:NS e:=by intro _ _;rfl)(M:Nm X i x:=by exact⟨yJ (by kernel_rfl),rfl,by decide,by decide⟩)(T:Mt X (.Name x xp) "extend" [e] aW aG:=by exact⟨rfl,rfl,rfl,_,_,rfl,rfl⟩)
  (eW:Ur (.Call (.Attribute (.Name x xp) "extend" aW) [e] [] aG) none pos.line X.env=pure false:=by rfl):PS X (.Expr (.Call (.Attribute (.Name x xp) "extend" aW) [e] [] aG) pos) (B9 i (iL f)):=ext M he n T eW λ{B ow s d zs p vs n v Q} q r e l lz z=>by
 cases d<;>cases q
 obtain⟨b,us,n2,rfl,e2,_,rs⟩:=r.lst;have h2:=rs.len;exact CE BH ⟨_,e,rfl⟩ Cy (Cm _ _) (AutoSeq1.list_extend_list_list_0 p vs.toArray n b us.toArray n2 (Zq (by simp;lia)) (by simpa using l) (by simp;lia)) ⟨e,e2,z us rs⟩
theorem IW(i:Nat)(he:PE X true e f)(n:NS e:=by intro _ _;rfl)(M:Nm X i x:=by exact⟨yJ (by kernel_rfl),rfl,by decide,by decide⟩)(T:Mt X (.Name x xp) "extend" [e] aW aG:=by exact⟨rfl,rfl,rfl,_,_,rfl,rfl⟩)
  (eW:Ur (.Call (.Attribute (.Name x xp) "extend" aW) [e] [] aG) none pos.line X.env=pure false:=by rfl):PS X (.Expr (.Call (.Attribute (.Name x xp) "extend" aW) [e] [] aG) pos) (B9 i (iT f)):=ext M he n T eW λ{B ow s d zs p vs n v Q} q r e l lz z=>by
 cases d<;>cases q
 obtain⟨b,us,rfl,_,⟨⟨cls,dd,data,sl⟩,e2,hc,n2,hd⟩,_,rs⟩:=r.tup;have h2:=rs.len
 simp only at hc hd
 subst hc hd;exact CE BH ⟨_,e,rfl⟩ Cy (Cm _ _) (IU p b vs.toArray us.toArray n n2 dd sl (Zq (by simp;lia)) (by simpa using l) (by simp;lia)) ⟨e,e2,z us rs⟩
theorem IX(i:Nat){k0:Expr}(hz:PE X false k0 (dC (.int 0)))(he:PE X false e f)(n0:NS k0:=by intro _ _;rfl)(n:NS e:=by intro _ _;rfl)(M:Nm X i x:=by exact⟨yJ (by kernel_rfl),rfl,by decide,by decide⟩)(T:Mt X (.Name x xp) "insert" [k0,e] aW aG:=by exact⟨rfl,rfl,rfl,_,_,rfl,rfl⟩)
  (eW:Ur (.Call (.Attribute (.Name x xp) "insert" aW) [k0,e] [] aG) none pos.line X.env=pure false:=by rfl):PS X (.Expr (.Call (.Attribute (.Name x xp) "insert" aW) [k0,e] [] aG) pos) (Ii i f):=λB π Z ow s o I q=>by
 obtain⟨d,q1,q⟩:=kA.mp q;obtain⟨⟨io,ds⟩,q2,q⟩:=kA.mp q
 split at q<;>cases q
 have lq:ds.length<μ:=‹_›;refine Vt M DV PySem.F.type_list_insert (cU hz (cU he dO n) n0) T eW I (zs:=[.int 0,d]) (by show(aa f ae Z).bind _=_;rw[c1 q1];rfl) q2 λp us vs n s2 t hp r e l rs=>?_
 obtain⟨u,v,rfl,ru,rv⟩:=pr2 r;obtain⟨tk,rfl⟩:=RT.int (.inl ru);have hl:=rs.len;refine CE DV ⟨_,e,rfl⟩ PySem.F.entry_list_insert (PySem.F.args_list_insert_3 _ _ _) (AutoSeq1.list_insert_list_int_val_1 p vs.toArray n 0 tk v (by decide) (by rw[ph];lia)) ⟨e,?_⟩
 obtain⟨w,k⟩:=t.1.lset (t':=s2.toks) (us:=v::vs) M q2 hp e (f:=λxs=>(xs.extract 0 (if(0:Int)<0 then((0:Int)+xs.size).toNat else min (0:Int).toNat xs.size)).push v++xs.extract (if(0:Int)<0 then((0:Int)+xs.size).toNat else min (0:Int).toNat xs.size)) (by simp) (.cons rv rs) (by rw[kZ];lia)
 exact⟨w,t.sq.trans k⟩
def zdx(vs:List kL)(n j:Nat)(u:kL):vs.toArray.setIfInBounds j u=(vs.set j u).toArray:=by simp
theorem Rs.set{G:Gx}{O:AP}{h:Heap}:∀{ds:List Dt}{vs:List kL}{j:Nat},Rs G O h ds vs->R G O h d v->Rs G O h (ds.set j d) (vs.set j v)
 |[],vs,j,r,_=>by rw[Rs] at r;subst r;exact .nil
 |_::ds,vs,0,r,z=>by rw[Rs] at r;obtain⟨_,r,rfl,_,q⟩:=r;exact .cons z q
 |_::ds,vs,j+1,r,z=>by rw[Rs] at r;obtain⟨_,r,rfl,y,q⟩:=r;exact .cons y (q.set z)
theorem IY(i:Nat)(hk:PE X true k fk)(hv:PE X false ve fv)(M:Nm X i x:=by exact⟨yJ (by kernel_rfl),rfl,by decide,by decide⟩)(hs:Ur ve (some (.Subscript (.Name x xp) k bA)) pos.line X.env=pure false:=by rfl):PS X (.Assign [.Subscript (.Name x xp) k bA] ve pos) (qg i fk fv):=λB π Z ow s o I q=>by
 obtain⟨v,q1,q⟩:=kA.mp q;obtain⟨kd,q2,q⟩:=kA.mp q;obtain⟨n,q3,q⟩:=kA.mp q;obtain⟨⟨io,ds⟩,q4,q⟩:=kA.mp q;obtain⟨j,q5,q⟩:=kA.mp q
 cases q
 cases kd<;>cases q3
 have q5:ixN ds.length n=some j:=q5;refine AS (ax (hv B π Z ow s v I q1) λu s1 hw=>?_) hs;obtain⟨t1,r1⟩:=hw;obtain⟨p,hp,_⟩:=t1.1.hol M.ix (Y7 q4);refine wP t1.1 M hp (ax (hk B π Z ow s1 _ t1.1 q2) λiv s2 hw=>?_);obtain⟨t2,r2⟩:=hw;obtain⟨tk,rfl⟩:=RT.int r2;have dQ:=hp.sx t1.1 t2;obtain⟨vs,n2,e,l,rs⟩:=t2.1.lst M.ix q4 dQ;obtain⟨h1,h2,h3,h4⟩:=W5 q5;have hl:=rs.len;have hn:=fQ;have fin:∃aL,Sq X B π ow s2 (Z.set i (.ow io 1 (.list (ds.set j v)))) aL {s2 with heap:=s2.heap.update p (pW (·.setIfInBounds j u)),toks:=s2.toks}:=t2.1.lset M q4 dQ e (zdx vs n2 j u) (rs.set (R.go (t1.1.gd t2.2) _ _ r1)) (by rw[Qv];exact l)
 have fin:SP X B π ow s (.nx (Z.set i (.ow io 1 (.list (ds.set j v))))) .next {s2 with heap:=s2.heap.update p (pW (·.setIfInBounds j u)),toks:=s2.toks}:=let⟨w,k⟩:=fin;⟨w,(t1.trans t2).sq.trans k⟩
 by_cases h0:0<=n
 ·have hk:n.toNat=j:=by rw[Em h0 h4] at h1;exact uD h1
  exact PySem.W.ki_setAt e h0 (by lia) (by rw[ph,<-hl];exact h4) (by rw[hk];exact fin)
 ·have hk:(n+(vs.toArray.size:Int)).toNat=j:=by
   rw[EF (by lia) h3] at h1
   rw[ph,<-hl];exact uD h1
  exact PySem.W.ki_setBack e (by lia) (by rw[ph,<-hl];exact h3) (by lia) (by rw[hk];exact fin)
end
variable{bs:List Addr}
section
variable{κ α β:Type}[DecidableEq κ]
theorem jn:∀{ks:List κ}{as:List α}{k:κ}{a:α},cR ks as k=some a↔∃j,zV ks k=some j/\as[j]?=some a
 |[],as,k,a=>by simp[cR,zV]
 |k'::ks,[],k,a=>by simp[cR]
 |k'::ks,b::as,k,a=>by
  unfold cR zV
  by_cases c:k'=k
  ·simp[c]
  ·rw[η c,η c,jn]
   constructor
   ·rintro⟨j,h1,h2⟩;exact⟨j+1,by rw[h1];rfl,by simpa using h2⟩
   ·rintro⟨j,h1,h2⟩;obtain⟨n,h3,e⟩:=kA.mp h1
    cases e;exact⟨n,h3,by simpa using h2⟩
theorem zak:∀{ks:List κ}{k:κ}{j:Nat},zV ks k=some j->j<ks.length
 |k'::ks,k,j,h=>by
  unfold zV at h
  split at h
  ·cases h;simp
  ·obtain⟨n,h1,e⟩:=kA.mp h
   cases e;have:=zak h1;simpa using this
theorem Xb:∀{ks:List κ}{as:List α}{k:κ},ks.length=as.length->(cR ks as k).isSome=yO ks k
 |[],as,k,l=>by simp[cR,yO]
 |k'::ks,[],k,l=>by cases l
 |k'::ks,b::as,k,l=>by
  unfold cR
  by_cases c:k'=k
  ·simp[c,yO]
  ·rw[η c,Xb (by simpa using l)]
   unfold yO
   simp[show ¬k=k' from λz=>c z.symm]
theorem qt:∀{ks:List κ}{as:List α}{k:κ},(((ks.zip as).find? λx=>decide (x.1=k)).map (·.2))=cR ks as k
 |[],as,k=>by simp[cR]
 |k'::ks,[],k=>by simp[cR]
 |k'::ks,b::as,k=>by
  unfold cR;rw[Us,List.find?_cons]
  by_cases c:k'=k
  ·simp[c]
  ·rw[η c,show decide ((k',b).1=k)=false by simpa using c];exact qt
theorem jD{f:α->β}:∀{ks:List κ}{as:List α}{k:κ},(cR ks as k).map f=cR ks (as.map f) k
 |[],as,k=>by simp[cR]
 |k'::ks,[],k=>by simp[cR]
 |k'::ks,b::as,k=>by
  unfold cR
  by_cases c:k'=k
  ·simp[c]
  ·rw[η c,kN];simp only;rw[η c,jD]
def YL{ks:List κ}{as:List α}{k:κ}{a:α}(l:ks.length=as.length):(pK ks k).length=(pV ks as k a).length:=by
 unfold pK pV;split<;>simp[l]
def Mj{ks:List κ}{k:κ}:(pK ks k).length<=ks.length+1:=by unfold pK;split<;>simp
theorem SJ{ks:List κ}{k:κ}(n:ks.Nodup):(pK ks k).Nodup:=by
 unfold pK
 split
 ·exact n
 ·rw[QG];refine⟨n,by simp,λx hx y hy e=>?_⟩
  simp at hy;subst hy;subst e;contradiction
theorem zipW{ks:List κ}{as:List α}{k:κ}{a:α}:ks.zip (Ay (λk' b=>if k'=k then a else b) ks as)=(ks.zip as).map λkv=>if kv.1=k then(kv.1,a) else kv:=by
 induction ks generalizing as with
 |nil=>rfl
 |cons k' ks ih=>cases as with
  |nil=>rfl
  |cons b as=>simp only[gI,Us,kN,ih];congr 1;split<;>rfl
def IZ{ks:List κ}{as:List α}{k:κ}{a:α}(l:ks.length=as.length):(pK ks k).zip (pV ks as k a)=if k∈ks then(ks.zip as).map λkv=>if kv.1=k then(kv.1,a) else kv else ks.zip as++[(k,a)]:=by
 unfold pK pV
 split
 ·exact zipW
 ·rw[EW l];rfl
noncomputable def pB(ks:List κ)(bs:List Addr)(k:κ)(b:Addr):List Addr:=if k∈ks then bs else bs++[b]
variable{vs:List kL}
theorem zb5{ks:List κ}{k:κ}{r:kL}(l:ks.length=vs.length):stored (ks.zip vs) k r=(pK ks k).zip (pV ks vs k r):=by
 have e:((ks.zip vs).any λkv=>decide (kv.1=k))=decide (k∈ks):=by
  rw[EX,List.any_eq_true]
  constructor
  ·rintro⟨y,m,e⟩;rw[<-ξ e];exact ζ (AZ m).1
  ·intro m;obtain⟨j,hj,e⟩:=uA.mp (ξ m);exact⟨(ks[j],vs[j]'(by lia)),List.mem_iff_getElem.mpr ⟨j,by rw[Qk];lia,by simp⟩,ζ e⟩
 unfold stored;rw[IZ l,e]
 by_cases c:k∈ks
 ·rw[θ (ζ c),θ c]
 ·rw[η (by simpa using c),η c]
variable{b:Addr}
theorem zbq{kt:List κ}{kk:κ}{r:kL}(l1:kt.length=bs.length)(l2:bs.length=vs.length):GB (kt.zip (bs.zip vs)) kk b r=(pK kt kk).zip ((pB kt bs kk b).zip (pV kt vs kk r)):=by
 have e:(atKey (kt.zip (bs.zip vs)) kk).isSome=decide (kk∈kt):=by
  show(((kt.zip (bs.zip vs)).find? _).map (·.2)).isSome=_
  rw[qt,Xb (by rw[Qk];lia)];rfl
 unfold GB;rw[e]
 by_cases c:kk∈kt
 ·rw[θ (ζ c)];unfold pK pV pB;rw[θ c,θ c,θ c];clear e c
  induction kt generalizing bs vs with
  |nil=>rfl
  |cons k' kt ih=>cases bs with
   |nil=>cases l1
   |cons b' bs=>cases vs with
    |nil=>cases l2
    |cons v vs=>
     simp only[Us,kN,gI,ih (by simpa using l1) (by simpa using l2)]
     congr 1
     unfold putAt
     split<;>rfl
 ·rw[η (by simpa using c)]
  unfold pK pV pB;rw[η c,η c,η c,EW l2,EW (by rw[Qk];lia)]
  rfl
def Jq{kt:List κ}{kk:κ}(l1:kt.length=bs.length):(pK kt kk).length=(pB kt bs kk b).length:=by unfold pK pB;split<;>simp[l1]
def SK{F:κ->Addr->Prop}{kt:List κ}{kk:κ}(p:Ae F kt bs)(x:F kk b):Ae F (pK kt kk) (pB kt bs kk b):=by
 unfold pK pB
 split
 ·exact p
 ·exact Paired.snoc p x
end
def wb(G:Gx)(h:Heap)(p:Addr)(u:kL)(v:Option kL):Prop:=(p==gE)=false/\
 ((∃k xs,(wW G.P G.w).is k u=true/\h.DictOf (wW G.P G.w) p xs/\v=valueAt xs k)\/∃k b xs,u=.ref b/\(xh G.P G.w).is h k b/\h.DictOfH (xh G.P G.w) p xs/\v=(atKey xs k).map (·.2))
variable{Q:kL->kR->Prop}
section
variable{G:Gx}{O O':AP}{h h':Heap}{p a b:Addr}{d d0 k:Dt}{ds es:List Dt}{v u r:kL}{vs us:List kL}{ks:List eh}{kt:List KT}{kk:KT}{s:kR}{A:Qd}{E:kL->kR->Prop}{ov:Option kL}
def W7{kk:eh}(q:wv k=some kk)(r:RT G O h k u):(wW G.P G.w).is kk u=true:=by
 have r:=r.elim id λ⟨_,_,z⟩=>by cases k<;>first|exact z.elim|cases q
 cases k<;>cases q
 ·rw[R] at r;obtain⟨t,rfl⟩:=r;exact zdh _ t
 ·rw[R] at r;obtain⟨t,rfl⟩:=r;exact zbf _ t
theorem Vy:∀{ds:List Dt}{l:List Int}{vs:List kL},zv xa ds=some l->Rs G O h ds vs->ItemsAre (FP G.P G.w) l vs
 |[],l,vs,q,r=>by cases q;rw[Rs] at r;subst r;exact .nil
 |d::ds,l,vs,q,r=>by
  obtain⟨i,q1,q⟩:=kA.mp q;obtain⟨l,q2,q⟩:=kA.mp q
  cases q;cases d<;>cases q1
  rw[Rs] at r;obtain⟨v,vs,rfl,r1,r2⟩:=r;rw[R] at r1;obtain⟨t,rfl⟩:=r1;exact .cons (by simp[FP,Gw]) (Vy q2 r2)
theorem XO:∀{ds:List Dt}{l:KT}{vs:List kL},zv R1 ds=some l->Rs G O h ds vs->IT G.P G.w O h l vs
 |[],l,vs,q,r=>by cases q;rw[Rs] at r;subst r;exact .nil
 |d::ds,l,vs,q,r=>by
  obtain⟨i,q1,q⟩:=kA.mp q;obtain⟨l,q2,q⟩:=kA.mp q
  cases q;rw[Rs] at r;obtain⟨v,vs,rfl,r1,r2⟩:=r
  cases d with
  |int i=>cases q1;rw[R] at r1;obtain⟨t,rfl⟩:=r1;exact .a (XO q2 r2)
  |tuple es=>
   obtain⟨l',q3,q1⟩:=kA.mp q1
   cases q1;rw[R] at r1;obtain⟨b,ws,rfl,n,⟨o,e,c,m,z⟩,_,r3⟩:=r1;exact .t n ⟨o,_,m,e,c,z,by simpa using Vy q3 r3⟩ (XO q2 r2)
  |_=>cases q1
theorem YJ(q:xI k=some kk)(r:RT G O h k u):∃b,u=.ref b/\IK G.P G.w O h kk b:=by
 cases k with
 |tuple ds=>obtain⟨b,vs,rfl,n,⟨o,e,c,m,z⟩,_,r⟩:=r.tup;exact⟨b,rfl,n,o,_,m,e,c,z,by simpa using XO q r⟩
 |_=>cases q
def IK.bare(x:IK G.P G.w O h kk b):(xh G.P G.w).is h kk b:=x.go (O':=λ_=>False) λa o e _=>⟨e,id⟩
def DK.of(x:DK G h p ks vs):h.DictOf (wW G.P G.w) p (ks.zip vs):=x.2.2.2
theorem ze7{F:KT->Addr->Prop}{ks:List KT}{vs:List kL}(h:Ae F ks bs):∀x∈(ks.zip (bs.zip vs)),F x.1 x.2.1:=by
 induction h generalizing vs with
 |nil=>exact λx m=>by simp at m
 |cons r t ih=>
  intro x m
  cases vs with
  |nil=>simp at m
  |cons v vs=>
   rcases kg.mp m with rfl|m
   ·exact r
   ·exact ih x m
theorem DT.of(x:DT G O h p kt vs):∃bs,kt.length=bs.length/\bs.length=vs.length/\Ae (IK G.P G.w O h) kt bs/\h.DictOfH (xh G.P G.w) p (kt.zip (bs.zip vs)):=by
 obtain⟨bs,a,b,_,_,n,q,o,es,ep,e,ex,dd,z⟩:=x;exact⟨bs,a,b,q,o,es,ep,e,ex,dd,z,λx m=>(ze7 q x m).bare,by rw[GZ (by rw[Qk];lia)];exact n⟩
theorem Top.dict{R:List Dt->List kL->Prop}(t:Top G O h R d p)(c:(zY d k).isSome=true)(rk:RT G O h k u):∃vs,R (yZ d) vs/\(∀c,zY d k=some c->∃ov,wb G h p u ov/\ov.isSome=c)/\∀j v,xv d k=some j->vs[j]?=some v->wb G h p u (some v):=by
 cases d with
 |dK ks ds=>
  obtain⟨vs,x,r⟩:=t;have val:∀{kk},valueAt (ks.zip vs) kk=cR ks vs kk:=qt;refine⟨vs,r,λc q=>?_,λj v q hv=>?_⟩<;>obtain⟨kk,q1,q⟩:=kA.mp q
  ·cases q;exact⟨_,⟨x.2.2.1,.inl ⟨kk,_,W7 q1 rk,x.of,rfl⟩⟩,by rw[val,Xb x.1]⟩
  ·exact⟨x.2.2.1,.inl ⟨kk,_,W7 q1 rk,x.of,by rw[val,jn.mpr ⟨j,q,hv⟩]⟩⟩
 |dT ks ds=>
  obtain⟨vs,x,r⟩:=t;obtain⟨bs,l1,l2,_,dd⟩:=x.of;have sy:(p==gE)=false:=by obtain⟨_,_,_,_,sy,_⟩:=x;exact sy
  have val:∀{kk},(atKey (ks.zip (bs.zip vs)) kk).map (·.2)=cR ks vs kk:=λ{kk}=>by
   show(((ks.zip (bs.zip vs)).find? _).map (·.2)).map _=_
   rw[qt,jD,CF (by lia)]
  refine⟨vs,r,λc q=>?_,λj v q hv=>?_⟩<;>obtain⟨kk,q1,q⟩:=kA.mp q<;>obtain⟨b,rfl,hb⟩:=YJ q1 rk
  ·cases q;exact⟨_,⟨sy,.inr ⟨kk,b,_,rfl,hb.bare,dd,rfl⟩⟩,by rw[val,Xb (l1.trans l2)]⟩
  ·exact⟨sy,.inr ⟨kk,b,_,rfl,hb.bare,dd,by rw[val,jn.mpr ⟨j,q,hv⟩]⟩⟩
 |_=>cases c
def zaj(q:yn d k=some d0):(zY d k).isSome=true/\∃j,xv d k=some j/\(yZ d)[j]?=some d0:=by
 cases d<;>first|cases q|(obtain⟨kk,q1,q⟩:=kA.mp q;obtain⟨j,h1,h2⟩:=jn.mp q;exact⟨by simp[zY,q1],j,by simp[xv,q1,h1],h2⟩)
theorem RT.top(x:RT G O h d v)(c:(zY d k).isSome=true):∃p,v=.ref p/\Top G O h (Rs G O h) d p:=by
 rcases x with x|x
 ·cases d with
  |dK ks ds=>rw[R] at x;obtain⟨p,vs,e,_,x⟩:=x;exact⟨p,e,vs,x⟩
  |dT ks ds=>rw[R] at x;obtain⟨p,vs,e,_,x⟩:=x;exact⟨p,e,vs,x⟩
  |_=>cases c
 ·exact x
def wb.ty(g:wb G s.heap p u ov):s.TypeIs (.ref p) "dict"/\∀a,Ql p=.ref a->∃ob,s.heap.get? a=some ob/\ob.dict=none:=by
 obtain⟨_,⟨_,_,_,⟨o,_,_,e,ex,_⟩,_⟩|⟨_,_,_,_,_,⟨o,_,_,e,ex,_⟩,_⟩⟩:=g<;>exact⟨⟨o,e,ex.1⟩,λa z=>by cases z;exact⟨o,e,ex.2.1⟩⟩
theorem fw(hu:A.units+64<a7):(xh G.P G.w).room A.in1:=by show A.units+1+8<a7;lia
def Jb(hu:A.units+64<a7)(g:wb G s.heap p u (some v))(q:∀t,Q v {s with toks:=t}):ν (ο G.P G.w) A (FR (.ref p) u) Q E s:=by
 obtain⟨_,⟨k,xs,hk,dd,e⟩|⟨k,b,xs,rfl,hk,dd,e⟩⟩:=g
 ·exact wpAny_getItem_of hk dd.mapOf e.symm (q _)
 ·obtain⟨y,h1,rfl⟩:=uW.mp e.symm;exact wpAny_getItem_heap (fw hu) hk dd h1 (q _)
def d_in(hu:A.units+64<a7)(g:wb G s.heap p u ov)(q:∀t,Q (.bool ov.isSome) {s with toks:=t}):ν (ο G.P G.w) A (Qp .In u (.ref p)) Q E s:=by
 obtain⟨sy,⟨k,xs,hk,dd,rfl⟩|⟨k,b,xs,rfl,hk,dd,rfl⟩⟩:=g
 ·exact wpAny_in_of hk sy dd.mapOf (q _)
 ·exact wpAny_in_heap (fw hu) hk sy dd (by rw[GC] at q;exact q _)
def SM(hu:A.units+64<a7)(g:wb G s.heap p u ov)(q:∀t,Q (.bool (!ov.isSome)) {s with toks:=t}):ν (ο G.P G.w) A (Qp .NotIn u (.ref p)) Q E s:=by
 obtain⟨sy,⟨k,xs,hk,dd,rfl⟩|⟨k,b,xs,rfl,hk,dd,rfl⟩⟩:=g
 ·exact wpAny_notIn_of hk sy dd.mapOf (q _)
 ·exact wpAny_notIn_heap (fw hu) hk sy dd (by rw[GC] at q;exact q _)
def Z0(hu:A.units+64<a7)(g:wb G s.heap p u ov)(q:∀t,Q (ov.getD r) {s with toks:=t}):ν (ο G.P G.w) A (call (.builtin "dict.get") [.ref p,u,r]) Q E s:=by
 have ty:=g.ty.1;obtain⟨sy,⟨k,xs,hk,dd,rfl⟩|⟨k,b,xs,rfl,hk,dd,rfl⟩⟩:=g
 ·exact GD Bw ty EL (Dj _ _ _) (meets_dict_get_default (wW G.P G.w) p hk sy r) ⟨_,dd.mapOf,q _⟩
 ·exact GD Bw ty EL (Dj _ _ _) (meetsH_dict_get_default (xh G.P G.w) p b sy r) ⟨fw hu,k,xs,hk,dd,q _⟩
variable{Q:Unit->kR->Prop}
theorem N1{kk:eh}(x:DK G s.heap p ks vs)(hk:(wW G.P G.w).is kk u=true)(l:ks.length<μ)(q:∀h' t,UQ p s.heap h'->DK G h' p (pK ks kk) (pV ks vs kk r)->Q () {s with heap:=h',toks:=t}):ν (ο G.P G.w) A (setItem (.ref p) u r) Q E s:=by
 obtain⟨l1,l2,sy,dd⟩:=x;refine wpAny_setItem_pairs (hsz:=by rw[Qk];lia) hk dd λh' A4 sb=>q h' _ sb ⟨YL l1,?_,sy,?_⟩
 ·rw[<-YL l1];exact uK Mj l
 ·rw[<-zb5 l1];exact A4
def Zj(x:DT G O s.heap p kt vs)(hO:O p)(hb:IK G.P G.w O s.heap kk b)(l:kt.length<μ)(sb:UQ p s.heap h')(l1:kt.length=bs.length)(l2:bs.length=vs.length)(pr:Ae (IK G.P G.w O s.heap) kt bs)(A4:h'.DictOfH (xh G.P G.w) p (GB (kt.zip (bs.zip vs)) kk b r)):DT G O h' p (pK kt kk) (pV kt vs kk r):=by
 obtain⟨_,_,_,_,sy,nd,_⟩:=x;rw[zbq l1 l2] at A4;obtain⟨o,es,ep,e,ex,dt,z,_,_⟩:=A4;have g:Gd O s.heap O h':=λa o e n=>⟨(sb.2 a λz=>n (z▸hO)).trans e,n⟩;refine⟨_,Jq l1,(Jq l1).symm.trans (YL (l1.trans l2)),?_,sy,SJ nd,SK (Nj (λa b=>IK.go g) pr) (hb.go g),o,es,ep,e,ex,dt,z⟩;rw[<-YL (l1.trans l2)];exact uK Mj l
theorem Zc(hu:A.units+64<a7)(hO:O p)(x:DT G O s.heap p kt vs)(hb:IK G.P G.w O s.heap kk b)(l:kt.length<μ)(q:∀h' t,UQ p s.heap h'->DT G O h' p (pK kt kk) (pV kt vs kk r)->Q () {s with heap:=h',toks:=t}):ν (ο G.P G.w) A (setItem (.ref p) (.ref b) r) Q E s:=by
 obtain⟨bs,l1,l2,pr,dd⟩:=x.of;exact wpAny_setItem_heap (hsz:=by rw[Qk,Qk];lia) (fw hu) hb.bare dd λh' A4 sb=>q h' _ sb (Zj x hO hb l sb l1 l2 pr A4)
theorem Mk{κ:Type}[DecidableEq κ]{k:κ}(x:R G O h d v):∀{ks:List κ}{ds vs},Rs G O h ds vs->Rs G O h (Ay (λk' b=>if k'=k then d else b) ks ds) (Ay (λk' b=>if k'=k then v else b) ks vs)
 |[],ds,vs,r=>.nil
 |_::_,[],vs,r=>by rw[Rs] at r;subst r;exact .nil
 |k'::ks,d'::ds,vs,r=>by
  rw[Rs] at r;obtain⟨x',r',rfl,h1,h2⟩:=r;refine .cons ?_ (Mk x h2);dsimp only;split<;>assumption
def Ml{κ:Type}[DecidableEq κ]{ks:List κ}{k:κ}(r:Rs G O h ds vs)(x:R G O h d v):Rs G O h (pV ks ds k d) (pV ks vs k v):=by
 unfold pV
 split
 ·exact Mk (ks:=ks) x r
 ·exact r.app (.cons x .nil)
theorem Mm(hu:A.units+64<a7)(hO:O p)(t:Top G O s.heap (Rs G O s.heap) d0 p){y:Dt}(q:xg d0 k y=some d)(rk:RT G O s.heap k u)(ry:R G O s.heap y r)(z:∀h' t,UQ p s.heap h'->Top G O h' (Rs G O s.heap) d p->Q () {s with heap:=h',toks:=t}):ν (ο G.P G.w) A (setItem (.ref p) u r) Q E s:=by
 cases d0 with
 |dK ks ds=>
  obtain⟨kk,q1,q⟩:=kA.mp q
  split at q<;>cases q
  obtain⟨vs,x,rs⟩:=t;exact N1 x (W7 q1 rk) ‹_› λh' t sb x'=>z h' t sb ⟨_,x',Ml rs ry⟩
 |dT ks ds=>
  obtain⟨kk,q1,q⟩:=kA.mp q
  split at q<;>cases q
  obtain⟨vs,x,rs⟩:=t;obtain⟨b,rfl,hb⟩:=YJ q1 rk;exact Zc hu hO x hb ‹_› λh' t sb x'=>z h' t sb ⟨_,x',Ml rs ry⟩
 |_=>cases q
end
section
variable{X:Cx}{B:AP}{π:Addr}{Z:En}{ow:Os}{s s1:kR}{m:Bool}{e e' k o ve:Expr}{es:List Expr}{f g fk fv z:En->Option Dt}{ga:En->Option (List Dt)}{pos bA xp aW aG:Pos}{x:Str}{i:Nat}
def Inv.sys(I:Inv X B π Z ow s):(s.heap.objs.size==gE)=false:=beq_eq_false_iff_ne.mpr λz=>by
 obtain⟨o,_,_,e,_⟩:=I.ok.mod.glob;have:=uU (I.base _ _ e);rw[z] at this;exact absurd this (by decide)
def Inv.dnew(I:Inv X B π Z ow s){d:Dt}(hd:d=.dK [] []\/d=.dT [] []):Sx X B π Z ow s {s with heap:=s.heap.push {cls:=.type "dict",data:=.dict #[]},toks:=s.toks}/\∃p,Ql s.heap.objs.size=.ref p/\s.heap.get? p=none/\Top X.toGx (λa=>X.O B ow a\/a=p) (s.heap.push {cls:=.type "dict",data:=.dict #[]}) (Rs X.toGx (λa=>X.O B ow a\/a=p) (s.heap.push {cls:=.type "dict",data:=.dict #[]})) d p:=by
 refine⟨I.kept λb o=>kK _,_,rfl,fu,?_⟩;rcases hd with rfl|rfl
 ·exact⟨[],⟨rfl,QB _,I.sys,Heap.DictOf.new s.heap⟩,.nil⟩
 ·exact⟨[],⟨[],rfl,rfl,QB _,I.sys,List.nodup_nil,.nil,_,#[],0,kf _ rfl,⟨rfl,rfl,rfl⟩,rfl,rfl⟩,.nil⟩
def SN:PF X (.Dict [] [] pos) (dC (.dK [] [])):=λB π Z ow s d I q=>by cases q;exact Ga (I.dnew (.inl rfl))
def SO:PF X (.Dict [] [] pos) (dC (.dT [] [])):=λB π Z ow s d I q=>by cases q;exact Ga (I.dnew (.inr rfl))
theorem SR{T id:String}{E:kL->kR->Prop}{value tZ:Expr}(hl:Fm (.type T) "__getitem__"=pure (some (.builtin id)))(hs:∀ov iv,subscripted tZ false ov iv=operate [ov,iv] (FR ov iv))
  (h:ν (ο X.P X.w) X.A (eval value X.env) (λo aU=>ν (ο X.P X.w) X.A (eval tZ X.env) (λi cz=>cz.TypeIs o T/\ν (ο X.P X.w) X.A (FR o i) Q E cz) E aU) E s):ν (ο X.P X.w) X.A (eval (.Subscript value tZ pos) X.env) Q E s:=by
 refine Fj (Qr h (λo aU aV=>Qr aV (λi cz cM=>?_) λ_ _ x=>x) λ_ _ x=>x);obtain⟨hT,cM⟩:=cM;unfold Fb;refine kC ?_;rw[getitemInPython_of_ne hT.not_modules];refine kC (BK hT hl ?_);have fin:ν (ο X.P X.w) X.A (subscripted tZ false o i) (λr fR=>ν (ο X.P X.w) X.A (letTemporaryGo value o r>>=λ_=>pure r) Q E fR) E cz:=by
  rw[hs o i];exact wpAny_operating (Qr cM (λr fR N2=>kC (wpAny_letTemporaryGo (kO N2))) λ_ _ x=>x)
 first
  |exact kO (kC fin)
  |exact kC (kO (kC fin))
  |exact kC fin
def I0(hu:X.A.units+64<a7)(ho:PE X true o f)(hi:PE X true k g)(hs:∀ov iv,subscripted k false ov iv=operate [ov,iv] (FR ov iv):=by exact λ_ _=>rfl):PE X m (.Subscript o k pos) (bz f g):=λB π Z ow s d I q=>by
 obtain⟨dd,q1,q⟩:=kA.mp q;obtain⟨kd,q2,q⟩:=kA.mp q;refine SR Cz.lookup hs (ax (ho B π Z ow s _ I q1) λv s1⟨t1,r1⟩=>ax (hi B π Z ow s1 _ t1.1 q2) λu s2 hw=>?_);obtain⟨t2,r2⟩:=hw;obtain⟨c,j,h1,h2⟩:=zaj q;obtain⟨p,rfl,t⟩:=(RT.st r1 t1.1 t2.2).top c;obtain⟨vs,rs,_,z⟩:=t.dict c r2;obtain⟨v,hv,rv⟩:=Rs.get rs h2;have g:=z j v h1 hv;exact⟨g.ty.1,Jb hu g λtk=>⟨(t1.trans t2).trans (t2.1.tok tk),.of (R.go (t2.1.gd (t2.1.tok tk).2) _ _ rv)⟩⟩
noncomputable def kHs(eE:Bool)(kd dd:Dt):Option Dt:=(zY dd kd).bind λc=>some (.bool (if eE=true then !c else c))
def din{eE:Bool}{op:CmpOp}(hop:∀{G:Gx}{A:Qd}{s:kR}{p u ov}{Q:kL->kR->Prop},A.units+64<a7->wb G s.heap p u ov->(∀t,Q (.bool (if eE=true then !ov.isSome else ov.isSome)) {s with toks:=t})->ν (ο G.P G.w) A (Qp op u (.ref p)) Q nE s)(hu:X.A.units+64<a7):Z2 X (Qp op) (kHs eE):=λB π Z ow s kd dd d u v I q ru rv=>by
 obtain⟨c,q1,z⟩:=kA.mp q
 cases z;obtain⟨p,rfl,t⟩:=rv.top (k:=kd) (by rw[q1];rfl)
 obtain⟨vs,_,z,_⟩:=t.dict (k:=kd) (by rw[q1];rfl) ru
 obtain⟨ov,g,e⟩:=z c q1;exact hop hu g λtk=>⟨I.tok tk,by rw[e];exact .bl⟩
def SS(hu:X.A.units+64<a7):Z2 X (Qp .In) (kHs false):=din (λhu g q=>d_in hu g q) hu
def SU(hu:X.A.units+64<a7):Z2 X (Qp .NotIn) (kHs true):=din (λhu g q=>SM hu g q) hu
def N3(hu:X.A.units+64<a7)(hi:PE X true k f)(ho:PE X true o g)(h1:AA .In o=false:=by rfl):PT X (.Compare k [.In] [o] pos) (dB (dM false f g)):=A0 (SS hu) hi ho h1
def N4(hu:X.A.units+64<a7)(hi:PE X true k f)(ho:PE X true o g)(h1:AA .NotIn o=false:=by rfl):PT X (.Compare k [.NotIn] [o] pos) (dB (dM true f g)):=A0 (SU hu) hi ho h1
def Mt.sp2(M:Mt X o x [e,e'] aW aG){Q:List kL->kR->Prop}(n1:NS e)(n2:NS e')(h:ν (ο X.P X.w) X.A (eval e X.env) (λu s1=>ν (ο X.P X.w) X.A (eval e' X.env) (λv s2=>Q [u,v] s2) nE s1) nE s):ν (ο X.P X.w) X.A (spliced (Qh aG (pO [e,e'] X.env))) Q nE s:=by
 rw[n1,n2];exact uZ (ax h λu s1 h=>uZ (ax h λv s2 h=>Qb h))
theorem D4(hu:X.A.units+64<a7)(ho:PE X true o f)(he:PE X true e g)(hf:PE X false e' z)(M:Mt X o "get" [e,e'] aW aG:=by exact⟨rfl,rfl,rfl,_,_,rfl,rfl⟩)(n1:NS e:=by intro _ _;rfl)(n2:NS e':=by intro _ _;rfl):PE X m (.Call (.Attribute o "get" aW) [e,e'] [] aG) (ft f g z):=λB π Z ow s d I q=>by
 obtain⟨dd,q1,q⟩:=kA.mp q;obtain⟨kd,q2,q⟩:=kA.mp q;obtain⟨y,q3,q⟩:=kA.mp q;obtain⟨c,q4,q⟩:=kA.mp q;have cc:(zY dd kd).isSome=true:=by rw[q4];rfl
 refine Iz Dk Bw PySem.F.type_dict_get M (ax (ho B π Z ow s _ I q1) λv s1⟨t1,r1⟩=>⟨?_,M.sp2 n1 n2 (ax (he B π Z ow s1 _ t1.1 q2) λu s2⟨t2,r2⟩=>ax (hf B π Z ow s2 _ t2.1 q3) λw s3⟨t3,r3⟩=>?_)⟩)
 ·obtain⟨p,rfl,t⟩:=RT.top r1 cc;obtain⟨o,h1,h2,h3⟩:∃o,s1.heap.get? p=some o/\o.ExactDict/\True:=by
   cases dd<;>first|cases q4|skip
   ·obtain⟨_,⟨_,_,_,o,_,_,e,ex,_⟩,_⟩:=t;exact⟨o,e,ex,trivial⟩
   ·obtain⟨_,⟨_,_,_,_,_,_,_,o,_,_,e,ex,_⟩,_⟩:=t;exact⟨o,e,ex,trivial⟩
  exact⟨⟨o,h1,h2.1⟩,λa z=>by cases z;exact⟨o,h1,h2.2.1⟩⟩
 ·obtain⟨p,rfl,t⟩:=(RT.st r1 t1.1 (t2.2.then t3.2)).top cc;obtain⟨vs,rs,z1,z2⟩:=t.dict cc (RT.st r2 t2.1 t3.2);have tt:=(t1.trans t2).trans t3;have go:∀{tk:Nat}{w},R X.toGx (X.O B ow) s3.heap d w->Sx X B π Z ow s {s3 with toks:=tk}/\RM m X.toGx (X.O B ow) s3.heap d w:=λ{tk w} r=>⟨tt.trans (t3.1.tok tk),.of r⟩
  cases c with
  |true=>
   obtain⟨_,j,h1,h2⟩:=zaj q;obtain⟨v,hv,rv⟩:=Rs.get rs h2;exact Z0 hu (z2 j v h1 hv) λtk=>go rv
  |false=>
   cases q;obtain⟨ov,gg,e⟩:=z1 _ q4
   cases ov with
   |none=>exact Z0 hu gg λtk=>go r3
   |some _=>cases e
theorem N5{o:Option Sl}{io:Bool}{d:Dt}(h:o.bind R2=some (io,d)):o=some (.ow io 1 d):=by
 obtain⟨sl,e,h⟩:=kA.mp h
 cases sl with
 |ow io' n d'=>
  unfold R2 at h;dsimp only at h
  split at h
  ·subst ‹n=1›;cases h;exact e
  ·cases h
 |_=>cases h
def I1(i:Nat)(hu:X.A.units+64<a7)(hk:PE X true k fk)(hv:PE X false ve fv)(M:Nm X i x:=by exact⟨yJ (by kernel_rfl),rfl,by decide,by decide⟩)(hs:Ur ve (some (.Subscript (.Name x xp) k bA)) pos.line X.env=pure false:=by rfl):PS X (.Assign [.Subscript (.Name x xp) k bA] ve pos) (sH i fk fv):=λB π Z ow s o I q=>by
 obtain⟨v,q1,q⟩:=kA.mp q;obtain⟨kd,q2,q⟩:=kA.mp q;obtain⟨⟨io,d0⟩,q3,q⟩:=kA.mp q;obtain⟨d,q4,q⟩:=kA.mp q
 cases q;have q5:=N5 q3;refine AS (ax (hv B π Z ow s v I q1) λu s1 hw=>?_) hs;obtain⟨t1,r1⟩:=hw;obtain⟨p,hp,_⟩:=t1.1.hol M.ix q5;refine wP t1.1 M hp (ax (hk B π Z ow s1 _ t1.1 q2) λiv s2 hw=>?_);obtain⟨t2,r2⟩:=hw;have dQ:=hp.sx t1.1 t2;obtain⟨p',tP,_,hS,top⟩:=t2.1.hol M.ix q5;obtain rfl:=dQ.uniq tP;refine Mm hu (.inr (.inl ⟨i,(hS p).mpr rfl⟩)) top q4 r2 (R.go (t1.1.gd t2.2) _ _ r1) λh' tk sb nt=>?_;obtain⟨w,kk⟩:=t2.1.mut1 (t':=tk) M q5 dQ (λa o n e=>(sb.2 a n).trans e) λg _=>nt.imp (Gd.less λ_ z=>z) (λ_ e=>e) λ_ _=>Rs.go g _ _;exact⟨w,(t1.trans t2).sq.trans kk⟩
end
theorem Jc{α β:Type}(g:α->β->β){f:α->β->Sem (ForInStep β)}:∀{l:List α}(c:β),(∀x∈l,∀c,f x c=pure (.yield (g x c)))->forIn l c f=pure (l.foldl (λc x=>g x c) c)
 |[],c,_=>rfl
 |x::l,c,h=>by
  rw[CS,h x pH c,Ht];exact Jc g (g x c) λy hy=>h y (pT _ hy)
noncomputable def xJ(env:Env)(x:Str×Ci)(c:List (Str×Addr)):List (Str×Addr):=
 if x.2==QF then(match env.cells.lookup x.1 with|some a=>(x.1,a)::c|none=>c) else c
theorem Vz{env:Env}:∀(l:List (Str×Ci))(dS:List (Str×Addr)),(∀n c,dS.lookup n=some c->env.cells.lookup n=some c)->∀n c,(l.foldl (λc x=>xJ env x c) dS).lookup n=some c->env.cells.lookup n=some c
 |[],dS,h,n,c,e=>h n c e
 |x::l,dS,h,n,c,e=>by
  refine Vz l (xJ env x dS) (λn c e=>?_) n c e;unfold xJ at e
  split at e
  ·split at e
   ·rename_i a ha
    rw[QZ] at e
    split at e
    ·rename_i hb
     have hn:n=x.1:=by simpa using hb
     cases e;rw[hn];exact ha
    ·exact h n c e
   ·exact h n c e
  ·exact h n c e
theorem VO{env:Env}:∀(l:List (Str×Ci))(dS:List (Str×Addr))(n:Str),((∃c,dS.lookup n=some c)\/((n,QF)∈l/\∃c,env.cells.lookup n=some c))->∃c,(l.foldl (λc x=>xJ env x c) dS).lookup n=some c
 |[],dS,n,h=>h.elim id λh=>nomatch h.1
 |x::l,dS,n,h=>by
  refine VO l (xJ env x dS) n ?_;rcases h with⟨c,h⟩|⟨h,c,hc⟩
  ·left;unfold xJ
   split
   ·split
    ·rw[QZ]
     split
     ·exact⟨_,rfl⟩
     ·exact⟨c,h⟩
    ·exact⟨c,h⟩
   ·exact⟨c,h⟩
  ·rcases kg.mp h with e|h
   ·left;subst e;have ef:(QF==QF)=true:=rfl;have en:(n==n)=true:=by simp
    simp only[xJ,ef,if_true,hc,QZ,en];exact⟨c,rfl⟩
   ·exact .inr ⟨h,c,hc⟩
variable{env:Env}
def zee{scope:Scope}(hf:∀n,(n,QF)∈scope.names->∃c,env.cells.lookup n=some c):
  ∃cl,EM scope env=pure cl/\(∀n c,cl.lookup n=some c->env.cells.lookup n=some c)/\∀n,(n,QF)∈scope.names->∃c,cl.lookup n=some c:=by
 refine⟨scope.names.foldl (λc x=>xJ env x c) [],?_,Vz _ _ (λn c e=>by simp at e),λn h=>VO _ _ n (.inr ⟨h,hf n h⟩)⟩
 simp only[EM];rw[Jc (xJ env) [] (λx hx c=>?_)]
 ·rfl
 ·obtain⟨n,kind⟩:=x
  by_cases hk:kind=.free
  ·subst hk;obtain⟨a,ha⟩:=hf n hx;have ef:(QF==QF)=true:=rfl
   simp[cellOf,ha,xJ,ef]
  ·have e:(kind==QF)=false:=by simpa using hk
   simp[e,xJ]
theorem W2(env:Env)(x:Str):∀names:List (Str×Ci),
  (names.map λ(n,k)=>if(k==QF&&env.scope.kind==.function&&env.kindOf n==some .cell) then(n,BI) else(n,k)).lookup x=
  (names.lookup x).map λk=>if(k==QF&&env.scope.kind==.function&&env.kindOf x==some .cell) then BI else k
 |[]=>rfl
 |(n,k)::r=>by
  have ih:=W2 env x r;rw[kN]
  by_cases e:x=n
  ·subst e;have ex:(x==x)=true:=by simp
   by_cases c:(k==QF&&env.scope.kind==.function&&env.kindOf x==some .cell)=true
   ·dsimp only;rw[θ c,QZ,ex,QZ,ex];exact υ some (θ c).symm
   ·dsimp only;rw[η c,QZ,ex,QZ,ex];exact υ some (η c).symm
  ·have e':(x==n)=false:=by simpa using e
   by_cases c:(k==QF&&env.scope.kind==.function&&env.kindOf n==some .cell)=true<;>(dsimp only;first|rw[θ c]|rw[η c])<;>(rw[QZ,e',QZ,e'];exact ih)
structure qf(nI:Scope)(N:List Str)(scope:Scope)(own:List Str)(ix:List Nat):Prop where
 kind:scope.kind=.function
 nocell:∀y∈scope.names,y.2≠BI
 names:∀y∈scope.names,y.2=NameKind.local->scope.names.lookup y.1=some .local
 free:∀y∈scope.names,y.2=QF->nI.names.lookup y.1=some .cell\/nI.names.lookup y.1=some .free
 ix:∀i∈ix,i<N.length/\scope.names.lookup (N.getD i "")=some .free
noncomputable def Cx.comp(X:Cx)(scope:Scope)(own:List Str)(ix:List Nat)(cl:List (Str×Addr))(C:Addr)(rb:AP):Cx:={X with N:=own++ix.map (λi=>X.N.getD i ""),env:=CN scope cl C X.env,fn:=false,rb:=rb}
abbrev Mn:Os:=λ_ _=>False
section
variable{X:Cx}{B B':AP}{π:Addr}{Z bY:En}{ow sI:Os}{s s1:kR}{nI scope:Scope}{own:List Str}{ix:List Nat}{cl:List (Str×Addr)}{C:Addr}{rb:AP}
def Cx.comp_O(cs:∀n c,cl.lookup n=some c->X.env.cells.lookup n=some c)(bC:B C){a:Addr}:(X.comp scope own ix cl C rb).O (X.O B ow) Mn a->X.O B ow a:=λz=>by
 rcases z with z|⟨_,z⟩|z|⟨x,z⟩
 ·exact z
 ·exact z.elim
 ·exact .inl (z▸bC)
 ·exact .inr (.inr (.inr ⟨x,cs x a z⟩))
theorem Inv.comp(I:Inv X B π Z ow s)(hd:X.env.scope=nI)(S:qf nI X.N scope own ix)(cs:∀n c,cl.lookup n=some c->X.env.cells.lookup n=some c)(ch:∀n,(n,QF)∈scope.names->∃c,cl.lookup n=some c)(bC:B C)(hC:∃m,s.heap.Ns C m)(nC:∀a,(a=X.env.locals\/X.cel a\/X.T a\/X.rb a)->¬a=C):
  Inv (X.comp scope own ix cl C λa=>fP ow a\/X.rb a) (X.O B ow) π (inn own.length ix Z) Mn s:=by
 have SV:∀x,scope.names.lookup x=some .free->(CN scope cl C X.env).kindOf x=some .cell\/(CN scope cl C X.env).kindOf x=some .free:=λx h=>by
  have e:(CN scope cl C X.env).kindOf x=_:=W2 X.env x scope.names;rw[e,h,Um]
  split
  ·exact .inl rfl
  ·exact .inr rfl
 have SW:∀x,((CN scope cl C X.env).kindOf x=some .cell\/(CN scope cl C X.env).kindOf x=some .free)->scope.names.lookup x=some .free:=λx h=>by
  have e:(CN scope cl C X.env).kindOf x=_:=W2 X.env x scope.names;rw[e] at h
  cases q:scope.names.lookup x with
  |none=>rw[q] at h;rcases h with h|h<;>cases h
  |some k=>
   have nc:=S.nocell _ (QL q);rw[q,Um] at h
   cases k<;>first|rfl|exact absurd rfl nc|(rcases h with h|h<;>cases h)
 have oc:∀{a},(X.comp scope own ix cl C λa=>fP ow a\/X.rb a).O (X.O B ow) Mn a->X.O B ow a:=Cx.comp_O cs bC;have g:Gd (X.O B ow) s.heap ((X.comp scope own ix cl C λa=>fP ow a\/X.rb a).O (X.O B ow) Mn) s.heap:=Gd.less λ_=>oc;obtain⟨m0,hm0⟩:=hC;obtain⟨mm,hmm,sk⟩:=I.loc;refine⟨⟨I.ok.mod,S.kind,I.ok.glob,I.ok.blt,λx y c h1 h2=>I.ok.inj x y c (cs x c h1) (cs y c h2),λx hx=>ch x (QL (SW x hx)),I.ok.hd⟩,I.ge,I.base,λa z=>I.bo a (oc z),λa z=>.inl (I.bt a z),λt q=>(I.tb t q).go (λa z=>.inl (oc z)) (λ_ _ e _=>e) λ_ e=>e,λa z=>I.ex z,λa z=>?_,⟨m0,hm0,λi x sl e1 e2=>?_⟩,λx c e=>I.cell x c (cs x c e),?_,λ_ _ _ z=>z.elim,λ_ _ z=>z.elim⟩
 ·rcases z with⟨j,z⟩|z
  ·obtain⟨_,nb,_,nc⟩:=I.own j a z;exact⟨.inr (.inl ⟨j,z⟩),λe=>nb (e▸bC),λ⟨x,e⟩=>nc ⟨x,cs x a e⟩⟩
  ·obtain⟨h1,_,nc⟩:=I.rb a z;exact⟨.inl h1,nC a (.inr (.inr (.inr z))),λ⟨x,e⟩=>nc ⟨x,cs x a e⟩⟩
 ·have SX:(own++ix.map (λi=>X.N.getD i ""))[i]?=some x:=e1;unfold inn at e2
  by_cases hi:i<own.length
  ·rw[UC (by rw[gU];exact hi),BS,θ hi] at e2
   cases e2;trivial
  ·rw[QH (by rw[gU];lia),gU,kX] at e2
   rw[QH (by lia),kX] at SX
   cases q:ix[i-own.length]? with
   |none=>rw[q] at e2;cases e2
   |some j=>
    rw[q] at SX e2;rw[Um,Ba] at SX e2;obtain⟨hj,hfr⟩:=S.ix j (kT q);rw[SX] at hfr;have eN:X.N[j]?=some x:=by rw[kH hj,<-SX,kG,kH hj];rfl
    have kd:=S.free _ (QL hfr) rfl;rw[<-hd] at kd;have lk:∀{u},yh X.env s.heap mm x u->yh (CN scope cl C X.env) s.heap m0 x u:=λl=>by
     refine .inr ⟨SV x hfr,?_⟩;rcases l with⟨k,_⟩|⟨_,c,ec,cell⟩
     ·have k':X.env.scope.names.lookup x=some .local:=k;rcases kd with z|z<;>(rw[k'] at z;cases z)
     ·obtain⟨c',ec'⟩:=ch x (QL hfr);have z:=cs x c' ec';rw[ec] at z;cases z;exact⟨c,ec',cell⟩
    cases w:Z[j]? with
    |none=>rw[w] at e2;subst e2;trivial
    |some D2=>
     rw[w] at e2;subst e2;have k:=sk j x D2 eN w
     cases D2 with
     |un=>trivial
     |fz d=>obtain⟨u,l,r⟩:=k;exact⟨u,lk l,R.go g _ _ r⟩
     |rd d=>obtain⟨u,l,r,n⟩:=k;exact⟨u,lk l,r.go g λ_ _ _ e=>e,λp e z=>.inr (n p e (oc z))⟩
     |ow io n d=>
      show Sk _ _ _ _ _ _ _ _ (if n=1 then Sl.rd d else .un)
      split
      ·subst ‹n=1›;obtain⟨p,l,_,hS,r⟩:=k;exact⟨_,lk l,.inr ⟨p,rfl,r.imp g (λ_ e=>e) λ_ _=>Rs.go g _ _⟩,λp' e z=>by cases e;exact .inl ⟨j,(hS p).mpr rfl⟩⟩
      ·trivial
 ·show(inn own.length ix Z).length=(own++ix.map (λi=>X.N.getD i "")).length
  unfold inn;rw[kW,kW,gU,kJ,kJ]
def Inv.outC(I:Inv X B π Z ow s)(k:Sq (X.comp scope own ix cl C rb) (X.O B ow) π Mn s bY sI s1)(bC:B C)(nC:∀a,(a=X.env.locals\/X.cel a\/X.T a\/X.rb a)->¬a=C):Inv X B π Z ow s1/\∀a o,s.heap.get? a=some o->¬a=C->¬X.T a->s1.heap.get? a=some o:=by
 have kp:∀a o,s.heap.get? a=some o->¬(a=C\/X.T a)->s1.heap.get? a=some o:=λa o e n=>k.2.1.kp a o e (λz=>by
  rcases z with⟨_,z⟩|z|z
  ·exact z
  ·exact n (.inl z)
  ·exact nomatch z.1) λz=>n (.inr z)
 refine⟨I.go (V:=λa=>a=C\/X.T a) kp (λa z=>z.elim (λz=>z▸bC) (I.bt a)) (λz=>z.elim (nC _ (.inl rfl)) I.ntL) (λa⟨x,e⟩ z=>z.elim (nC a (.inr (.inl ⟨x,e⟩))) (I.ntC e)) (λa o z e nf y=>y.elim (nC a (.inr (.inr (.inr z)))) (I.nt e nf)) (λ_=>.inl) I.bt (λa z=>(I.rb a z).1) (λa z=>let⟨o,e⟩:=I.bd a z;k.2.1.ex a o e) k.1.ge λt m=>(k.1.tb t m).go (λa z=>.inl (.inl z)) (λ_ _ e _=>e) λ_ e=>e,λa o e n nt=>kp a o e λz=>z.elim n nt⟩
end
abbrev Jy(dI:List Expr)(env:Env):Sem Bool:=forIn dI true λc r=>if r=true then do let ok <-isTrue c env (eval c env);pure (HF ok) else pure (HF r)
def PIf(X:Cx)(dI:List Expr)(c:En->Option Bool):Prop:=∀B π Z ow s b,Inv X B π Z ow s->c Z=some b->ν (ο X.P X.w) X.A (Jy dI X.env) (λr s'=>r=b/\Sx X B π Z ow s s') nE s
def jR(X:Cx)(scope:Scope)(own:List Str)(ix:List Nat)(tg:Expr)(dI:List Expr)(fA:Expr)(h:Dt->En->Option En)(c:En->Option Bool)(e:En->Option Dt):Prop:=∀cl C rb,PG (X.comp scope own ix cl C rb) tg h/\PIf (X.comp scope own ix cl C rb) dI c/\PE (X.comp scope own ix cl C rb) false fA e
section
variable{X:Cx}{B:AP}{π:Addr}{Z:En}{ow:Os}{s:kR}{nI scope:Scope}{own N P:List Str}{ix:List Nat}{fA tg bh:Expr}{dI:List Expr}{pos:Pos}{it:En->Option (List Dt)}{h:Dt->En->Option En}{c:En->Option Bool}{e:En->Option Dt}{d:Dt}
def I3:PIf X [] bv:=λB π Z ow s b I q=>by cases q;exact wpAny_tests_nil ⟨rfl,I.sx⟩
def I5{t:Expr}(h:PT X t c):PIf X [t] c:=λB π Z ow s b I q=>wpAny_tests_one (h B π Z ow s b I q)
theorem zed{prog:Qq}{w:World}{A:Qd}{R:Fl->kR->Prop}{it dS:kL}(I:Nat->kR->Prop)
  (turn:∀n s,I n s->ν (ο prog w) A (BB it) (λr aU=>(r=none/\R (.ok .next) aU)\/∃v,r=some v/\
   ν (ο prog w) A (CQ tg it v) (λ_ cz=>ν (ο prog w) A (assign tg env v) (λ_ fR=>ν (ο prog w) A (Jy dI env) (λok N6=>
    if ok=true then ν (ο prog w) A (eval fA env) (λx SY=>ν (ο prog w) A (call (.builtin "list.append") [dS,x]) (λ_ S0=>∃m,m<n/\I m S0) nE SY) nE N6
    else ∃m,m<n/\I m N6) nE fR) nE cz) nE aU) nE s)
  (n:Nat) (h:I n s):Ak (ο prog w) A (.compLoop (.ListComp fA [⟨tg,bh,dI,0⟩] scope pos) 0 it dS env) R s:=by
 refine codeAny_loop rfl I (λn s hI=>?_) n h;refine wpAny_noted (Qr (E:=nE) ?_ (λ_ _ z=>z) λ_ _ z=>z.elim);have e:=compTurn_list fA tg bh dI scope pos it dS env;show ν (ο prog w) A (compTurn (.ListComp fA [⟨tg,bh,dI,0⟩] scope pos) 0 it dS env) _ _ s;rw[e];refine kC (DW (kC (ax (turn n s hI) λr aU aV=>?_)));rcases aV with⟨rfl,aV⟩|⟨v,rfl,aV⟩
 ·exact kO aV
 ·refine kC (ax aV λ_ cz cM=>kC (ax cM λ_ fR N2=>kC (ax N2 λok N6 S1=>?_)))
  cases ok with
  |false=>exact kO ⟨rfl,S1⟩
  |true=>exact kC (kC (ax S1 λx SY h₅=>kC (ax h₅ λ_ S0 h₆=>kO (kO ⟨rfl,h₆⟩))))
theorem zah{use:Option (kL->Sem Unit)}{RQ:kL->kR->Prop}{p0:Pos}(hd:X.env.scope=nI)(S:qf nI X.N scope own ix)(hi:PI X true tg bh it)(hb:jR X scope own ix tg dI fA h c e)(hs:∀x,gY bh X.env x=pure x)(I:Inv X B π Z ow s)(q:au own.length ix it h c e Z=some d)
  (fin:∀D C s',Inv X (λa=>(B a\/a=C)\/a=D) π Z ow s'->St X.toGx bL s s'->s.heap.get? D=none->s.heap.get? C=none->D≠C->(∃m,s'.heap.Ns C m)->Top X.toGx (X.O (λa=>(B a\/a=C)\/a=D) ow) s'.heap (Rs X.toGx (X.O (λa=>(B a\/a=C)\/a=D) ow) s'.heap) d D->compPost (ο X.P X.w) X.A nE use RQ (.ref D) C (.ok .next) s'):
  ν (ο X.P X.w) X.A (comprehension (.ListComp fA [⟨tg,bh,dI,0⟩] scope pos) scope X.env p0 (newList []) false (eval bh X.env) use) RQ nE s:=by
 obtain⟨ds,q1,q⟩:=kA.mp q;obtain⟨r,q2,q⟩:=kA.mp q
 cases q;generalize hf:(λd=>(h d (inn own.length ix Z)).bind λbY=>(c bY).bind λb=>if b=true then(e bY).bind λy=>some (some y) else some none)=f at q2;obtain⟨cl,hcl,cs,ch⟩:=zee (scope:=scope) (env:=X.env) λn hn=>I.ok.has n (by have z:=S.free _ hn rfl;rw[<-hd] at z;exact z)
 refine wpAny_comprehension_free rfl hs hcl S.kind S.names (ax (hi B π Z ow s ds I q1) λv s1 h1=>ax h1 λSE s2 hw=>?_);obtain⟨it,F,L,tn,e,I2,t2,nF,_,lo',w,t0⟩:=hw;subst e;refine Ua (Er S.nocell (by intro y hy;cases hy) (λaV dU fS=>?_) S.kind)
 dsimp only at dU fS⊢;generalize hH3:s2.heap.push {cls:=.type "list",dict:=none,data:=.seq ([]:List kL).toArray}=g3 at dU fS⊢;have hC:g3.objs.size=s2.heap.objs.size+1:=by rw[<-hH3,gQ]
 generalize eC:g3.objs.size=C at dU fS⊢;generalize eD:s2.heap.objs.size=D at*;have S2:∀b o,g3.get? b=some o->aV.get? b=some o:=λb o e=>fS.extBut b o (by rw[<-eC];exact QC (uU e)) (kK _ e)
 have C0:∀b o,s2.heap.get? b=some o->aV.get? b=some o:=λb o e=>S2 b o (by rw[<-hH3];exact kK _ e)
 have nD:s2.heap.get? D=none:=uN (by rw[eD];exact pI _)
 have nC:s2.heap.get? C=none:=uN (by lia)
 have hD:aV.get? D=some (lo [] 0):=S2 D _ (by rw[<-hH3,<-eD];exact kf _ rfl)
 have DC:D≠C:=by lia
 generalize Rn:(λa=>(B a\/a=C)\/(a=D\/F a))=B';have I4:Inv X B' π Z ow {s2 with heap:=aV,toks:=s2.toks+0}:=by
  have J:=I2.more (t':=s2.toks+0) (B':=λa=>a=D\/a=C) (λa z=>z.elim (λz=>z▸nD) λz=>z▸nC) C0 λa z=>z.elim (λz=>⟨_,z▸hD⟩) λz=>by obtain⟨o,_,_,e,_⟩:=dU;exact⟨o,z▸e⟩
  rw[<-Rn];refine J.less (λa z=>?_) (λa z=>.inl (.inl (I.bt a z))) λa z=>.inl (.inl (I.rb a z).1);rcases z with(z|z)|(z|z)
  ·exact .inl (.inl z)
  ·exact .inr (.inr z)
  ·exact .inr (.inl z)
  ·exact .inl (.inr z)
 have bC:B' C:=by rw[<-Rn];exact .inl (.inr rfl)
 have bD:B' D:=by rw[<-Rn];exact .inr (.inl rfl)
 have bF:∀a,F a->B' a:=λa z=>by rw[<-Rn];exact .inr (.inr z)
 have N7:∀a,(a=X.env.locals\/X.cel a\/X.T a\/X.rb a)->¬a=C:=I2.nf (F:=λa=>a=C) λa z=>z▸nC;have nDa:∀a,(a=X.env.locals\/X.cel a\/X.T a\/X.rb a)->¬a=D:=I2.nf (F:=λa=>a=D) λa z=>z▸nD;have nFa:=I.nf nF;have FC:∀{a},F a->¬a=C:=λz y=>by obtain⟨o,e⟩:=I2.bd _ (.inr z);rw[y,nC] at e;cases e
 have FD:∀{a},F a->¬a=D:=λz y=>by obtain⟨o,e⟩:=I2.bd _ (.inr z);rw[y,nD] at e;cases e
 have LC:∀{a},L a->¬a=C:=λz y=>I2.apart nC ((lo' _ z).1.imp (λz=>.inl (y▸z)) λz=>y▸z);have LD:∀{a},L a->¬a=D:=λz y=>I2.apart nD ((lo' _ z).1.imp (λz=>.inl (y▸z)) λz=>y▸z);have TD:¬X.T D:=λz=>nDa D (.inr (.inr (.inl z))) rfl;have g4:Gd (X.O (λa=>B a\/F a) ow) s2.heap (X.O B' ow) aV:=λa o e n=>⟨C0 a o e,λz=>n (z.elim (λz=>.inl (by
  rw[<-Rn] at z;rcases z with(z|z)|(z|z)
  ·exact .inl z
  ·rw[z,nC] at e;cases e
  ·rw[z,nD] at e;cases e
  ·exact .inr z)) .inr)⟩
 have tn4:=w.keep _ _ _ _ _ t0 g4 λa o _=>C0 a o;have S3:∀fR:kR,fR={s2 with heap:=aV,toks:=s2.toks+0}->
   Ak (ο X.P X.w) X.A (.compLoop (.ListComp fA [⟨tg,bh,dI,0⟩] scope pos) 0 (.ref it) (.ref D) (CN scope cl C X.env)) (compPost (ο X.P X.w) X.A nE use RQ (.ref D) C) fR:=by
  rintro fR rfl;obtain⟨hg,hif,hel⟩:=hb cl C λa=>fP ow a\/X.rb a;refine zed (λn s'=>∃i ay rs vs k,n=ds.length-i/\i<=ds.length/\Inv X B' π Z ow s'/\(∃m,s'.heap.Ns C m)/\tn i (X.O B' ow) s'.heap/\St X.toGx bL s s'/\s'.heap.get? D=some (L2.lo vs k)/\Rs X.toGx (X.O B' ow) s'.heap ay vs/\ay.length<=i/\y9 f (ds.drop i)=some rs/\ay++rs=r) ?_ ds.length
   ⟨0,[],r,[],0,rfl,QB _,I4,⟨_,dU⟩,tn4,t2.then (.keep C0),hD,.nil,pI _,q2,rfl⟩
  rintro n s3 ⟨i,ay,rs,vs,k,rfl,hi,J3,hC3,SG,Mo,hD3,ro,lo3,qr,er⟩;have le:=w.le;have lv:=ro.len;have fO:∀a,F a->X.O B' ow a:=λa z=>.inl (bF a z)
  by_cases lt:i<ds.length
  ·rw[Qf lt,y9] at qr;obtain⟨o,q3,qr⟩:=kA.mp qr;obtain⟨fC,q4,qr⟩:=kA.mp qr
   cases qr;rw[<-hf] at q3;obtain⟨bY,q5,q3⟩:=kA.mp q3;obtain⟨b,q6,q3⟩:=kA.mp q3;refine ax (w.item i _ _ s3 SG fO (λa z=>J3.ex z) (kH lt)) λr4 s4⟨u,hr4,k4⟩=>.inr ⟨u,hr4,ax k4 λ_ s5⟨tn5,r5,x5,ex5⟩=>?_⟩;have J5:Inv X B' π Z ow s5:=J3.nx bF x5 nFa (λ_=>id) (λa _=>ex5 a) λa z=>z.elim (J3.bt a) λz=>(J3.rb a z).1;obtain⟨h5,tk5,rfl,Mp⟩:=id x5;have hC5:∃m,h5.Ns C m:=by obtain⟨m,o,es,ep,e,z⟩:=hC3;exact⟨m,o,es,ep,Mp _ _ (λz=>FC z rfl) e,z⟩
   have g5:Gd (X.O B' ow) s3.heap (X.O B' ow) h5:=λa o e n=>⟨Mp a o (λz=>n (fO a z)) e,n⟩;have K5:=J5.comp hd S cs ch bC hC5 N7;refine ax (hg _ π _ _ _ _ bY u K5 (R.go (Gd.less λ_=>Cx.comp_O cs bC) _ _ r5) q5) λ_ s6⟨NR,k6⟩=>ax (hif _ π bY NR s6 b k6.1 q6) λb' s7 hw=>?_;obtain⟨eb,t7⟩:=hw;subst eb;have again:∀{s8},Sx (X.comp scope own ix cl C λa=>fP ow a\/X.rb a) (X.O B' ow) π bY NR s6 s8->Inv X B' π Z ow s8/\(∃m,s8.heap.Ns C m)/\tn (i+1) (X.O B' ow) s8.heap/\St X.toGx bL s s8/\s8.heap.get? D=some (L2.lo vs k)/\Rs X.toGx (X.O B' ow) s8.heap ay vs:=λ{s8} t8=>by
    have k8:=k6.trans t8.sq;obtain⟨J8,S4⟩:=J5.outC k8 bC N7;have g8:Gd (X.O B' ow) h5 (X.O B' ow) s8.heap:=λa o e n=>⟨S4 a o e (λz=>n (.inl (z▸bC))) λz=>n (.inl (J5.bt a z)),n⟩;obtain⟨m,hm,_⟩:=k8.1.loc;exact⟨J8,⟨m,hm⟩,w.keep _ _ _ _ _ tn5 g8 λa o z e=>z.elim (λz=>S4 a o e (FC z) λy=>nFa a (.inr (.inr (.inl y))) z) λz=>S4 a o e (LC z) (lo' a z).2,(x5.st Mo nF).trans (W':=λa=>a=C) ⟨k8.2.1.os,λa o e n nt=>S4 a o e n nt,k8.2.1.ex,k8.2.1.tg⟩ λa z=>.inr (by rw[z];exact t2.free nC),S4 D _ (Mp D _ (λz=>FD z rfl) hD3) DC TD,Rs.go (g5.trans g8) _ _ ro⟩
   cases b' with
   |false=>
    rw[η pF] at q3
    cases q3;obtain⟨J8,hC8,tn8,st8,S5,ro8⟩:=again t7;exact⟨ds.length-(i+1),by lia,i+1,ay,fC,vs,k,rfl,lt,J8,hC8,tn8,st8,S5,ro8,by lia,q4,er⟩
   |true=>
    rw[θ rfl] at q3;obtain⟨y,q7,q3⟩:=kA.mp q3
    cases q3;refine ax (hel _ π bY NR s7 y t7.1 q7) λv s8 hw=>?_;obtain⟨t8,r8⟩:=hw;obtain⟨J8,hC8,tn8,st8,S5,ro8⟩:=again (t7.trans t8);refine CE hH ⟨_,S5,rfl⟩ BA (As _ _) (DL D vs.toArray k v (by rw[ph];lia)) ⟨S5,?_⟩
    have z:=Dh S5 (λx=>x.push v);rw[show vs.toArray.push v=(vs++[v]).toArray by simp] at z
    have kp9:∀a o,¬a=D->s8.heap.get? a=some o->(s8.heap.update D (pW λx=>x.push v)).get? a=some o:=λa o n e=>(uH s8.heap _ (gB n)).trans e;have g9:Gd (X.O B' ow) s8.heap (X.O B' ow) (s8.heap.update D (pW λx=>x.push v)):=λa o e n=>⟨kp9 a o (λz=>n (.inl (z▸bD))) e,n⟩;have x9:Nx (λa=>a=D) s8 {s8 with heap:=s8.heap.update D (pW λx=>x.push v),toks:=s8.toks}:=⟨_,_,rfl,λa o n e=>kp9 a o n e⟩;have J9:=J8.nx (B':=B') (F:=λa=>a=D) (λa z=>z▸bD) x9 nDa (λ_=>id) (λa _ e=>by subst e;exact⟨_,z⟩) λa z=>z.elim (J8.bt a) λz=>(J8.rb a z).1
    exact⟨ds.length-(i+1),by lia,i+1,ay++[y],fC,vs++[v],_,rfl,lt,J9,by obtain⟨m,o,es,ep,e,z⟩:=hC8;exact⟨m,o,es,ep,kp9 C _ (gB DC) e,z⟩,
     w.keep _ _ _ _ _ tn8 g9 λa o z e=>kp9 a o (z.elim (λz=>FD z) λz=>LD z) e,x9.st st8 λa z=>by rw[z];exact t2.free nD,z,(Rs.go g9 _ _ ro8).app (.cons (R.go (g9.trans (Gd.less λ_ z=>z)) _ _ (R.go (Gd.less λa z=>.inl z) _ _ r8)) .nil),by rw[kW,QU];lia,q4,by rw[<-er,ui];rfl⟩
  ·obtain rfl:i=ds.length:=by lia
   rw[GY,y9] at qr
   cases qr;rw[QM] at er;subst er;refine ax (w.done _ s3 SG fO) λr4 s4⟨e,x⟩=>.inl ⟨e,?_⟩;have i':∀a,((B a\/a=C)\/a=D)->B' a:=λa z=>by rw[<-Rn];exact z.imp id .inl
   have nF':∀{a},((B a\/a=C)\/a=D)->¬F a:=λz y=>by
    rcases z with(z|z)|z
    ·obtain⟨o,e⟩:=I.bd _ z;rw[nF _ y] at e;cases e
    ·exact FC y z
    ·exact FD y z
   have J4:Inv X (λa=>(B a\/a=C)\/a=D) π Z ow s4:=J3.nx bF x nFa i' (λa z y=>(nF' z y).elim) λa z=>.inl (.inl (z.elim (I.bt a) λz=>(I.rb a z).1));have st4:=x.st Mo nF;obtain⟨h4,tk,rfl,D5⟩:=x;have gz:Gd (X.O B' ow) s3.heap (X.O (λa=>(B a\/a=C)\/a=D) ow) h4:=λa o e n=>⟨D5 a o (λz=>n (fO a z)) e,λz=>n (z.imp (i' a) id)⟩;exact fin D C _ J4 st4 (t2.free nD) (t2.free nC) DC (by obtain⟨m,o,es,ep,e,z⟩:=hC3;exact⟨m,o,es,ep,D5 C _ (λz=>FC z rfl) e,z⟩) ⟨vs,k,D5 D _ (λz=>FD z rfl) hD3,by lia,Rs.go gz _ _ ro⟩
 exact codeAny_compStart_list (S3 _ rfl) (w.self _ 0 _ _ _ _ tn4 (S3 _ rfl))
def Inv.endC{D C:Addr}{h':Heap}(J:Inv X (λa=>(B a\/a=C)\/a=D) π Z ow s)(I:Inv X B π Z ow s1)(n:s1.heap.get? C=none)(sb:UQ C s.heap h'):Inv X B π Z ow {s with heap:=h',toks:=s.toks}:=
 J.nx (F:=λa=>a=C) (λa z=>.inl (.inr z)) ⟨h',_,rfl,λb o n e=>(sb.2 b n).trans e⟩ (I.nf λa z=>z▸n) (λa z=>.inl (.inl z)) (λa z e=>by obtain⟨o,q⟩:=I.bd a z;rw[e,n] at q;cases q) λa z=>z.elim (I.bt a) λz=>(I.rb a z).1
def N8(own:List Str)(ix:List Nat)(hi:PI X true tg bh it)(hb:jR X scope own ix tg dI fA h c e)(S':qf nI N scope own ix:=by exact S6 rfl (by decide+kernel))(hd:X.env.scope=nI:=by rfl)(hN:X.N=N:=by rfl)(hs:∀x,gY bh X.env x=pure x:=by intro _;rfl):PF X (.ListComp fA [⟨tg,bh,dI,0⟩] scope pos) (au own.length ix it h c e):=λB π Z ow s d I q=>by
 subst hN;rw[eval_ListComp];refine zah (use:=none) hd S' hi hb hs I q λD C s' J t nD nC DC⟨m,hm⟩ top=>⟨m,hm,λh' sb=>?_⟩;have g:Gd (X.O (λa=>(B a\/a=C)\/a=D) ow) s'.heap (λa=>X.O B ow a\/a=D) h':=λa o e n=>⟨(sb.2 a λz=>n (.inl (.inl (.inr z)))).trans e,λz=>n (z.elim (λz=>z.imp (λz=>.inl (.inl z)) id) λz=>.inl (.inr z))⟩;exact⟨⟨J.endC I nC sb,Nx.st (F:=λa=>a=C) t ⟨h',s'.toks,rfl,λb o n e=>(sb.2 b n).trans e⟩ λa z=>z▸nC⟩,D,rfl,nD,top.imp g (λo e=>(sb.2 D DC).trans e) λ_ _=>Rs.go g _ _⟩
def N9(i:Nat){x:Str}{bA D6:Pos}(hN0:X.N.Nodup)(own:List Str)(ix:List Nat)(hi:PI X true tg bh it)(hb:jR X scope own ix tg dI fA h c e)(S':qf nI N scope own ix:=by exact S6 rfl (by decide+kernel))(hd:X.env.scope=nI:=by rfl)(hN':X.N=N:=by rfl)(hx0:X.N[i]?=some x:=by rfl)(hx:X.env.scope.names.lookup x=some .local\/(X.fn=true/\X.env.scope.names.lookup x=some .cell):=by first|exact .inl rfl|exact .inr ⟨rfl,rfl⟩)
  (eW:Ur (.ListComp fA [⟨tg,bh,dI,0⟩] scope pos) (some (.Name x bA)) D6.line X.env=pure true:=by rfl) (hs:∀x,gY bh X.env x=pure x:=by intro _;rfl):PS X (.Assign [.Name x bA] (.ListComp fA [⟨tg,bh,dI,0⟩] scope pos) D6) (bK i (au own.length ix it h c e)):=λB π Z ow s o I q=>by
 subst hN';obtain⟨d,q1,q2⟩:=kA.mp q
 cases q2;rw[exec_Assign_Name_used _ _ _ _ eW]
 have main:=zah (p0:=bh.pos) (pos:=pos) (use:=some (assign (.Name x bA) X.env)) (RQ:=λ_ s'=>SP X B π ow s (.nx (Z.set i (.ow false 1 d))) .next s') hd S' hi hb hs I q1 λD C s' J t nD nC DC⟨m,hm⟩ top=>by
  have np:¬X.O B ow D:=I.apart nD;refine Fy (ax (store (S:=λa=>a=D) (sl:=.ow false 1 d) J hN0 hx0 hx (λa z=>by subst z;exact⟨top.get,λz=>z.elim (λz=>np (.inl z)) DC,λz=>np (.inr (.inr (.inl z))),λz=>np (.inr (.inr (.inr z))),λz=>np (.inr (.inl z))⟩) (λa z=>.inl (I.rb a z).1) λh' mm l g k=>⟨D,l,nofun,λa=>⟨λz=>z.elim (·.2) λz=>absurd rfl z.1,λz=>.inl ⟨rfl,z⟩⟩,top.imp g (λo=>k D o rfl) λ_ _=>Rs.go g _ _⟩) λ_ s2 hw=>?_)
  obtain⟨J2,t2⟩:=hw;have N7:=I.nf (F:=λa=>a=C) λa z=>z▸nC;have nW:¬X.W ow C:=λz=>by
   rcases z with⟨j,z⟩|z|z
   ·exact I.apart nC (.inr (.inl ⟨j,z⟩))
   ·exact N7 C (.inl z) rfl
   ·exact N7 C (.inr (.inl z.2)) rfl
  exact⟨m,by obtain⟨o,es,ep,e,z⟩:=hm;exact⟨o,es,ep,t2.kp C o e nW (λz=>N7 C (.inr (.inr (.inl z))) rfl),z⟩,λh' sb=>⟨_,J2.nx (F:=λa=>a=C) (λa z=>.inr z) ⟨h',_,rfl,λb o n e=>(sb.2 b n).trans e⟩ N7 (λa z=>.inl z) (λa z e=>by obtain⟨o,q⟩:=I.bd a z;rw[e,nC] at q;cases q) λa z=>z.elim (I.bt a) λz=>(I.rb a z).1,Nx.st (F:=λa=>a=C) (t.up.trans t2 λa=>.inl) ⟨h',s2.toks,rfl,λb o n e=>(sb.2 b n).trans e⟩ λa z=>z▸nC,λa⟨j,z⟩=>z.elim (λz=>.inr (by rw[z.2];exact nD)) λz=>.inl ⟨j,z.2⟩⟩⟩
 refine kC (DW (kC ?_));exact kC (ax main λ_ s' hq=>kO (kO hq))
end
variable{t:Addr}
section
variable{X:Cx}{B:AP}{π:Addr}{Z:En}{ow:Os}{s s1:kR}{m:Bool}{a b e:Expr}{es:List Expr}{f g:En->Option Dt}{ga:En->Option (List Dt)}{p pos:Pos}{x:Str}{d:Dt}{ds:List Dt}{k:List Dt->Option Dt}{id T:String}
def bcl(hz:ZC X (.builtin id) k)(hg:Gl X x)(hm:X.mg x=none)(hv:uw x=some (.builtin id))(ha:PA X true (e::es) ga)(hn:x≠"__name__":=by decide)(tO:(x==("__debug__":Str))=false:=by decide)(he:pO (e::es) X.env=(false,eval e X.env)::pO es X.env:=by rfl)(hpl:(Qh pos (pO es X.env)).any (·.1)=false:=by rfl):PE X m (.Call (.Name x p) (e::es) [] pos) (aj k ga):=λB π Z ow s d I q=>by
 obtain⟨ds,q1,q⟩:=kA.mp q;refine QI (xm I hg hm hv ?_ hn tO);exact AJ (ax (ha pos B π Z ow s ds I q1) λus s1⟨t,r⟩=>ax (hz B π Z ow s1 ds d us t.1 q r) λv s2⟨t2,r⟩=>⟨t.trans t2,.of r⟩) he hpl
def bclF(hz:ZF X (.builtin id) k)(hg:Gl X x)(hm:X.mg x=none)(hv:uw x=some (.builtin id))(ha:PA X true (e::es) ga)(hn:x≠"__name__":=by decide)(tO:(x==("__debug__":Str))=false:=by decide)(he:pO (e::es) X.env=(false,eval e X.env)::pO es X.env:=by rfl)(hpl:(Qh pos (pO es X.env)).any (·.1)=false:=by rfl):PF X (.Call (.Name x p) (e::es) [] pos) (aj k ga):=λB π Z ow s d I q=>by
 obtain⟨ds,q1,q⟩:=kA.mp q;refine QI (xm I hg hm hv ?_ hn tO);exact AJ (ax (ha pos B π Z ow s ds I q1) λus s1⟨t,r⟩=>ax (hz B π Z ow s1 ds d us t.1 q r) λv s2⟨t2,p,e,n,r⟩=>⟨t.trans t2,p,e,t.2.free n,r⟩) he hpl
def S7(hz:ZF X (.type T) k)(hg:Gl X x)(hm:X.mg x=none)(hv:uw x=some (.type T))(ha:PA X true (e::es) ga)(hn:x≠"__name__":=by decide)(tO:(x==("__debug__":Str))=false:=by decide)(he:pO (e::es) X.env=(false,eval e X.env)::pO es X.env:=by rfl)(hpl:(Qh pos (pO es X.env)).any (·.1)=false:=by rfl):PF X (.Call (.Name x p) (e::es) [] pos) (aj k ga):=λB π Z ow s d I q=>by
 obtain⟨ds,q1,q⟩:=kA.mp q;refine QI (xm I hg hm hv ?_ hn tO);exact UX (ax (ha pos B π Z ow s ds I q1) λus s1⟨t,r⟩=>ax (hz B π Z ow s1 ds d us t.1 q r) λv s2⟨t2,p,e,n,r⟩=>⟨t.trans t2,p,e,t.2.free n,r⟩) he hpl
theorem S8:ZC X (.builtin "len") zq:=λB π Z ow s ds d us I q r=>by
 have hn:=fQ;unfold zq at q
 split at q
 ·cases q;obtain⟨u,rfl,r1⟩:=tY r;obtain⟨p,vs,n,rfl,e,l,rs⟩:=r1.lst;have h:=rs.len;exact Calls.call_len_list ⟨_,e,rfl,n,rfl⟩ (by simp only[ph]<;>lia) ⟨I.tok _,by rw[ph,<-h];exact .int⟩
 ·cases q;obtain⟨u,rfl,r1⟩:=tY r;obtain⟨p,vs,rfl,_,e,l,rs⟩:=r1.tup;have h:=rs.len;exact len_tuple e (by simp only[ph]<;>lia) ⟨I.tok _,by rw[ph,<-h];exact .int⟩
 ·cases q
def S9:ZC X (.builtin "abs") vi:=λB π Z ow s ds d us I q r=>by
 unfold vi at q
 split at q<;>cases q
 obtain⟨u,rfl,r1⟩:=tY r;obtain⟨t,rfl⟩:=r1.int;exact call_abs_int λu tk=>⟨I.tok _,.int⟩
def Ta{fn:kL}{gg:Int->Int->Int}(h:∀{A:Qd}{s:kR}{i j:Int}{t u:Tok}{Q:kL->kR->Prop},A.handled=none->(∀h' tk v,(∀c o,s.heap.get? c=some o->h'.get? c=some o)->(∃t,v=.int (gg i j) t)->Q v {s with heap:=h',toks:=tk})->ν (ο X.P X.w) A (call fn [.int i t,.int j u]) Q nE s):ZC X fn (y8 gg):=λB π Z ow s ds d us I q r=>by
 unfold y8 at q
 split at q<;>cases q
 obtain⟨u,v,rfl,r1,r2⟩:=pr2 r;obtain⟨t,rfl⟩:=r1.int;obtain⟨t',rfl⟩:=r2.int;exact h I.ok.hd λh' tk v k⟨t,e⟩=>⟨I.kept k,by rw[e];exact .int⟩
def bt_abs:uw "abs"=some (.builtin "abs"):=by decide+kernel
def bt_len:uw "len"=some (.builtin "len"):=by decide+kernel
def bt_isinstance:uw "isinstance"=some (.builtin "isinstance"):=by decide+kernel
def bt_int:uw "int"=some (.type "int"):=by decide+kernel
def bt_bool:uw "bool"=some (.type "bool"):=by decide+kernel
def bt_tuple:uw "tuple"=some (.type "tuple"):=by decide+kernel
def bt_list:uw "list"=some (.type "list"):=by decide+kernel
def bt_max:uw "max"=some (.builtin "max"):=by decide+kernel
def bt_min:uw "min"=some (.builtin "min"):=by decide+kernel
def bt_sorted:uw "sorted"=some (.builtin "sorted"):=by decide+kernel
def bt_range:uw "range"=some (.type "range"):=by decide+kernel
def bt_zip:uw "zip"=some (.type "zip"):=by decide+kernel
def bt_enumerate:uw "enumerate"=some (.type "enumerate"):=by decide+kernel
def bt_reversed:uw "reversed"=some (.type "reversed"):=by decide+kernel
def Oa(hg:Gl X "len")(hm:X.mg "len"=none)(ha:PA X true (e::es) ga)(he:pO (e::es) X.env=(false,eval e X.env)::pO es X.env:=by rfl)(hpl:(Qh pos (pO es X.env)).any (·.1)=false:=by rfl):PE X m (.Call (.Name "len" p) (e::es) [] pos) (aj zq ga):=bcl S8 hg hm bt_len ha (he:=he) (hpl:=hpl)
def Ob(hg:Gl X "abs")(hm:X.mg "abs"=none)(ha:PA X true (e::es) ga)(he:pO (e::es) X.env=(false,eval e X.env)::pO es X.env:=by rfl)(hpl:(Qh pos (pO es X.env)).any (·.1)=false:=by rfl):PE X m (.Call (.Name "abs" p) (e::es) [] pos) (aj vi ga):=bcl S9 hg hm bt_abs ha (he:=he) (hpl:=hpl)
def I6(hg:Gl X "max")(hm:X.mg "max"=none)(ha:PA X true (e::es) ga)(he:pO (e::es) X.env=(false,eval e X.env)::pO es X.env:=by rfl)(hpl:(Qh pos (pO es X.env)).any (·.1)=false:=by rfl):PE X m (.Call (.Name "max" p) (e::es) [] pos) (aj (y8 λi j=>if j>i then j else i) ga):=bcl (Ta λhd q=>max_two_ints hd λh' tk k=>q h' tk _ k (by split<;>exact⟨_,rfl⟩)) hg hm bt_max ha (he:=he) (hpl:=hpl)
def I8(hg:Gl X "min")(hm:X.mg "min"=none)(ha:PA X true (e::es) ga)(he:pO (e::es) X.env=(false,eval e X.env)::pO es X.env:=by rfl)(hpl:(Qh pos (pO es X.env)).any (·.1)=false:=by rfl):PE X m (.Call (.Name "min" p) (e::es) [] pos) (aj (y8 λi j=>if j<i then j else i) ga):=bcl (Ta λhd q=>min_two_ints hd λh' tk k=>q h' tk _ k (by split<;>exact⟨_,rfl⟩)) hg hm bt_min ha (he:=he) (hpl:=hpl)
def Oc:ZF X (.type "list") vY:=λB π Z ow s ds d us I q r=>by
 unfold vY at q
 split at q
 ·cases q;obtain⟨u,rfl,r1⟩:=tY r;obtain⟨p,vs,n,rfl,e,l,rs⟩:=r1.lst;exact call_list_seq p (.inl rfl) e rfl rfl (λh' c' kp e=>I.lnew (t':=s.toks) rs l kp fu e) (by simpa using l)
 ·cases q;obtain⟨u,rfl,r1⟩:=tY r;obtain⟨p,vs,rfl,_,⟨o,e,hc,n,hd⟩,l,rs⟩:=r1.tup;exact call_list_seq p (.inr rfl) e hc hd (λh' c' kp e=>I.lnew (t':=s.toks) rs l kp fu e) (by simpa using l)
 ·cases q
def I9(hg:Gl X "list")(hm:X.mg "list"=none)(ha:PA X true (e::es) ga)(he:pO (e::es) X.env=(false,eval e X.env)::pO es X.env:=by rfl)(hpl:(Qh pos (pO es X.env)).any (·.1)=false:=by rfl):PF X (.Call (.Name "list" p) (e::es) [] pos) (aj vY ga):=S7 Oc hg hm bt_list ha (he:=he) (hpl:=hpl)
theorem Od(ha:PE X true a f)(hb:PE X true b g):PF X (.BinOp a .Add b pos) (d2 zM f g):=λB π Z ow s d I q=>by
 obtain⟨x,qa,q⟩:=kA.mp q;obtain⟨y,qb,q⟩:=kA.mp q;unfold zM at q
 split at q
 ·split at q<;>cases q
  have lq:=‹_<=μ›;refine DF (ax (ha B π Z ow s _ I qa) λv s1⟨t1,r1⟩=>ax (hb B π Z ow s1 _ t1.1 qb) λu s2 hw=>?_);obtain⟨t2,r2⟩:=hw;obtain⟨p,vs,n,rfl,e,l,rs⟩:=(RT.st r1 t1.1 t2.2).lst;obtain⟨p2,Tb,n2,rfl,e2,l2,Tc⟩:=RT.lst r2;have h1:=rs.len;have h2:=Tc.len;refine PySem.P.add_list e e2 ?_ (by rw[ph,ph];lia)
  rw[show vs.toArray++Tb.toArray=(vs++Tb).toArray by simp]
  obtain⟨t3,p,e,n,r⟩:=t2.1.lnew (t':=s2.toks) (n:=0) (rs.app Tc) (by rw[kW];lia) (λb o=>kK (lo (vs++Tb) 0)) fu (kf _ rfl)
  exact⟨(t1.trans t2).trans t3,p,e,(t1.trans t2).2.free n,r⟩
 ·cases q
def Ka{prog:Qq}{w:World}{A:Qd}{E:kL->kR->Prop}{b:Addr}{vs ws:List kL}(ht:IsTup s.heap t vs.toArray)(hb:IsTup s.heap b ws.toArray)(hv:vs≠[])
  (h1:ws=[]->Q (.ref t) s)(h2:ws≠[]->Q (.ref s.heap.objs.size) {s with heap:=s.heap.push {cls:=.type "tuple",data:=.seq (vs++ws).toArray}})(hsz:vs.length+ws.length<=μ):ν (ο prog w) A (binaryOp .Add (.ref t) (.ref b)) Q E s:=by
 obtain⟨⟨cls,dd,data,sl⟩,ho,hc,n,hd⟩:=_root_.id ht;obtain⟨⟨cls2,Ro,data2,Rp⟩,Mq,Oe,n2,H5⟩:=_root_.id hb
 simp only at hc hd Oe H5
 subst hc hd Oe H5
 by_cases hw:ws=[]
 ·exact concat_meets ⟨_,ho,rfl⟩ ⟨_,Mq,rfl⟩ Gb seq_tuple_add EN Dl (DX _ _) (tuple_addW1 t b vs.toArray ws.toArray n n2 dd Ro sl Rp (by simpa using hv) (by simp[hw])) ⟨ho,Mq,h1 hw⟩
 ·refine concat_meets ⟨_,ho,rfl⟩ ⟨_,Mq,rfl⟩ Gb seq_tuple_add EN Dl (DX _ _) (tuple_addW2 t b vs.toArray ws.toArray n n2 dd Ro sl Rp (by simpa using hv) (by simpa using hw) (by rw[ph,ph];exact hsz)) ⟨ho,Mq,?_⟩
  rw[show vs.toArray++ws.toArray=(vs++ws).toArray by simp]
  exact h2 hw
theorem Of:Z2 X (binaryOp .Add) xQ:=λB π Z ow s x y d v u I q r1 r2=>by
 unfold xQ at q
 split at q
 ·split at q<;>cases q
  have lq:=‹_<=μ›;obtain⟨p,vs,rfl,np,e,l,rs⟩:=r1.tup;obtain⟨p2,Tb,rfl,_,e2,l2,Tc⟩:=r2.tup;have h1:=rs.len;have h2:=Tc.len;refine Ka e e2 (by rintro rfl;cases h1) (λz=>⟨I.sx,?_⟩) (λz=>?_) (by lia)
  ·subst z;have z2:=UI h2;subst z2;rw[QM,R];exact⟨p,vs,rfl,np,e,l,rs⟩
  ·have t:=I.kept (t':=s.toks) λb o=>kK {cls:=.type "tuple",data:=.seq (vs++Tb).toArray};refine⟨t,?_⟩;rw[R];exact⟨_,_,rfl,I.fresh,IS _ _,by rw[kW];lia,Rs.go (I.gd t.2) _ _ (rs.app Tc)⟩
 ·cases q
def Kb(ha:PE X true a f)(hb:PE X true b g):PE X m (.BinOp a .Add b pos) (d2 xQ f g):=o2 Of ha hb
def PO(X:Cx)(e:Option Expr)(f:En->Option (Option Int)):Prop:=∀B π Z ow s o,Inv X B π Z ow s->f Z=some o->ν (ο X.P X.w) X.A (evalPart e X.env) (λu s'=>Sx X B π Z ow s s'/\IsPart u o) nE s
def do_n:PO X none oN:=λB π Z ow s o I q=>by cases q;rw[evalPart_none];exact kO ⟨I.sx,.none⟩
def do_s(h:PE X true e f):PO X (some e) (oS f):=λB π Z ow s o I q=>by
 obtain⟨x,q1,q2⟩:=kA.mp q;rw[evalPart_some];refine ax (h B π Z ow s x I q1) λv s1 hw=>?_;obtain⟨t,r⟩:=hw
 cases x<;>cases q2
 obtain⟨tk,rfl⟩:=RT.int r;exact⟨t,.int _ tk⟩
theorem zbh(lo hi:Option Int)(n:Nat):(BT lo hi none n).1=((tL n 0 lo:Nat):Int)/\(BT lo hi none n).2.1=((tL n n hi:Nat):Int)/\(BT lo hi none n).2.2=1:=by
 refine⟨?_,?_,rfl⟩
 ·cases lo with
  |none=>simp[BT,tL]
  |some i=>
   simp only[BT,tL,Gc,show(1:Int)>0 by decide,if_true]
   by_cases h:i<0<;>simp only[h,if_true,if_false]<;>lia
 ·cases hi with
  |none=>simp[BT,tL]
  |some i=>
   simp only[BT,tL,Gc,show(1:Int)>0 by decide,if_true]
   by_cases h:i<0<;>simp only[h,if_true,if_false]<;>lia
def zcw(bE:List kL)(lo hi:Option Int):slicePick bE.toArray lo hi none=(xc bE lo hi).toArray:=by
 obtain⟨h1,h2,h3⟩:=zbh lo hi bE.toArray.size;unfold slicePick;rw[h1,h2,h3];simp only[sliceRange_one,pick_run,ph]<;>rfl
theorem Rs.drop{G:Gx}{O:AP}{h:Heap}:∀{ds vs}(n:Nat),Rs G O h ds vs->Rs G O h (ds.drop n) (vs.drop n)
 |ds,vs,0,r=>r
 |[],vs,n+1,r=>by rw[Rs] at r;subst r;exact .nil
 |d::ds,vs,n+1,r=>by rw[Rs] at r;obtain⟨_,r,rfl,_,q⟩:=r;exact q.drop n
theorem Rs.take{G:Gx}{O:AP}{h:Heap}:∀{ds vs}(n:Nat),Rs G O h ds vs->Rs G O h (ds.take n) (vs.take n)
 |ds,vs,0,r=>.nil
 |[],vs,n+1,r=>by rw[Rs] at r;subst r;exact .nil
 |d::ds,vs,n+1,r=>by rw[Rs] at r;obtain⟨_,r,rfl,x,q⟩:=r;exact .cons x (q.take n)
theorem Td{lo hi:Option Expr}{fl fh:En->Option (Option Int)}{p2:Pos}(he:PE X true e f)(hl:PO X lo fl)(hu:PO X hi fh):PF X (.Subscript e (.Slice lo hi none p2) pos) (dE f fl fh):=λB π Z ow s d I q=>by
 obtain⟨d0,q1,q⟩:=kA.mp q;obtain⟨l,q2,q⟩:=kA.mp q;obtain⟨u,q3,q⟩:=kA.mp q;obtain⟨ds,q4,q⟩:=kA.mp q
 cases q
 cases d0<;>cases q4
 refine Fj (ax (he B π Z ow s _ I q1) λv s1⟨t1,r1⟩=>wpAny_Slice (ax (hl B π Z ow s1 l t1.1 q2) λvl s2⟨t2,pl⟩=>ax (hu B π Z ow s2 u t2.1 q3) λvu s3 hw=>?_));obtain⟨t3,pu⟩:=hw;rw[evalPart_none];refine kO ?_;have t4:=t3.1.kept (t':=s3.toks) λb ob q=>kK {cls:=.type "slice",data:=.fields #[vl,vu,.none]} q;obtain⟨p,vs,n,rfl,e,lz,rs⟩:=(RT.st r1 t1.1 ((t2.trans t3).trans t4).2).lst;have il:(s3.heap.push {cls:=.type "slice",data:=.fields #[vl,vu,.none]}).IsList p vs.toArray:=⟨_,e,rfl,n,rfl⟩;show ν _ _ (Fb _ (.Slice lo hi none p2) (.ref p) (.ref s3.heap.objs.size)) _ _ _;refine tail_any (ops:=[.ref s3.heap.objs.size,.ref p]) il.typeIs DG.lookup (wpAny_getItem_list_slice il (Heap.IsSliceOf.new ..) pl pu .none (by simp) ?_ (by simpa using lz)) (by with_unfolding_all rfl)
 rw[zcw];have tt:=(t1.trans (t2.trans t3)).trans t4;obtain⟨t5,p,e,n,r⟩:=t4.1.lnew (t':=s3.toks) (n:=0) (us:=xc vs l u) (ds:=xc ds l u) (by unfold xc;rw[rs.len];exact(rs.drop _).take _) (by unfold xc;rw[pC,uF];lia) (λb o=>kK (L2.lo (xc vs l u) 0)) fu (kf _ rfl)
 exact⟨tt.trans t5,p,e,tt.2.free n,r⟩
theorem Og(e:tyD d=some T){v:kL}(r:RT X.toGx (X.O B ow) s.heap d v):s.TypeIs v T:=by
 cases d with
 |none=>cases e;have r:=r.elim _root_.id λ⟨_,_,z⟩=>z.elim;rw[R] at r;subst r;rfl
 |bool _=>cases e;rw[r.bl];rfl
 |int _=>cases e;obtain⟨t,rfl⟩:=r.int;exact typeIs_int s _ t
 |str _=>cases e;have r:=r.elim _root_.id λ⟨_,_,z⟩=>z.elim;rw[R] at r;obtain⟨t,rfl⟩:=r;exact typeIs_str s _ t
 |list _=>cases e;obtain⟨p,vs,n,rfl,e,_⟩:=r.lst;exact⟨_,e,rfl⟩
 |tuple _=>cases e;obtain⟨p,vs,rfl,_,⟨o,e,c,_⟩,_⟩:=r.tup;exact⟨o,e,c⟩
 |_=>cases e
structure Rq(T:String):Prop where
 ty:Hw (.type T)=pure (.type "type")
 sub:∀Tx∈["NoneType","bool","int","str","list","tuple"],BU (.type Tx) (.type T)=pure (xz Tx T)
 ne:∀Tx∈["NoneType","bool","int","str","list","tuple"],xz Tx T=false->(UR Tx==UR T)=false
theorem isi_mk(ty:Hw (.type T)=pure (.type "type"))(h1:BU (.type "NoneType") (.type T)=pure (xz "NoneType" T))(h2:BU (.type "bool") (.type T)=pure (xz "bool" T))(h3:BU (.type "int") (.type T)=pure (xz "int" T))(h4:BU (.type "str") (.type T)=pure (xz "str" T))(h5:BU (.type "list") (.type T)=pure (xz "list" T))(h6:BU (.type "tuple") (.type T)=pure (xz "tuple" T))
  (ne:∀Tx∈["NoneType","bool","int","str","list","tuple"],xz Tx T=false->(UR Tx==UR T)=false):Rq T:=⟨ty,λTx h=>by simp only[kg,QO,or_false] at h;rcases h with rfl|rfl|rfl|rfl|rfl|rfl<;>assumption,ne⟩
def isi_int:Rq "int":=by apply isi_mk<;>first|kernel_rfl|(rw[Ub];kernel_rfl)|decide+kernel
def isi_bool:Rq "bool":=by apply isi_mk<;>first|kernel_rfl|(rw[Ub];kernel_rfl)|decide+kernel
def isi_tuple:Rq "tuple":=by apply isi_mk<;>first|kernel_rfl|(rw[Ub];kernel_rfl)|decide+kernel
def isi_list:Rq "list":=by apply isi_mk<;>first|kernel_rfl|(rw[Ub];kernel_rfl)|decide+kernel
theorem Oh{y:Str}{p1:Pos}(h:Rq T)(hg:Gl X "isinstance")(hm:X.mg "isinstance"=none)(ha:PE X true a f)(tD:Gl X y)(dW:X.mg y=none)(hv:uw y=some (.type T))(n:NS a:=by intro _ _;rfl)(hn:y≠"__name__":=by decide)(tO:(y==("__debug__":Str))=false:=by decide):PE X m (.Call (.Name "isinstance" p) [a,.Name y p1] [] pos) (d1 (zW T) f):=λB π Z ow s d I q=>by
 obtain⟨x,q1,q⟩:=kA.mp q;obtain⟨Tx,q2,q⟩:=kA.mp q
 cases q;refine QI (xm I hg hm bt_isinstance ?_);refine AJ ?_ (n _ _) rfl;rw[n];refine uZ (ax (ha B π Z ow s x I q1) λv s1 hw=>?_);obtain⟨t,r⟩:=hw;show ν _ _ (spliced (Qh pos [(false,eval (.Name y p1) X.env)])) _ _ s1;refine uZ (xm t.1 tD dW hv (Qb ?_) hn tO);have ty:=Og q2 r;have tx:Tx∈["NoneType","bool","int","str","list","tuple"]:=by cases x<;>cases q2<;>simp
 have sb:=h.sub Tx tx
 cases eb:xz Tx T with
 |true=>rw[eb] at sb;exact call_isinstance_yes ty h.ty sb ⟨t,.of .bl⟩
 |false=>
  rw[eb] at sb;have ne:=h.ne Tx tx eb;have fin:Sx X B π Z ow s {s1 with toks:=s1.toks+1}/\RM m X.toGx (X.O B ow) s1.heap (.bool false) (.bool false):=⟨t.trans (t.1.tok _),.of .bl⟩
  cases x with
  |none=>cases q2;have r:=r.elim _root_.id λ⟨_,_,z⟩=>z.elim;rw[R] at r;subst r;exact Ac (isinstance_false_none ne h.ty sb) fin
  |bool _=>cases q2;rw[r.bl];exact Ac (isinstance_false_bool ne h.ty sb) fin
  |int _=>cases q2;obtain⟨t',rfl⟩:=RT.int r;exact Ac (isinstance_false_int ne h.ty sb) fin
  |str _=>cases q2;have r:=r.elim _root_.id λ⟨_,_,z⟩=>z.elim;rw[R] at r;obtain⟨t',rfl⟩:=r;exact Ac (isinstance_false_str ne h.ty sb) fin
  |list _=>cases q2;obtain⟨p,vs,n,rfl,e,_⟩:=RT.lst r;exact Ac (isinstance_false_list ne h.ty sb) ⟨ty,fin⟩
  |tuple _=>cases q2;obtain⟨p,vs,rfl,_⟩:=RT.tup r;exact Ac (isinstance_false_tuple ne h.ty sb) ⟨ty,fin⟩
  |_=>cases q2
end
variable{i:Nat}{bE xs ys:Array kL}
section
variable{prog:Qq}{w:World}{A:Qd}{E:kL->kR->Prop}{s:kR}
variable{R:kL->kR->Prop}
def Ja{c:Addr}{v:kL}(hi:s.heap.IsTupleIter c t i)(ht:s.heap.IsTuple t bE)(hv:bE[i]?=some v)
  (hR:∀g,g.IsTupleIter c t (i+1)->UQ c s.heap g->R v {s with heap:=g}):ν (ο prog w) A (Qg (.ref c)) R E s:=by
 obtain⟨o,ho,hc,hd⟩:=id hi;obtain⟨o2,Mq,_,n2,H5⟩:=ht;unfold Qg;refine kC (Qa (name:=QD "__next__") hi.typeIs Uc (Qy Uc hi.typeIs BX ?_ (BP _)));show ν _ _ (field (.ref c) 0>>=_) _ _ s;refine kC (UJ ho hd (x:=.ref t) rfl ?_);show ν _ _ (if(Ql t==UD)=true then _ else _) _ _ s;rw[η (show ¬((Ql t==UD)=true) from pF)];show ν _ _ (field (.ref c) 1>>=_) _ _ s;refine kC (UJ ho hd (x:=.int i 0) rfl ?_);show ν _ _ (Cc (.ref t)>>=_) _ _ s;refine kC (QQ Mq H5 ?_);simp only[QS,hv];refine kC (Bb ho hd (by simp) (kO ⟨v,rfl,kO (hR _ ⟨_,QJ _ ho (Ec (BQ hd _)),(GE ..).trans hc,?_⟩ (UE ..))⟩));rw[BQ hd];simp[AI]
def zb2{c:Addr}(hh:A.handled=none)(hi:s.heap.IsTupleIter c t i)(ht:s.heap.IsTuple t bE)(hv:bE[i]?=none)
  (hE:∀g e,Gy c s.heap g->(∃o,g.get? e=some o/\o.cls=.type "StopIteration")->E (.ref e) {s with heap:=g}):ν (ο prog w) A (Qg (.ref c)) R E s:=by
 obtain⟨o,ho,hc,hd⟩:=id hi;obtain⟨o2,Mq,_,n2,H5⟩:=ht;unfold Qg;refine kC (Qa (name:=QD "__next__") hi.typeIs Uc (Qy Uc hi.typeIs BX ?_ (BP _)));show ν _ _ (field (.ref c) 0>>=_) _ _ s;refine kC (UJ ho hd (x:=.ref t) rfl ?_);show ν _ _ (if(Ql t==UD)=true then _ else _) _ _ s;rw[η (show ¬((Ql t==UD)=true) from pF)];show ν _ _ (field (.ref c) 1>>=_) _ _ s;refine kC (UJ ho hd (x:=.int i 0) rfl ?_);show ν _ _ (Cc (.ref t)>>=_) _ _ s;refine kC (QQ Mq H5 ?_);simp only[QS,hv];refine kC (Ud (kC (Bb ho hd (by simp) ?_)));show ν _ _ (HY (.type "StopIteration") []>>=_) _ _ _
 refine kC ?_;simp only[HY,newTuple];refine kC (Ua ?_ (by size_fits))
 refine kC (m:=At _ _) (DM (a:=UD) (by first|rfl|(simp only[At];rfl)) ?_);refine Ua ?_ (by size_fits)
 simp only[raiseNew];refine kC (Fc ?_);first|rw[show A.in1.handled=none from hh]|rw[hh]
 refine kC (kO (Gz ?_));exact hE _ _ (((UE ..).extBut.push _).push _) ⟨_,kf _ rfl,rfl⟩
variable{R:Option kL->kR->Prop}
def zbg{z p i1 i2 l1 l2:Addr}{k1 k2:Nat}{x y a b:kL}(D:ZipApart z p q i1 i2 l1 l2)(hz:IsZip s.heap z p q .none)(hp:AK s.heap p (.ref i1) (.ref i2))(hq:AK s.heap q a b)
  (h1:s.heap.IsTupleIter i1 l1 k1)(h2:s.heap.IsTupleIter i2 l2 k2)(t1:s.heap.IsTuple l1 xs)(t2:s.heap.IsTuple l2 ys)(hx:xs[k1]?=some x)(hy:ys[k2]?=some y)
  (hR:∀g,IsZip g z p q (AI s.heap.objs.size)->AK g q x y->g.IsTupleIter i1 l1 (k1+1)->g.IsTupleIter i2 l2 (k2+1)->AK g s.heap.objs.size x y->g.objs.size=s.heap.objs.size+1->
   (∀c o,c≠z->c≠q->c≠i1->c≠i2->s.heap.get? c=some o->g.get? c=some o)->R (some (.ref s.heap.objs.size)) {s with heap:=g}):ν (ο prog w) A (BB (.ref z)) R E s:=by
 have hT:s.TypeIs (.ref z) "zip":=⟨_,hz,rfl⟩;unfold BB;refine kC (AC (Qa (name:=QD "__next__") hT Af (Qy Af hT EO ?_ (Dm _))));show ν _ _ (field (.ref z) 2>>=_) _ _ s;refine kC (UJ hz rfl (x:=.bool false) rfl ?_);show ν _ _ (field (.ref z) 3>>=_) _ _ s;refine kC (UJ hz rfl (x:=.ref p) rfl (kC (QQ hp rfl ?_)));show ν _ _ (UN (.ref z)>>=_) _ _ s;refine kC ?_;unfold UN;refine kC (UJ hz rfl (x:=.none) rfl (kO ?_));simp only[if_true];refine kC (Ud (kC (UJ hz rfl (x:=.ref q) rfl (kC (AT hz (by simp) λg1 z1 b1=>?_)))))
 replace z1:IsZip g1 z p q .ellipsis:=z1
 refine kC ?_;simp only[Do,HG,CS,Es];refine kC (kC (Fe ?_));show ν _ _ (Qg (.ref i1)>>=_) _ _ _;refine kC (Ja (h1.extBut b1.extBut D.i1z) (t1.extBut b1.extBut D.l1z) hx λg2 j1 b2=>kO ?_);have q2:AK g2 q a b:=b2.extBut _ _ D.TOi1 (b1.extBut _ _ D.TOz hq);refine kC (QQ q2 rfl (kC (Et q2 λg3 q3 b3=>?_)));replace q3:AK g3 q x b:=q3;refine kC (AN (kO (kC (kC (Fe ?_)))));show ν _ _ (Qg (.ref i2)>>=_) _ _ _;refine kC (Ja (((h2.extBut b1.extBut D.i2z).extBut b2.extBut D.i12.symm).extBut b3.extBut D.TOi2.symm) (((t2.extBut b1.extBut D.l2z).extBut b2.extBut D.l2i1).extBut b3.extBut D.l2TO) hy λg4 j2 b4=>kO ?_);have q4:AK g4 q x b:=b4.extBut _ _ D.TOi2 q3;refine kC (QQ q4 rfl (kC (Et q4 λg5 q5 b5=>?_)));replace q5:AK g5 q x y:=q5;refine kC (AN (kO (kO (kC (QQ q5 rfl (kC (wpAny_newTuple ?_)))))));have sz:g5.objs.size=s.heap.objs.size:=by rw[b5.1,b4.1,b3.1,b2.1,b1.1]
 have z5:IsZip g5 z p q .ellipsis:=b5.extBut _ _ D.TOz.symm (b4.extBut _ _ D.i2z.symm (b3.extBut _ _ D.TOz.symm (b2.extBut _ _ D.i1z.symm z1)));have k5:∀c o,c≠z->c≠q->c≠i1->c≠i2->s.heap.get? c=some o->g5.get? c=some o:=λc o c1 c2 c3 c4 e=>b5.extBut _ _ c2 (b4.extBut _ _ c4 (b3.extBut _ _ c2 (b2.extBut _ _ c3 (b1.extBut _ _ c1 e))));have u1:g5.IsTupleIter i1 l1 (k1+1):=((j1.extBut b3.extBut D.TOi1.symm).extBut b4.extBut D.i12).extBut b5.extBut D.TOi1.symm;have u2:g5.IsTupleIter i2 l2 (k2+1):=j2.extBut b5.extBut D.TOi2.symm;have zl:z<g5.objs.size:=uU z5;show ν _ _ (BC (.ref z) (.ref g5.objs.size)>>=_) _ _ _;refine kC ?_;unfold BC;have z6:IsZip (g5.push {cls:=.type "tuple",data:=.seq #[x,y]}) z p q .ellipsis:=kK _ z5;refine kC (AT z6 (by simp) λg7 z7 b7=>?_);replace z7:IsZip g7 z p q (AI g5.objs.size):=z7
 refine AT z7 (by simp) λg8 z8 b8=>?_;replace z8:IsZip g8 z p q (AI g5.objs.size):=z8
 have up:∀c o,c≠z->g5.get? c=some o->g8.get? c=some o:=λc o c1 e=>b8.extBut _ _ c1 (b7.extBut _ _ c1 (kK _ e));have w8:AK g8 g5.objs.size x y:=b8.extBut _ _ (Bc zl) (b7.extBut _ _ (Bc zl) (kf _ rfl));have s8:g8.objs.size=g5.objs.size+1:=by rw[b8.1,b7.1,gQ]
 rw[sz] at z8 w8 s8;refine kO ⟨_,rfl,kO ?_⟩;show R (some (.ref g5.objs.size)) _;rw[sz];exact hR g8 z8 (up _ _ D.TOz q5) (u1.at λo e=>up _ o D.i1z e) (u2.at λo e=>up _ o D.i2z e) w8 s8 λc o c1 c2 c3 c4 e=>up c o c1 (k5 c o c1 c2 c3 c4 e)
def zaw{z p i1 i2 l1 l2:Addr}{k1:Nat}{a b:kL}(hh:A.handled=none)(D:ZipApart z p q i1 i2 l1 l2)(hz:IsZip s.heap z p q .none)(hp:AK s.heap p (.ref i1) (.ref i2))(hq:AK s.heap q a b)
  (h1:s.heap.IsTupleIter i1 l1 k1)(t1:s.heap.IsTuple l1 xs)(hx:xs[k1]?=none)
  (hR:∀g,(∀c o,c≠z->c≠q->c≠i1->c≠i2->s.heap.get? c=some o->g.get? c=some o)->R none {s with heap:=g}):ν (ο prog w) A (BB (.ref z)) R E s:=by
 have hT:s.TypeIs (.ref z) "zip":=⟨_,hz,rfl⟩;unfold BB;refine kC (AC (Qa (name:=QD "__next__") hT Af (Qy Af hT EO ?_ (Dm _))));show ν _ _ (field (.ref z) 2>>=_) _ _ s;refine kC (UJ hz rfl (x:=.bool false) rfl ?_);show ν _ _ (field (.ref z) 3>>=_) _ _ s;refine kC (UJ hz rfl (x:=.ref p) rfl (kC (QQ hp rfl ?_)));show ν _ _ (UN (.ref z)>>=_) _ _ s;refine kC ?_;unfold UN;refine kC (UJ hz rfl (x:=.none) rfl (kO ?_));simp only[if_true];refine kC (Ud (kC (UJ hz rfl (x:=.ref q) rfl (kC (AT hz (by simp) λg1 z1 b1=>?_)))))
 replace z1:IsZip g1 z p q .ellipsis:=z1
 refine kC ?_;simp only[Do,HG,CS,Es];refine kC (kC (Fe ?_));show ν _ _ (Qg (.ref i1)>>=_) _ _ _
 refine kC (zb2 (by first|exact hh|(show A.in1.handled=none;exact hh)) (h1.extBut b1.extBut D.i1z) (t1.extBut b1.extBut D.l1z) hx λg2 e b2 he=>?_)
 obtain⟨oe,hoe,ce⟩:=he;have z2:IsZip g2 z p q .ellipsis:=b2 _ _ D.i1z.symm z1;have ez:e≠z:=λy=>by subst y;rw[z2] at hoe;cases hoe;simp at ce
 refine AT z2 (by simp) λg3 _ b3=>kC (gP (T:="StopIteration") (b:=true) ⟨oe,b3.extBut _ _ ez hoe,ce⟩ Eu (kO (hR g3 λc o c1 _ c3 _ y=>b3.extBut _ _ c1 (b2 _ _ c3 (b1.extBut _ _ c1 y)))))
end
section
noncomputable def Rr(h:Heap)(l:Addr):Heap:=h.push {cls:=.type "tuple_iterator",data:=.fields #[.ref l,.int 0 0]}
noncomputable def Oi(h:Heap)(l m:Addr):Heap:=(Rr h l).push {cls:=.type "tuple_iterator",data:=.fields #[.ref m,.int 0 0]}
noncomputable def Oj(h:Heap)(l m:Addr):Heap:=(Oi h l m).push {cls:=.type "tuple",data:=.seq #[.ref h.objs.size,.ref (Rr h l).objs.size]}
noncomputable def Rt(h:Heap)(l m:Addr):Heap:=(Oj h l m).push {cls:=.type "tuple",data:=.seq #[.none,.none]}
noncomputable def H6(h:Heap)(l m:Addr):Heap:=(Rt h l m).push {cls:=.type "zip",data:=.fields #[.none,.bool false,.bool false,.ref (Oi h l m).objs.size,.ref (Oj h l m).objs.size]}
def zb4(l m:Addr)(xs ys:Array kL):Meets (Am.«zip.__new__» ⟨[.type "zip",.ref l,.ref m],[]⟩) (λ_ R s=>s.heap.IsTuple l xs/\s.heap.IsTuple m ys/\R (.ok (.ret (.ref (Rt s.heap l m).objs.size))) {s with heap:=H6 s.heap l m}):=
 .of_wp λprog w A R s h=>by
  obtain⟨hp,g,d,tk,os⟩:=s;obtain⟨hl1,Mi,h⟩:=h;have Te:=sub_zip;have L1:Hx (IH ⟨hp,g,d,tk,os⟩) l xs:=hl1;have L2:Hx (IH ⟨hp.push {cls:=.type "tuple_iterator",data:=.fields #[.ref l,.int 0 0]},g,d,tk,os⟩) m ys:=Heap.IsTuple.push Mi _
  wp_walk using Cf L1,Cf L2
  exact⟨_,rfl,h⟩
end
section
variable{prog:Qq}{w:World}{A:Qd}{E:kL->kR->Prop}{s:kR}
def zbt{l m:Addr}{R:kL->kR->Prop}(t1:s.heap.IsTuple l xs)(t2:s.heap.IsTuple m ys)
  (h:∀g,IsZip g (s.heap.objs.size+4) (s.heap.objs.size+2) (s.heap.objs.size+3) .none->AK g (s.heap.objs.size+2) (.ref s.heap.objs.size) (.ref (s.heap.objs.size+1))->AK g (s.heap.objs.size+3) .none .none->
   g.IsTupleIter s.heap.objs.size l 0->g.IsTupleIter (s.heap.objs.size+1) m 0->(∀c o,s.heap.get? c=some o->g.get? c=some o)->R (.ref (s.heap.objs.size+4)) {s with heap:=g}):ν (ο prog w) A (call (.type "zip") [.ref l,.ref m]) R E s:=by
 refine callType_new PySem.F.called_zip (by decide) (PySem.F.typeCall_zip_2 _ _) (PySem.F.newCall_zip_2 _ _) (λA5=>PySem.F.args_object_init_3 A5 _ _) PySem.F.entry_zip_new (zb4 l m xs ys) ⟨t1,t2,?_⟩
 have s1:(Rr s.heap l).objs.size=s.heap.objs.size+1:=gQ ..;have s2:(Oi s.heap l m).objs.size=s.heap.objs.size+2:=by unfold Oi;rw[gQ,s1]
 have s3:(Oj s.heap l m).objs.size=s.heap.objs.size+3:=by unfold Oj;rw[gQ,s2]
 have s4:(Rt s.heap l m).objs.size=s.heap.objs.size+4:=by unfold Rt;rw[gQ,s3]
 have up:∀{c o},(Rt s.heap l m).get? c=some o->(H6 s.heap l m).get? c=some o:=λe=>kK _ e;have Ol:∀{c o},(Oj s.heap l m).get? c=some o->(H6 s.heap l m).get? c=some o:=λe=>up (kK _ e);have D7:∀{c o},(Oi s.heap l m).get? c=some o->(H6 s.heap l m).get? c=some o:=λe=>Ol (kK _ e);have up1:∀{c o},(Rr s.heap l).get? c=some o->(H6 s.heap l m).get? c=some o:=λe=>D7 (kK _ e);have e5:(H6 s.heap l m).get? (Rt s.heap l m).objs.size=some {cls:=.type "zip",data:=.fields #[.none,.bool false,.bool false,.ref (Oi s.heap l m).objs.size,.ref (Oj s.heap l m).objs.size]}:=kf _ rfl;have e4:(H6 s.heap l m).get? (Oj s.heap l m).objs.size=some {cls:=.type "tuple",data:=.seq #[.none,.none]}:=up (kf _ rfl);have e3:(H6 s.heap l m).get? (Oi s.heap l m).objs.size=some {cls:=.type "tuple",data:=.seq #[.ref s.heap.objs.size,.ref (Rr s.heap l).objs.size]}:=Ol (kf _ rfl);have e2:(H6 s.heap l m).get? (Rr s.heap l).objs.size=some {cls:=.type "tuple_iterator",data:=.fields #[.ref m,.int 0 0]}:=D7 (kf _ rfl);have e1:(H6 s.heap l m).get? s.heap.objs.size=some {cls:=.type "tuple_iterator",data:=.fields #[.ref l,.int 0 0]}:=up1 (kf _ rfl);show _/\_;rw[s2,s3,s4] at e5;rw[s1,s2] at e3;rw[s3] at e4;rw[s1] at e2;rw[s4];exact⟨⟨_,e5,rfl⟩,h _ e5 e3 e4 ⟨_,e1,rfl,rfl⟩ ⟨_,e2,rfl,rfl⟩ λc o x=>up1 (kK _ x)⟩
end
section
variable{prog:Qq}{w:World}{A:Qd}{R:Fl->kR->Prop}{I:Addr}{fp wr:List Addr}{n:Nat}{P:Nat->kL->Prop}{St:Nat->Heap->Prop}
theorem Kc(W:Walks prog w A.in1 I fp wr n P St)(bt:Nat->Nat->Bool)(hc:CmpOf prog w A.in1 .Gt P bt)(S:Addr)(nS:S∉fp)(kw:List (Str×kL)):∀(k j:Nat)(s:kR)(vb:kL)(c:Nat),n-(j+1)=k->j+1<=n->St (j+1) s.heap->P (BL bt j) vb->
  s.heap.get? S=some {cls:=.type "list",dict:=none,data:=.seq #[vb,vb] c,slots:=#[]}->(∀v h' tk,P (BL bt (n-1)) v->(∀b o,b∉wr->b≠S->s.heap.get? b=some o->h'.get? b=some o)->R (.ok (.ret v)) {s with heap:=h',toks:=tk})->
  Ak (ο prog w) A (.builtin "max.loop" ⟨[.ref I,.none,.ref S],kw⟩) R s:=by
 have nw:S∉wr:=λz=>nS (W.sub _ z);have nm:(Ev "max"++Ev ".loop":String)="max.loop":=by decide
 intro k
 induction k with
 |zero=>
  intro j s vb c hk hj st hb oS q;have ej:j+1=n:=by omega
  refine Un Bd ?_;rw[UU Qz _];refine kC (m:=Cc (.ref S)) (QQ oS rfl (kC (Be (W.done s _ _ (ej▸st) λh' tk kp=>?_))));refine kC (gG (kp S _ nw oS) rfl (kC (AN (kO ?_))));exact q vb _ tk (by rw[<-ej];exact hb) λb o b1 b2 e=>(uH _ _ (gB b2)).trans (kp b o b1 e)
 |succ k ih=>
  intro j s vb c hk hj st hb oS q;refine Un Bd ?_;rw[UU Qz _];refine kC (m:=Cc (.ref S)) (QQ oS rfl (kC (Be (W.item (j+1) s _ _ (by omega) st λv h' tk hP aH kp=>?_))))
  have oS':=kp S _ nw oS;refine kC (kO ?_);refine kC (m:=tryCatch (holding [v,v] (HA CmpOp.Gt v vb>>=_)) _) (Be (AD (kC (hc (j+1) (BL bt j) v vb _ _ _ hP hb (kC (AD (UG (kC (AN (kO ?_))))))))))
  cases bb:bt (j+1) (BL bt j) with
  |true=>
   simp only[if_true];refine kC (gG oS' rfl (kC (AN ?_)));rw[nm];refine kO ⟨gO Qz _,ih (j+1) _ v _ (by omega) (by omega) (W.frame _ _ _ aH λb hf o e=>(uH _ _ (λz:S=b=>nS (by rw[z];exact hf))).trans e) (by simp only[BL,bb,if_true];exact hP) (QJ _ oS' rfl) λv' Tf D8 Kd Tg=>?_⟩
   exact q v' Tf D8 Kd λb o b1 b2 e=>Tg b o b1 b2 ((uH _ _ (gB b2)).trans (kp b o b1 e))
  |false=>
   simp only[uk,if_false];refine kC (AN ?_);rw[nm];exact kO ⟨gO Qz _,ih (j+1) _ vb c (by omega) (by omega) aH (by simp only[BL,bb,uk,if_false];exact hb) oS' λv' Tf D8 Kd Tg=>q v' Tf D8 Kd λb o b1 b2 e=>Tg b o b1 b2 (kp b o b1 e)⟩
theorem zbo(W:Walks prog w A.in1 I fp wr n P St)(bt:Nat->Nat->Bool)(hc:CmpOf prog w A.in1 .Gt P bt)(S:Addr)(nS:S∉fp){k:Str}{d:kL}{s:kR}{c:Nat}(st:St 0 s.heap)
  (oS:s.heap.get? S=some {cls:=.type "list",dict:=none,data:=.seq #[] c,slots:=#[]})
  (q:∀v h' tk,((0<n/\P (BL bt (n-1)) v)\/(n=0/\v=d))->(∀b o,b∉wr->b≠S->s.heap.get? b=some o->h'.get? b=some o)->R (.ok (.ret v)) {s with heap:=h',toks:=tk}):
  Ak (ο prog w) A (.builtin "max.loop" ⟨[.ref I,.none,.ref S],[(k,d)]⟩) R s:=by
 have nw:S∉wr:=λz=>nS (W.sub _ z);have nm:(Ev "max"++Ev ".loop":String)="max.loop":=by decide
 refine Un Bd ?_;rw[UU Qz _]
 by_cases h0:n=0
 ·subst h0;refine kC (m:=Cc (.ref S)) (QQ oS rfl (kC (Be (W.done s _ _ st λh' tk kp=>?_))));exact kC (Ud (kO (q d h' tk (.inr ⟨rfl,rfl⟩) λb o b1 _ e=>kp b o b1 e)))
 ·refine kC (m:=Cc (.ref S)) (QQ oS rfl (kC (Be (W.item 0 s _ _ (by lia) st λv h' tk hP aH kp=>?_))))
  refine kC (kO ?_);refine kC (gG (kp S _ nw oS) rfl ?_);rw[nm];refine kO ⟨gO Qz _,Kc W bt hc S nS _ _ 0 _ v _ rfl (by lia) (W.frame _ _ _ aH λb hf o e=>(uH _ _ (λz:S=b=>nS (by rw[z];exact hf))).trans e) hP (QJ _ (kp S _ nw oS) rfl) λv' Tf D8 Kd Tg=>?_⟩
  exact q v' Tf D8 (.inl ⟨by lia,Kd⟩) λb o b1 b2 e=>Tg b o b1 b2 ((uH _ _ (gB b2)).trans (kp b o b1 e))
end
section
def zdu(a v:kL):HZ "max" ⟨[a],[(QD "default",v)]⟩:=by unfold HZ;kernel_rfl
theorem ZJ(val:Nat->Int):∀k,BL (λi j=>decide (val i>val j)) k<=k/\∀i,i<=k->val i<=val (BL (λi j=>decide (val i>val j)) k)
 |0=>⟨pI _,λi hi=>by rw[Nat.le_zero.mp hi];exact gq _⟩
 |k+1=>by
  obtain⟨h1,h2⟩:=ZJ val k;unfold BL
  by_cases c:val (k+1)>val (BL (λi j=>decide (val i>val j)) k)
  ·rw[θ (ζ c)];refine⟨pI _,λi hi=>?_⟩
   by_cases e:i=k+1
   ·rw[e];exact gq _
   ·have:=h2 i (by lia)
    lia
  ·rw[η (by rw[ι c];decide)]
   refine⟨by lia,λi hi=>?_⟩
   by_cases e:i=k+1
   ·rw[e];lia
   ·exact h2 i (by lia)
end
variable{od:Obj}{d:Addr}{es:Array BV}{ep:Nat}
section
variable{prog:Qq}{w:World}{A:Qd}{E:kL->kR->Prop}{s:kR}
def VG(hd:(d==gE)=false)(ho:s.heap.get? d=some od)(hc:od.cls=.type "dict")(bU:od.data=.dict es ep)
  (q:Q (.ref s.heap.objs.size) {s with heap:=s.heap.push {cls:=.type "dict_keyiterator",data:=.fields #[.ref d,.int 0 0,.int es.size 0,.int ep 0]}}):ν (ο prog w) A (HW (.ref d)) Q E s:=by
 have ty:s.TypeIs (.ref d) "dict":=⟨od,ho,hc⟩;refine GF ty EP (Qy EP ty PySem.F.entry_dict_iter ?_ (PySem.F.args_dict_iter_1 _));unfold Am.«dict.__iter__»;refine kC ?_;unfold Builtin.Dict.dictSlotNone;refine kC (Ed ty (kO ?_));refine kC (m:=Ee d) ?_;unfold Ee;rw[η (by rw[hd];decide)]
 refine kO (kC (Bf ho bU (kC (EY ho bU (kC (Ua (kO ⟨_,rfl,"dict_keyiterator",_,⟨_,kf _ rfl,rfl⟩,PySem.F.slot_dict_keyiterator_next.lookup,?_⟩)))))))
 simpa[AI] using q
variable{Q:Option kL->kR->Prop}
theorem V4{it:Addr}(cN:s.heap.IsKeyIter it d i es.size ep)(ho:s.heap.get? d=some od)(bU:od.data=.dict es ep)(hi:i<es.size)
  (q:∀h',h'.IsKeyIter it d (i+1) es.size ep->UQ it s.heap h'->Q (some es[i].key) {s with heap:=h'}):ν (ο prog w) A (BB (.ref it)) Q E s:=by
 obtain⟨o,Mr,hci,Ke⟩:=id cN;have own:CT "dict_keyiterator"=false:=by decide
 unfold BB;refine kC (AC (Qa (name:=QD "__next__") cN.typeIs US (Qy US cN.typeIs BJ (kC (kO (kC (kC ?_)))) (BD _))))
 first|refine kC (hW cN.typeIs (kO (kC (Cn Mr Ke ?_))))|refine kC (AE cN.typeIs (kO (kC (Cn Mr Ke ?_))))
 simp only[own,uk,if_false];show ν _ _ (if(Ql d==UD)=true then _ else _) _ _ s;have nv:¬((Ql d==UD)=true):=pF;rw[η nv];refine kC (kO (kC (Bf ho bU ?_)));rw[η (by simp)]
 refine kC (kO (kC (EY ho bU ?_)));rw[η (by simp)]
 refine kO ?_;simp only[show ¬((i:Int)<0) from by lia,if_false,QS,uG hi]
 refine kC ?_
 first|refine kC (hW cN.typeIs (kO (kC (Bx cN.typeIs ?_))))|refine kC (AE cN.typeIs (kO (kC (Bx cN.typeIs ?_))))
 refine kC (m:=setField (.ref it) 1 (AI ((i:Int)+1))) (Bb Mr Ke (by simp) ?_)
 have st:(s.heap.update it (Ff (·.setIfInBounds 1 (AI ((i:Int)+1))))).IsKeyIter it d (i+1) es.size ep:=⟨_,QJ _ Mr (Ec (BQ Ke _)),(GE ..).trans hci,by rw[BQ Ke];simp[AI]⟩
 refine kC (AD (kC (Bx (s:={s with heap:=s.heap.update it (Ff (·.setIfInBounds 1 (AI ((i:Int)+1))))}) st.typeIs ?_)));exact kO (kO ⟨_,rfl,kO (q _ st (UE ..))⟩)
theorem Jv{it:Addr}(hh:A.handled=none)(cN:s.heap.IsKeyIter it d i es.size ep)(ho:s.heap.get? d=some od)(bU:od.data=.dict es ep)(hi:es.size<=i)
  (q:∀h',Gy it s.heap h'->Q none {s with heap:=h'}):ν (ο prog w) A (BB (.ref it)) Q E s:=by
 obtain⟨o,Mr,hci,Ke⟩:=id cN;have own:CT "dict_keyiterator"=false:=by decide
 unfold BB;refine kC (AC (Qa (name:=QD "__next__") cN.typeIs US (Qy US cN.typeIs BJ (kC (kO (kC (kC ?_)))) (BD _))))
 first|refine kC (hW cN.typeIs (kO (kC (Cn Mr Ke ?_))))|refine kC (AE cN.typeIs (kO (kC (Cn Mr Ke ?_))))
 simp only[own,uk,if_false];show ν _ _ (if(Ql d==UD)=true then _ else _) _ _ s;have nv:¬((Ql d==UD)=true):=pF;rw[η nv];refine kC (kO (kC (Bf ho bU ?_)));rw[η (by simp)]
 refine kC (kO (kC (EY ho bU ?_)));rw[η (by simp)]
 refine kO ?_;simp only[show ¬((i:Int)<0) from by lia,if_false,QS,AU hi]
 refine kC ?_
 first|refine kC (hW cN.typeIs (kO ?_))|refine kC (AE cN.typeIs (kO ?_))
 refine kC (m:=setField (.ref it) 0 .none) (Bb Mr Ke (by simp) ?_)
 refine kC (m:=HY (.type "StopIteration") []) ?_;simp only[HY,newTuple]
 refine kC (Ua (kC (m:=At _ _) (DM (a:=UD) (by first|rfl|(simp only[At];rfl)) (Ua ?_ (by size_fits)))) (by size_fits))
 simp only[raiseNew];refine kC (Fc ?_);rw[show A.in1.handled=none from hh];refine kC (kO (Gz ?_));refine kC (gP (T:="StopIteration") (b:=true) ⟨_,kf _ rfl,rfl⟩ Eu (kO ?_));exact q _ (((UE ..).extBut.push _).push _)
end
section
variable{prog:Qq}{w:World}{A:Qd}{E:kL->kR->Prop}{s:kR}{R:Fl->kR->Prop}
def zbk(hh:A.handled=none)(I d:Addr)(Ru:d≠I)(bU:od.data=.dict es ep):
  Walks prog w A I [I,d] [I] es.size (λi v=>∃e,es[i]?=some e/\v=e.key) (λi h=>h.IsKeyIter I d i es.size ep/\h.get? d=some od) where
 sub:=λb hb=>by simp at hb;simp[hb]
 frame:=λ_ _ _ st hk=>⟨st.1.at λo e=>hk I (by simp) o e,hk d (by simp) _ st.2⟩
 item:=λi s Q E hi st hQ=>by
  refine V4 st.1 st.2 bU hi λh' Om On=>?_;exact hQ _ h' s.toks ⟨_,uG hi,rfl⟩ ⟨Om,On.extBut d od Ru st.2⟩ λb o hb e=>On.extBut b o (λh=>hb (by simp[h])) e
 done:=λs Q E st hQ=>Jv hh st.1 st.2 bU (pI _) λh' A6=>hQ h' s.toks λb o hb e=>A6 b o (λh=>hb (by simp[h])) e
 self:=λ_ _ _ _ st hQ=>Ew st.1 hQ
def zau(hh:A.handled=none)(hd:(d==gE)=false)(ho:s.heap.get? d=some od)(hc:od.cls=.type "dict")(bU:od.data=.dict es ep)(S:Addr)(res:kL)(Oo:Nat)(hS:s.heap.get? S=some {cls:=.type "list",data:=.seq #[] Oo})
  (hR:∀h' tk aT c',(∀b o,b≠S->s.heap.get? b=some o->h'.get? b=some o)->h'.get? S=some {cls:=.type "list",dict:=none,data:=.seq aT c',slots:=#[]}->
   GG (λi v=>∃e,es[i]?=some e/\v=e.key) aT es.size->R (.ok (.ret res)) {s with heap:=h',toks:=tk}) (hn:es.size<=μ):
  ν (ο prog w) A.in1 (uj (.ref S) (.ref d) res)
   (λfin s'=>match fin with|.done f=>R (.ok f) s'|.again c'=>c'.quiet=true/\Ak (ο prog w) A c' R s') (λe s'=>R (.error e) s') s:=by
 have Th:S≠d:=λe=>by rw[e,ho] at hS;cases hS;cases bU
 have hSI:S≠s.heap.objs.size:=QC (uU hS);have hdI:d≠s.heap.objs.size:=QC (uU ho);have hSf:S∉[s.heap.objs.size,d]:=λhm=>(kg.mp hm).elim hSI λz=>Th (ki.mp z);have ty:s.TypeIs (.ref d) "dict":=⟨od,ho,hc⟩;unfold uj;refine kC (GH ty ?_);have h1:AF (.ref S) (.ref d)=false:=by simp[AF,Th]
 have h2:(UR "dict"==UR "list")=false:=by decide
 have h3:(UR "dict"==UR "tuple")=false:=by decide
 simp only[h1,h2,h3,Fg,uk,if_false];refine kC (VG hd ho hc bU ?_);generalize cN:s.heap.push {cls:=.type "dict_keyiterator",data:=.fields #[.ref d,.int 0 0,.int es.size 0,.int ep 0]}=h1;have k1:∀b o,s.heap.get? b=some o->h1.get? b=some o:=λb o e=>by rw[<-cN];exact kK _ e
 have st1:h1.IsKeyIter s.heap.objs.size d 0 es.size ep:=by rw[<-cN];exact⟨_,kf _ rfl,rfl,rfl⟩
 have ty1:Hj {s with heap:=h1} (.ref d) "dict":=⟨od,k1 _ _ ho,hc⟩;refine kC (AD ?_);unfold CY;refine kC (BK ty1 PySem.F.slot_dict_len.lookup ?_)
 wp_delta
 refine kC (gP ty1 (b:=true) (by rw[Ub];kernel_rfl) ?_)
 show ν _ _ (Hw (Ql d)>>=_) _ _ _
 refine kC (GH ty1 ?_);refine kO ?_;rw[θ (by decide)]
 refine kC (Ud ?_);refine kC ?_;show ν _ _ (Ge S (·.push .none)>>=λ_=>Ge S (·.pop)) _ _ _;have Ms:=k1 _ _ hS;refine kC (gG Ms rfl ?_);have fD:=QJ (pW (·.push UD)) Ms rfl;refine gG (hz:=by seq_fits) fD rfl ?_
 have Ti:=QJ (pW (·.pop)) fD rfl;have dF:∀b o,b≠S->h1.get? b=some o->((h1.update S (pW (·.push UD))).update S (pW (·.pop))).get? b=some o:=
  λb o hb e=>(uH _ _ (gB hb)).trans ((uH _ _ (gB hb)).trans e)
 refine kO ⟨gO DA _,Ex (zbk (A:=A.in1) hh s.heap.objs.size d hdI bU).toS hn _ hSf _ es.size 0 _ _ _ rfl (QB _) ⟨st1.at λo e=>dF _ o (gB hSI) e,dF _ _ (gB Th) (k1 _ _ ho)⟩ Ti (II _) λs' aT c' hm sL cA=>?_⟩;rw[Hk hm];refine hR s'.heap s'.toks aT c' (λb ob hb e=>hm.heap b ob (λtQ=>?_) (dF b ob hb (k1 _ _ e))) sL cA;rcases kg.mp tQ with e'|tQ
 ·exact hb e'
 ·exact absurd (uU e) (by rw[ki.mp tQ];exact Nat.lt_irrefl _)
def zc5(hh:A.handled=none)(hd:(d==gE)=false)(ho:s.heap.get? d=some od)(hc:od.cls=.type "dict")(bU:od.data=.dict es ep)(S:Addr)(hS:s.heap.get? S=some {cls:=.type "list",data:=.seq #[]})
  (hR:∀h' tk aT c',(∀b o,b≠S->s.heap.get? b=some o->h'.get? b=some o)->h'.get? S=some {cls:=.type "list",dict:=none,data:=.seq aT c',slots:=#[]}->
   GG (λi v=>∃e,es[i]?=some e/\v=e.key) aT es.size->R (.ok (.ret .none)) {s with heap:=h',toks:=tk}) (hn:es.size<=μ):
  ν (ο prog w) A.in1 (Am.«list.__init__» ⟨[.ref S,.ref d],[]⟩)
   (λfin s'=>match fin with|.done f=>R (.ok f) s'|.again c'=>c'.quiet=true/\Ak (ο prog w) A c' R s') (λe s'=>R (.error e) s') s:=by
 have Th:S≠d:=λe=>by rw[e,ho] at hS;cases hS;cases bU
 show ν _ _ (do let C0 <-AV (.ref S);Dp (.ref S) (λ_=>#[]);letGo C0.toList.reverse;uj (.ref S) (.ref d) .none) _ _ s
 refine kC ?_;unfold AV;refine kC (QQ hS rfl (kO ?_));show ν _ _ (Ge S (λ_=>#[])>>=λ_=>letGo (#[]:Array kL).toList.reverse>>=λ_=>uj (.ref S) (.ref d) .none) _ _ s;refine kC (gG hS rfl ?_);have fD:=QJ (pW (λ_=>(#[]:Array kL))) hS rfl;have dF:∀b o,b≠S->s.heap.get? b=some o->(s.heap.update S (pW (λ_=>(#[]:Array kL)))).get? b=some o:=
  λb o hb e=>(uH _ _ (gB hb)).trans e
 refine kC (AN ?_);refine zau hh hd (dF d _ (gB Th) ho) hc bU S .none _ fD (λh' tk aT c' hk sL cA=>?_) hn;exact hR h' tk aT c' (λb o hb e=>hk b o hb (dF b o hb e)) sL cA
def zde(hh:A.handled=none)(hd:(d==gE)=false)(ho:s.heap.get? d=some od)(hc:od.cls=.type "dict")(bU:od.data=.dict es ep)
  (hQ:∀h' tk aT c',(∀b o,s.heap.get? b=some o->h'.get? b=some o)->h'.get? s.heap.objs.size=some {cls:=.type "list",dict:=none,data:=.seq aT c',slots:=#[]}->
   GG (λi v=>∃e,es[i]?=some e/\v=e.key) aT es.size->Q (.ref s.heap.objs.size) {s with heap:=h',toks:=tk}) (hn:es.size<=μ):
  ν (ο prog w) A (call (.type "list") [.ref d]) Q E s:=by
 refine callType_codes (Q₁:=λA5 aU=>A5=.ref s.heap.objs.size/\aU={s with heap:=s.heap.push {cls:=.type "list",data:=.seq #[]}}) FU (Dq _) Ds
  (code_list_new _ ⟨rfl,rfl⟩) λA5 aU aV=>?_
 obtain⟨rfl,rfl⟩:=aV;have hS:(s.heap.push {cls:=.type "list",data:=.seq #[]}).get? s.heap.objs.size=some {cls:=.type "list",data:=.seq #[]}:=kf _ rfl;refine⟨⟨_,hS,rfl⟩,DY _ _,zc5 (A:=A.in1) hh hd (kK _ ho) hc bU _ hS (λh' tk aT c' hk sL cA=>?_) hn⟩;exact⟨rfl,hQ h' tk aT c' (λb o e=>hk b o (QC (uU e)) (kK _ e)) sL cA⟩
end
end L2
namespace L2.RV
open PySem PySem.Spec PyProof.Rows
section
def mro:mroOf (.type "reversed")=pure [.type "reversed",.type "object"]:=by rw[mroOf_type];kernel_rfl
def Kf:Fm (.type "reversed") "__new__"=pure (some (.builtin "reversed.__new__")):=by rw[BM,gV];kernel_rfl
def made:Bind.madeBy (.type "reversed")=pure (some "reversed.__new__"):=madeBy_type mro Kf (by decide+kernel)
def notType:(UR "reversed"==UR "type")=false:=by decide+kernel
def canCreate:((Ha "reversed").bind (·.mro.findSome? λt=>(Ha t).bind λb=>if b.noNew then some true else if b.attrs.any (·.1=="__new__") then some false else none)).getD false=false:=by decide+kernel
def typeCall(a:kL):checkTypeCall "reversed" ⟨[a],[]⟩=pure ():=by kernel_rfl
def newCall(a:kL):Gf "reversed.__new__" ⟨[.type "reversed",a],[]⟩=pure ():=by kernel_rfl
def entryNew:entryFor table "reversed.__new__"=some Am.«reversed.__new__»:=Gg (by kernel_rfl)
def plainNew:plainId "reversed.__new__"=true:=by decide+kernel
def subSelf:BU (.type "reversed") (.type "reversed")=pure true:=by rw[Ub];kernel_rfl
def subIt:BU (.type "list_reverseiterator") (.type "reversed")=pure false:=by rw[Ub];kernel_rfl
def slotIter:Slot "list_reverseiterator" "__iter__" "list_reverseiterator.__iter__":=
 .of (owner:="list_reverseiterator") (n:="__iter__") (by rw[BM,gV];kernel_rfl) (by decide+kernel) (by decide+kernel) (by decide+kernel)
  (by first|exact .inl (by decide+kernel)|exact .inr (by decide+kernel)) (by rw[Ub];kernel_rfl)
def slotNext:Slot "list_reverseiterator" "__next__" "list_reverseiterator.__next__":=
 .of (owner:="list_reverseiterator") (n:="__next__") (by rw[BM,gV];kernel_rfl) (by decide+kernel) (by decide+kernel) (by decide+kernel)
  (by first|exact .inl (by decide+kernel)|exact .inr (by decide+kernel)) (by rw[Ub];kernel_rfl)
def entryIter:entryFor table "list_reverseiterator.__iter__"=some Am.«dict_keyiterator.__iter__»:=
 entryFor_alias (id':="dict_keyiterator.__iter__") (by kernel_rfl) rfl (by decide+kernel) (by kernel_rfl)
def entryNext:entryFor table "list_reverseiterator.__next__"=some Am.«list_reverseiterator.__next__»:=Gg (by kernel_rfl)
def owner:Manifest.owners.lookup (String.ofList "list_reverseiterator".toList.reverse.reverse)=some Manifest.sig_list_reverseiterator:=by kernel_rfl
def argsIter(a:kL):HZ "list_reverseiterator.__iter__" ⟨[a],[]⟩:=by
 unfold HZ;rw[signature?_of (id:="list_reverseiterator.__iter__") (n:="__iter__".toList.reverse) (o:="list_reverseiterator".toList.reverse) (by kernel_rfl) owner];kernel_rfl
def argsNext(a:kL):HZ "list_reverseiterator.__next__" ⟨[a],[]⟩:=by
 unfold HZ;rw[signature?_of (id:="list_reverseiterator.__next__") (n:="__next__".toList.reverse) (o:="list_reverseiterator".toList.reverse) (by kernel_rfl) owner];kernel_rfl
def noLen:Fm (.type "list_reverseiterator") "__len__"=pure none:=by rw[BM,gV];kernel_rfl
def hint:Fm (.type "list_reverseiterator") "__length_hint__"=pure (some (.builtin "list_reverseiterator.__length_hint__")):=by rw[BM,gV];kernel_rfl
end
end L2.RV
namespace L2
open PySem PySem.Spec PyProof.Rows
section
abbrev D9(l:Addr)(n:Nat):Obj:={cls:=.type "list_reverseiterator",data:=.fields #[.ref l,AI ((n:Int)-1)]}
end
variable{items:Array kL}{n:Nat}{it:Addr}
section
variable{prog:Qq}{w:World}{A:Qd}{E:kL->kR->Prop}{s:kR}{R:Fl->kR->Prop}
variable{l:Addr}
theorem zb3{Q₁:kL->kR->Prop}(hl:s.heap.get? l=some {cls:=.type "list",dict:=none,data:=.seq items n,slots:=#[]})
  (h:Q₁ (.ref s.heap.objs.size) {s with heap:=s.heap.push (D9 l items.size)}):
  Ak (ο prog w) A (.call (.builtin "reversed.__new__") ⟨[.type "reversed",.ref l],[]⟩) (wants Q₁ E) s:=by
 refine HH ?_;show ν _ A.in1 (do Gf "reversed.__new__" ⟨[.type "reversed",.ref l],[]⟩;again (.builtin "reversed.__new__" ⟨[.type "reversed",.ref l],[]⟩)) _ _ s;refine kC (DM (RV.newCall (.ref l)) (kO ⟨gO RV.plainNew _,Un RV.entryNew ?_⟩));rw[UU RV.plainNew _];unfold Am.«reversed.__new__» Builtin.SmallTypes.newClass;have Te:=RV.subSelf;have hT:s.TypeIs (.ref l) "list":=⟨_,hl,rfl⟩;have hlk:=PySem.F.slot_list_reversed.lookup;have hbi:=PySem.F.slot_list_reversed.bind (.ref l)
 wp_walk
 refine gh (codeAny_call_builtin (R:=wants (λA5 aU=>A5=.ref s.heap.objs.size/\aU={s with heap:=s.heap.push (D9 l items.size)}) E) PySem.F.slot_list_reversed.plain PySem.F.entry_list_reversed (PySem.F.slot_list_reversed.check _ _ _ _ _ _ _ _ hT (PySem.F.args_list_reversed_1 _) (AutoListH.list___reversed___list_0 l items n prog w A.in1 _ s ⟨hl,rfl,rfl⟩))) λr aU hr=>?_
 cases r with
 |error e=>exact hr
 |ok fl=>
  cases fl with
  |ret A5=>
   obtain⟨rfl,rfl⟩:=hr;exact kO h
  |_=>exact hr.elim
variable{Q:kL->kR->Prop}
theorem Zk(hl:s.heap.get? l=some {cls:=.type "list",dict:=none,data:=.seq items n,slots:=#[]})
  (h:Q (.ref s.heap.objs.size) {s with heap:=s.heap.push (D9 l items.size)}):
  ν (ο prog w) A (call (.type "reversed") [.ref l]) Q E s:=by
 have hmro:=RV.mro;have hmade:=RV.made;have Te:=RV.subIt;refine EJ (HH ?_);show ν _ _ (callAny (.type "reversed") _) _ _ _;refine kO ⟨Fo _ (by decide+kernel),Un PySem.F.entry_type_call ?_⟩
 rw[Around.under_plain (weight_type_call_type "reversed" [.ref l] []) rfl];have h1:=RV.notType;have h2:=RV.canCreate;have hct:=RV.typeCall (.ref l)
 repeat (any_goals (first|assumption|wp_step))
 refine gh (zb3 (E:=E) (Q₁:=λA5 aU=>A5=.ref s.heap.objs.size/\aU={s with heap:=s.heap.push (D9 l items.size)}) hl ⟨rfl,rfl⟩) λr aU hr=>?_
 cases r with
 |error e=>exact hr
 |ok fl=>
  cases fl with
  |ret A5=>
   obtain⟨rfl,rfl⟩:=hr;have hT:Hj {s with heap:=s.heap.push (D9 l items.size)} (.ref s.heap.objs.size) "list_reverseiterator":=⟨_,kf _ rfl,rfl⟩
   repeat (any_goals (first|assumption|wp_step))
  |_=>exact hr.elim
def xG(h:Heap)(it l:Addr)(m:Nat):Prop:=h.get? it=some (D9 l m)
def Yf{m:Nat}(cN:xG s.heap it l m)(h:Q (.ref it) s):ν (ο prog w) A (HW (.ref it)) Q E s:=by
 have ty:s.TypeIs (.ref it) "list_reverseiterator":=⟨_,cN,rfl⟩;refine GF ty RV.slotIter (Qy RV.slotIter ty RV.entryIter ?_ (RV.argsIter _));show ν _ _ (ret (.ref it)) _ _ s;exact kO ⟨_,rfl,"list_reverseiterator",_,ty,RV.slotNext.lookup,h⟩
theorem ZG{m:Nat}{x:kL}{Q:Option kL->kR->Prop}(cN:xG s.heap it l (m+1))(hl:s.heap.IsList l items)(hx:items[m]?=some x)
  (hQ:∀h',xG h' it l m->UQ it s.heap h'->Q (some x) {s with heap:=h'}):ν (ο prog w) A (BB (.ref it)) Q E s:=by
 have ty:s.TypeIs (.ref it) "list_reverseiterator":=⟨_,cN,rfl⟩;obtain⟨ol,hol,_,nl,hdl⟩:=hl;unfold BB;refine kC (AC (Qa (name:=QD "__next__") ty RV.slotNext (Qy RV.slotNext ty RV.entryNext ?_ (RV.argsNext _))));show ν _ _ (field (.ref it) 1>>=_) _ _ s;have em:(((m+1:Nat):Int)-1)=(m:Int):=by lia
 refine kC (UJ cN rfl (x:=.int (((m+1:Nat):Int)-1) 0) rfl ?_);rw[em];show ν _ _ (if(m:Int)<0 then _ else _) _ _ s;rw[η (by lia)]
 show ν _ _ (field (.ref it) 0>>=_) _ _ s
 refine kC (UJ cN rfl (x:=.ref l) rfl ?_);show ν _ _ (Cc (.ref l)>>=_) _ _ s;refine kC (QQ hol hdl ?_);simp only[QS,hx];refine kC (Bb cN rfl (by simp) (kO ⟨x,rfl,kO (hQ _ ?_ (UE ..))⟩))
 have z:=QJ (Ff λfs=>fs.set! 1 (AI ((m:Int)-1))) cN rfl;exact z
def za5{Q:Option kL->kR->Prop}(hh:A.handled=none)(cN:xG s.heap it l 0)
  (hQ:∀h',Gy it s.heap h'->Q none {s with heap:=h'}):ν (ο prog w) A (BB (.ref it)) Q E s:=by
 have ty:s.TypeIs (.ref it) "list_reverseiterator":=⟨_,cN,rfl⟩;unfold BB;refine kC (AC (Qa (name:=QD "__next__") ty RV.slotNext (Qy RV.slotNext ty RV.entryNext ?_ (RV.argsNext _))));show ν _ _ (field (.ref it) 1>>=_) _ _ s;refine kC (UJ cN rfl (x:=.int (((0:Nat):Int)-1) 0) rfl ?_);show ν _ _ (if(((0:Nat):Int)-1)<0 then _ else _) _ _ s;rw[θ (by decide)]
 refine kC (Ud (kC ?_));show ν _ _ (HY (.type "StopIteration") []>>=_) _ _ _;refine kC ?_;simp only[HY,newTuple];refine kC (Ua ?_ (by size_fits))
 refine kC (m:=At _ _) (DM (a:=UD) (by first|rfl|(simp only[At];rfl)) ?_)
 refine Ua ?_ (by size_fits)
 simp only[raiseNew];refine kC (Fc ?_);rw[show A.in1.handled=none from hh];refine kC (kO (Gz ?_));refine kC (gP (T:="StopIteration") (b:=true) ⟨_,kf _ rfl,rfl⟩ Eu ?_);exact kO (hQ _ λb o _ e=>kK _ (kK _ e))
theorem zda(hh:A.handled=none)(I l:Addr)(Ru:l≠I)(items:Array kL):
  Walks prog w A I [I,l] [I] items.size (λi v=>items[items.size-1-i]?=some v) (λi h=>(∃m,m+i=items.size/\xG h I l m)/\h.IsList l items) where
 sub:=λb hb=>by simp at hb;simp[hb]
 frame:=λ_ _ _ st hk=>⟨let⟨m,e,r⟩:=st.1;⟨m,e,hk I (by simp) _ r⟩,st.2.at λo e=>hk l (by simp) o e⟩
 item:=λi s Q E hi st hQ=>by
  obtain⟨⟨m,e,r⟩,hl⟩:=st;obtain⟨k,rfl⟩:∃k,m=k+1:=⟨m-1,by lia⟩
  have hk:k<items.size:=by lia
  refine ZG r hl (x:=items[k]) (uG hk) λh' Om On=>?_;exact hQ _ h' s.toks (by rw[show items.size-1-i=k by lia];exact uG hk) ⟨⟨k,by lia,Om⟩,hl.extBut On.extBut Ru⟩ λb o hb e=>On.extBut b o (λh=>hb (by simp[h])) e
 done:=λs Q E st hQ=>by
  obtain⟨⟨m,e,r⟩,hl⟩:=st;have e0:m=0:=by lia
  subst e0;exact za5 hh r λh' A6=>hQ h' s.toks λb o hb e=>A6 b o (λh=>hb (by simp[h])) e
 self:=λ_ _ _ _ st hQ=>let⟨m,e,r⟩:=st.1;Yf r hQ
theorem zay(hh:A.handled=none){r:Addr}(hr:xG s.heap r l items.size)(hl:s.heap.IsList l items)(hlr:l≠r)(S:Addr)(res:kL)(Oo:Nat)(hS:s.heap.get? S=some {cls:=.type "list",data:=.seq #[] Oo})(hSl:S≠l)
  (hR:∀h' tk aT c',(∀b o,b≠S->b≠r->s.heap.get? b=some o->h'.get? b=some o)->h'.get? S=some {cls:=.type "list",dict:=none,data:=.seq aT c',slots:=#[]}->
   GG (λi v=>items[items.size-1-i]?=some v) aT items.size->R (.ok (.ret res)) {s with heap:=h',toks:=tk}) (hn:items.size<=μ):
  ν (ο prog w) A.in1 (uj (.ref S) (.ref r) res)
   (λfin s'=>match fin with|.done f=>R (.ok f) s'|.again c'=>c'.quiet=true/\Ak (ο prog w) A c' R s') (λe s'=>R (.error e) s') s:=by
 have hSr:S≠r:=λe=>by
  have hr:s.heap.get? r=some (D9 l items.size):=hr;rw[e,hr] at hS;have:=υ Obj.data (uD hS)
  cases this
 have hSf:S∉[r,l]:=λhm=>(kg.mp hm).elim hSr λz=>hSl (ki.mp z);have ty:s.TypeIs (.ref r) "list_reverseiterator":=⟨_,hr,rfl⟩;unfold uj;refine kC (GH ty ?_);have h1:AF (.ref S) (.ref r)=false:=by simp[AF,hSr]
 have h2:(UR "list_reverseiterator"==UR "list")=false:=by decide
 have h3:(UR "list_reverseiterator"==UR "tuple")=false:=by decide
 simp only[h1,h2,h3,Fg,uk,if_false];refine kC (Yf hr ?_);refine kC (AD ?_);unfold CY;refine kC (BK ty RV.noLen ?_)
 wp_delta
 refine kC (BK ty RV.hint ?_);refine kC (gP ty (b:=true) (by rw[Ub];kernel_rfl) ?_)
 refine kO ?_;rw[η (by decide)]
 refine kO ⟨gO DA _,Ex (zda (A:=A.in1) hh r l hlr items).toS hn _ hSf _ items.size 0 _ _ _ rfl (QB _) ⟨⟨_,by lia,hr⟩,hl⟩ hS (II _) λs' aT c' hm sL cA=>?_⟩
 rw[Hk hm];refine hR s'.heap s'.toks aT c' (λb ob hb tE e=>hm.heap b ob (λtQ=>?_) e) sL cA;rcases kg.mp tQ with e'|tQ
 ·exact hb e'
 ·exact tE (ki.mp tQ)
def zb6(hh:A.handled=none){r:Addr}(hr:xG s.heap r l items.size)(hl:s.heap.IsList l items)(hlr:l≠r)
  (hQ:∀h' tk aT c',(∀b o,b≠r->s.heap.get? b=some o->h'.get? b=some o)->h'.get? s.heap.objs.size=some {cls:=.type "list",dict:=none,data:=.seq aT c',slots:=#[]}->
   GG (λi v=>items[items.size-1-i]?=some v) aT items.size->Q (.ref s.heap.objs.size) {s with heap:=h',toks:=tk}) (hn:items.size<=μ):
  ν (ο prog w) A (call (.type "list") [.ref r]) Q E s:=by
 refine callType_codes (Q₁:=λA5 aU=>A5=.ref s.heap.objs.size/\aU={s with heap:=s.heap.push {cls:=.type "list",data:=.seq #[]}}) FU (Dq _) Ds
  (code_list_new _ ⟨rfl,rfl⟩) λA5 aU aV=>?_
 obtain⟨rfl,rfl⟩:=aV;have hS:(s.heap.push {cls:=.type "list",data:=.seq #[]}).get? s.heap.objs.size=some {cls:=.type "list",data:=.seq #[]}:=kf _ rfl;have hl1:=hl.push {cls:=.type "list",data:=.seq #[]};have hr1:xG (s.heap.push {cls:=.type "list",data:=.seq #[]}) r l items.size:=kK _ hr;have nl:l≠s.heap.objs.size:=by obtain⟨o,ho,_⟩:=hl;exact QC (uU ho)
 have nr:r≠s.heap.objs.size:=QC (uU hr);have kp:∀b o,s.heap.get? b=some o->(s.heap.push {cls:=.type "list",data:=.seq #[]}).get? b=some o:=λb o e=>kK _ e;refine⟨⟨_,hS,rfl⟩,DY _ _,?_⟩;generalize s.heap.push {cls:=.type "list",data:=.seq #[]}=h1 at*;show ν _ _ (do let C0 <-AV (.ref s.heap.objs.size);Dp (.ref s.heap.objs.size) (λ_=>#[]);letGo C0.toList.reverse;uj (.ref s.heap.objs.size) (.ref r) .none) _ _ _;refine kC ?_;unfold AV;refine kC (QQ hS rfl (kO ?_));show ν _ _ (Ge s.heap.objs.size (λ_=>#[])>>=λ_=>letGo (#[]:Array kL).toList.reverse>>=λ_=>uj (.ref s.heap.objs.size) (.ref r) .none) _ _ _;refine kC (gG hS rfl ?_);have fD:=QJ (pW (λ_=>(#[]:Array kL))) hS rfl;have dF:∀b o,b≠s.heap.objs.size->h1.get? b=some o->(h1.update s.heap.objs.size (pW (λ_=>(#[]:Array kL)))).get? b=some o:=
  λb o hb e=>(uH _ _ (gB hb)).trans e
 refine kC (AN ?_);have Rv:xG (h1.update s.heap.objs.size (pW (λ_=>(#[]:Array kL)))) r l items.size:=dF r _ nr hr1;refine zay (A:=A.in1) (r:=r) (l:=l) (items:=items) hh Rv (hl1.at λo e=>dF l o nl e) hlr _ .none _ fD (gB nl) (λh' tk aT c' hk sL cA=>?_) hn;exact⟨rfl,hQ h' tk aT c' (λb o hb e=>hk b o (QC (uU e)) hb (dF b o (QC (uU e)) (kp b o e))) sL cA⟩
end
def PQ(X:Cx)(m:Bool)(tg:Expr)(B:AP)(π:Addr)(Z:En)(ow:Os)(s:kR)(ds:List Dt)(SE:kL)(s2:kR):Prop:=∃it F L tn,SE=.ref it/\Inv X (λa=>B a\/F a) π Z ow s2/\St X.toGx bL s s2/\(∀a,F a->s.heap.get? a=none)/\(m=false->∀a,¬L a)/\(∀a,L a->X.O B ow a/\¬X.T a)/\Wk X tg it F L ds tn/\tn 0 (X.O (λa=>B a\/F a) ow) s2.heap
section
variable{X:Cx}{B:AP}{π:Addr}{Z:En}{ow:Os}{s s1:kR}{m:Bool}{a b e tg:Expr}{es E1:List Expr}{x1:Nat}{f g:En->Option Dt}{ga:En->Option (List Dt)}{p pos A3:Pos}{x:Str}{d:Dt}{ds d1 d2:List Dt}{T:String}{k:List Dt->Option (List Dt)}
def qe{m':Bool}(hg:Gl X x)(hm:X.mg x=none)(hv:uw x=some (.type T))(ha:PA X m' (e::es) ga)(h:∀B π Z ow s s1 as ds us,Inv X B π Z ow s->Sx X B π Z ow s s1->k as=some ds->Ae (RM m' X.toGx (X.O B ow) s1.heap) as us->ν (ο X.P X.w) X.A (call (.type T) us) (λv s2=>ν (ο X.P X.w) X.A (HW v) (PQ X m tg B π Z ow s ds) nE s2) nE s1)
  (hn:x≠"__name__":=by decide)(tO:(x==("__debug__":Str))=false:=by decide)(he:pO (e::es) X.env=(false,eval e X.env)::pO es X.env:=by rfl)(hpl:(Qh pos (pO es X.env)).any (·.1)=false:=by rfl)(hc:eval (.Call (.Name x p) (e::es) [] pos) X.env=(do
     let f <-eval (.Name x p) X.env
     Du pos f [] (Qh pos (pO (e::es) X.env)) (Aa pos (Ul [] X.env))):=by rfl):PI X m tg (.Call (.Name x p) (e::es) [] pos) (iC k ga):=λB π Z ow s ds I q=>by
 obtain⟨as,q1,q⟩:=kA.mp q;exact Call_ (xm I hg hm hv (UX (ax (ha pos B π Z ow s as I q1) λus s1⟨t,r⟩=>h B π Z ow s s1 as ds us I t q r) he hpl) hn tO) hc
theorem Op(I:Inv X B π Z ow s)(t:Sx X B π Z ow s s1){lo hi:Int}{t1 t2 t3:Tok}{tk:Nat}(h1: -(2^62)<=lo)(h2:lo<2^62)(h3: -(2^62)<=hi)(h4:hi<2^62)(hz:(hi-lo).toNat<=μ):
  ν (ο X.P X.w) X.A (HW (.ref s1.heap.objs.size)) (PQ X m tg B π Z ow s ((kM (hi-lo).toNat).map λk:Nat=>.int (lo+k))) nE {s1 with heap:=s1.heap.push {cls:=.type "range",data:=.fields #[.int lo t1,.int hi t2,.int 1 t3]},toks:=tk}:=by
 refine wpAny_pyIter_range (IJ ..) (small_one h1 h2 h3 h4) ?_;refine wg (tk:=tk) I (t.trans (t.1.kept λb o e=>kK _ e)) (NU hz I.ok.hd) (λb o=>kK _) (λa z=>z▸fu) (λa z=>by subst z;exact⟨_,kf _ rfl⟩) (λ_ _=>_root_.id) (λ_=>Uq) λg=>?_
 show IsRangeIter _ _ (lo+((0:Nat):Int)*1) ((((hi-lo).toNat:Nat):Int)-((0:Nat):Int)) 1
 rw[show lo+((0:Nat):Int)*1=lo by simp,show(((hi-lo).toNat:Nat):Int)-((0:Nat):Int)=Dv lo hi 1 by rw[rangeSize_one];split<;>lia]
 exact kf _ rfl
theorem Kg(hg:Gl X "range")(hm:X.mg "range"=none)(ha:PA X true (e::es) ga)(he:pO (e::es) X.env=(false,eval e X.env)::pO es X.env:=by rfl)(hpl:(Qh pos (pO es X.env)).any (·.1)=false:=by rfl)(hc:eval (.Call (.Name "range" p) (e::es) [] pos) X.env=(do
     let f <-eval (.Name "range" p) X.env
     Du pos f [] (Qh pos (pO (e::es) X.env)) (Aa pos (Ul [] X.env))):=by rfl):PI X m tg (.Call (.Name "range" p) (e::es) [] pos) (iC bG ga):=qe (he:=he) (hpl:=hpl) (hc:=hc) hg hm bt_range ha λB π Z ow s s1 as ds us I t q r=>by
 unfold bG at q
 split at q
 ·split at q<;>cases q
  have c:=‹_/\_/\_›;obtain⟨u,rfl,r1⟩:=tY r;obtain⟨tk,rfl⟩:=RT.int r1;have:=Op (m:=m) (tg:=tg) (t1:=s1.toks) (t2:=tk) (t3:=s1.toks+1) (tk:=s1.toks+1+1) I t (lo:=0) (by decide) (by decide) c.1 c.2.1 (by simpa using c.2.2)
  simp only[GI,Bg] at this;exact call_range_1 this
 ·cases q
theorem za4{IT:Heap->Addr->Addr->Nat->Prop}{SQ:Heap->Addr->Array kL->Prop}{Lq:Nat->Nat->Prop}{z TI TO i1 i2 l1 l2:Addr}(D:ZipApart z TI TO i1 i2 l1 l2)(hq:Lq d1.length d2.length)(hl:d1.length<=μ)
  (Kh:∀{h h':Heap}{i l k},IT h i l k->(∀o,h.get? i=some o->h'.get? i=some o)->IT h' i l k)(itG:∀{h:Heap}{i l k},IT h i l k->∃o,h.get? i=some o)(Ki:∀{h h':Heap}{l vs},SQ h l vs->(∀o,h.get? l=some o->h'.get? l=some o)->SQ h' l vs)(sqG:∀{h:Heap}{l vs},SQ h l vs->∃o,h.get? l=some o)
  (item:∀{s:kR}{k xs ys x y a b}{R:Option kL->kR->Prop},IsZip s.heap z TI TO .none->AK s.heap TI (.ref i1) (.ref i2)->AK s.heap TO a b->IT s.heap i1 l1 k->IT s.heap i2 l2 k->SQ s.heap l1 xs->SQ s.heap l2 ys->xs[k]?=some x->ys[k]?=some y->
   (∀h',IsZip h' z TI TO (AI s.heap.objs.size)->AK h' TO x y->IT h' i1 l1 (k+1)->IT h' i2 l2 (k+1)->AK h' s.heap.objs.size x y->h'.objs.size=s.heap.objs.size+1->(∀c o,c≠z->c≠TO->c≠i1->c≠i2->s.heap.get? c=some o->h'.get? c=some o)->R (some (.ref s.heap.objs.size)) {s with heap:=h'})->ν (ο X.P X.w) X.A (BB (.ref z)) R nE s)
  (done:∀{s:kR}{k}{xs ys:Array kL}{a b}{R:Option kL->kR->Prop},IsZip s.heap z TI TO .none->AK s.heap TI (.ref i1) (.ref i2)->AK s.heap TO a b->IT s.heap i1 l1 k->IT s.heap i2 l2 k->SQ s.heap l1 xs->SQ s.heap l2 ys->Lq xs.size ys.size->k=min xs.size ys.size->
   (∀h',(∀c o,c≠z->c≠TO->c≠i1->c≠i2->s.heap.get? c=some o->h'.get? c=some o)->R none {s with heap:=h'})->ν (ο X.P X.w) X.A (BB (.ref z)) R nE s):
  Wk X (.Tuple E1 x1 A3) z (λa=>a=z\/a=TI\/a=TO\/a=i1\/a=i2) bL (Ay (λa b=>.tuple [a,b]) d1 d2) (λi O h=>∃a b xs ys,IsZip h z TI TO .none/\AK h TI (.ref i1) (.ref i2)/\AK h TO a b/\IT h i1 l1 i/\IT h i2 l2 i/\(¬O l1/\¬O l2)/\SQ h l1 (AQ xs)/\SQ h l2 (AQ ys)/\Rs X.toGx O h d1 xs/\Rs X.toGx O h d2 ys):=by
 refine⟨by rw[FV];lia,λi O h O' h' w g k=>?_,λi d O s w fO ex hd=>?_,λO s w fO=>?_,λA i O s Q E w q=>Dw w.choose_spec.choose_spec.choose_spec.choose_spec.1 q⟩<;>obtain⟨a,b,xs,ys,hz,hI,hO,h1,h2,n,s1,s2,r1,r2⟩:=w
 ·obtain⟨o1,e1⟩:=sqG s1;obtain⟨o2,e2⟩:=sqG s2;exact⟨a,b,xs,ys,k z _ (.inl (.inl rfl)) hz,k TI _ (.inl (.inr (.inl rfl))) hI,k TO _ (.inl (.inr (.inr (.inl rfl)))) hO,Kh h1 λo=>k i1 o (.inl (.inr (.inr (.inr (.inl rfl))))),Kh h2 λo=>k i2 o (.inl (.inr (.inr (.inr (.inr rfl))))),⟨(g l1 o1 e1 n.1).2,(g l2 o2 e2 n.2).2⟩,Ki s1 λo e=>(g l1 o e n.1).1,Ki s2 λo e=>(g l2 o e n.2).1,Rs.go g _ _ r1,Rs.go g _ _ r2⟩
 ·rw[By] at hd
  cases e1:d1[i]? with
  |none=>rw[e1] at hd;cases hd
  |some da=>
   cases e2:d2[i]? with
   |none=>rw[e1,e2] at hd;cases hd
   |some db=>
    rw[e1,e2] at hd;cases hd;obtain⟨u1,hu1,ru1⟩:=r1.get e1;obtain⟨u2,hu2,ru2⟩:=r2.get e2;refine item hz hI hO h1 h2 s1 s2 (x:=u1) (y:=u2) (by simpa using hu1) (by simpa using hu2) λaV z1 t1 j1 j2 pr sz kk=>⟨_,rfl,wpAny_letOwnedTupleGo_zip z1 λcM z2 sb=>?_⟩
    have nz:∀{b:Addr},b≠z->∀{o},aV.get? b=some o->cM.get? b=some o:=λ{b} hb{o} e=>(sb.2 b hb).trans e;have zT:s.heap.objs.size≠z:=Bc (uU hz);have kp:∀c o,¬(c=z\/c=TI\/c=TO\/c=i1\/c=i2)->s.heap.get? c=some o->cM.get? c=some o:=λc o n e=>nz (λz=>n (.inl z)) (kk c o (λz=>n (.inl z)) (λz=>n (.inr (.inr (.inl z)))) (λz=>n (.inr (.inr (.inr (.inl z))))) (λz=>n (.inr (.inr (.inr (.inr z))))) e);have g:Gd O s.heap O cM:=λa o e n=>⟨kp a o (λz=>n (fO a z)) e,n⟩;have hI2:=nz D.TIz (kk TI _ D.TIz D.TITO D.TIi1 D.TIi2 hI);have Kj:=nz D.TOz t1;have k1:=Kh j1 λo e=>nz D.i1z e;have k2:=Kh j2 λo e=>nz D.i2z e;refine⟨⟨u1,u2,xs,ys,z2,hI2,Kj,k1,k2,n,Ki s1 λo e=>(g l1 o e n.1).1,Ki s2 λo e=>(g l2 o e n.2).1,Rs.go g _ _ r1,Rs.go g _ _ r2⟩,?_,⟨cM,s.toks,rfl,kp⟩,λa z=>?_⟩
    ·rw[R];exact⟨_,[u1,u2],rfl,(λz=>by obtain⟨o,e⟩:=ex _ z;rw[fu] at e;cases e),⟨_,nz zT pr,rfl,_,rfl⟩,(by decide:2<=μ),.cons (R.go g _ _ ru1) (.cons (R.go g _ _ ru2) .nil)⟩
    ·rcases z with rfl|rfl|rfl|rfl|rfl
     ·exact⟨_,z2⟩
     ·exact⟨_,hI2⟩
     ·exact⟨_,Kj⟩
     ·exact itG k1
     ·exact itG k2
 ·refine done hz hI hO h1 h2 s1 s2 (by simpa[r1.len,r2.len] using hq) (by simp[r1.len,r2.len]) λaV kk=>⟨rfl,aV,s.toks,rfl,λc o n e=>kk c o (λz=>n (.inl z)) (λz=>n (.inr (.inr (.inl z)))) (λz=>n (.inr (.inr (.inr (.inl z))))) (λz=>n (.inr (.inr (.inr (.inr z))))) e⟩
theorem Tj{h:Heap}{a:Addr}{TI TO i1 i2 z:Addr}(e:z=n+4/\TI=n+2/\TO=n+3/\i1=n/\i2=n+1)(hn:h.objs.size=n)(q:a=z\/a=TI\/a=TO\/a=i1\/a=i2):h.get? a=none:=uN (by obtain⟨rfl,rfl,rfl,rfl,rfl⟩:=e;rcases q with rfl|rfl|rfl|rfl|rfl<;>lia)
def Oq(hg:Gl X "zip")(hm:X.mg "zip"=none)(ha:PA X false [a,b] ga)(he:pO [a,b] X.env=(false,eval a X.env)::pO [b] X.env:=by rfl)(hpl:(Qh pos (pO [b] X.env)).any (·.1)=false:=by rfl)(hc:eval (.Call (.Name "zip" p) [a,b] [] pos) X.env=(do
     let f <-eval (.Name "zip" p) X.env
     Du pos f [] (Qh pos (pO [a,b] X.env)) (Aa pos (Ul [] X.env))):=by rfl):PI X m (.Tuple E1 x1 A3) (.Call (.Name "zip" p) [a,b] [] pos) (iC wF ga):=qe (he:=he) (hpl:=hpl) (hc:=hc) hg hm bt_zip ha λB π Z ow s s1 as ds us I t q r=>by
 unfold wF at q
 split at q<;>cases q
 obtain⟨u,v,rfl,r1,r2⟩:=pr2 r;have r1:R X.toGx (X.O B ow) s1.heap _ u:=r1;have r2:R X.toGx (X.O B ow) s1.heap _ v:=r2;rw[R] at r1 r2;obtain⟨p1,v1,n1,rfl,Ot,e1,l1,C3⟩:=r1;obtain⟨p2,v2,n2,rfl,np2,e2,l2,s2'⟩:=r2;refine call_zip_2 ⟨_,e1,rfl,n1,rfl⟩ ⟨_,e2,rfl,n2,rfl⟩ λh' hz Tk Tl Tn To sz kk=>Dw hz ?_;have D:=zipApart_new (n:=s1.heap.objs.size) (uU e1) (uU e2);refine wg (tk:=s1.toks) I t (za4 (IT:=λh a l i=>h.IsListIter a l i) (SQ:=λh l vs=>h.IsList l vs) (Lq:=λ_ _=>True) D trivial (by rw[C3.len];exact l1) (λh k=>h.at k) (λ⟨o,e,_⟩=>⟨o,e⟩) (λ⟨o,e,r⟩ k=>⟨o,k o e,r⟩) (λ⟨o,e,_⟩=>⟨o,e⟩) (λa b c d e f g h i j=>wpAny_pyNext_zip_item D a b c d e f g h i j) λa b c d e f g _ hk q=>wpAny_pyNext_zip_end I.ok.hd D a b c d e f g ?_ q) kk (λa z=>Tj ⟨rfl,rfl,rfl,rfl,rfl⟩ rfl z) (λa z=>?_) (λ_ _=>_root_.id) (λ_=>Uq) λg=>⟨_,_,v1,v2,hz,Tk,Tl,Tn,To,⟨(g p1 _ e1 Ot).2,(g p2 _ e2 np2).2⟩,⟨_,kk _ _ e1,rfl,n1,rfl⟩,⟨_,kk _ _ e2,rfl,n2,rfl⟩,Rs.go g _ _ C3,Rs.go g _ _ s2'⟩
 ·rcases Nat.le_total (IN _) (IN _) with c|c
  ·exact .inl (by rw[hk,CU c];simp)
  ·exact .inr (by rw[hk,Nat.min_eq_right c];simp)
 ·rcases z with rfl|rfl|rfl|rfl|rfl
  ·exact⟨_,hz⟩
  ·exact⟨_,Tk⟩
  ·exact⟨_,Tl⟩
  ·obtain⟨o,e,_⟩:=Tn;exact⟨o,e⟩
  ·obtain⟨o,e,_⟩:=To;exact⟨o,e⟩
theorem Kk(hg:Gl X "zip")(hm:X.mg "zip"=none)(ha:PA X false [a,b] ga)(he:pO [a,b] X.env=(false,eval a X.env)::pO [b] X.env:=by rfl)(hpl:(Qh pos (pO [b] X.env)).any (·.1)=false:=by rfl)(hc:eval (.Call (.Name "zip" p) [a,b] [] pos) X.env=(do
     let f <-eval (.Name "zip" p) X.env
     Du pos f [] (Qh pos (pO [a,b] X.env)) (Aa pos (Ul [] X.env))):=by rfl):PI X m (.Tuple E1 x1 A3) (.Call (.Name "zip" p) [a,b] [] pos) (iC sE ga):=qe (he:=he) (hpl:=hpl) (hc:=hc) hg hm bt_zip ha λB π Z ow s s1 as ds us I t q r=>by
 unfold sE at q
 split at q
 ·split at q<;>cases q
  have hq:=‹_=_›;obtain⟨u,v,rfl,r1,r2⟩:=pr2 r;obtain⟨p1,v1,rfl,Ot,e1,l1,C3⟩:=RT.tup (.inl r1);obtain⟨p2,v2,rfl,np2,e2,l2,s2'⟩:=RT.tup (.inl r2);have e1:s1.heap.IsTuple p1 v1.toArray:=e1;have e2:s1.heap.IsTuple p2 v2.toArray:=e2;obtain⟨o1,g1,f1⟩:=_root_.id e1;obtain⟨o2,g2,f2⟩:=_root_.id e2;refine zbt e1 e2 λh' hz Tk Tl Tn To kk=>Dw hz ?_;have D:=zipApart_new (n:=s1.heap.objs.size) (uU g1) (uU g2);refine wg (tk:=s1.toks) I t (za4 (IT:=λh a l i=>h.IsTupleIter a l i) (SQ:=λh l vs=>h.IsTuple l vs) (Lq:=λa b=>a=b) D hq (by rw[C3.len];exact l1) (λh k=>h.at k) (λ⟨o,e,_⟩=>⟨o,e⟩) (λ⟨o,e,r⟩ k=>⟨o,k o e,r⟩) (λ⟨o,e,_⟩=>⟨o,e⟩) (λa b c d e f g h i j=>zbg D a b c d e f g h i j) λa b c d e f g hl hk q=>zaw I.ok.hd D a b c d f ?_ q) kk (λa z=>Tj ⟨rfl,rfl,rfl,rfl,rfl⟩ rfl z) (λa z=>?_) (λ_ _=>_root_.id) (λ_=>Uq) λg=>⟨_,_,v1,v2,hz,Tk,Tl,Tn,To,⟨(g p1 _ g1 Ot).2,(g p2 _ g2 np2).2⟩,⟨o1,kk _ _ g1,f1⟩,⟨o2,kk _ _ g2,f2⟩,Rs.go g _ _ C3,Rs.go g _ _ s2'⟩
  ·simp;lia
  ·rcases z with rfl|rfl|rfl|rfl|rfl
   ·exact⟨_,hz⟩
   ·exact⟨_,Tk⟩
   ·exact⟨_,Tl⟩
   ·obtain⟨o,e,_⟩:=Tn;exact⟨o,e⟩
   ·obtain⟨o,e,_⟩:=To;exact⟨o,e⟩
 ·cases q
theorem Ov{e l:Addr}(ne:e≠it)(hl:ds.length<=μ)(hd:X.A.handled=none):Wk X (.Tuple E1 x1 A3) e (λa=>a=e\/a=it) bL ((kM ds.length).zipWith (λ(k:Nat) x=>.tuple [.int k,x]) ds) (λi O h=>(∃C0,IsEnum h e it (i:Int) C0)/\h.IsListIter it l i/\¬O l/\∃vs n,h.get? l=some (lo vs n)/\Rs X.toGx O h ds vs):=by
 refine⟨by rw[FV];lia,λi O h O' h' w g k=>?_,λi d O s w fO ex nG=>?_,λO s w fO=>?_,λA i O s Q E w q=>GJ w.1.choose_spec q⟩<;>obtain⟨⟨C0,he⟩,a,b,vs,n,c,r⟩:=w
 ·exact⟨⟨C0,k e _ (.inl (.inl rfl)) he⟩,a.at λo=>k it o (.inl (.inr rfl)),(g l _ c b).2,vs,n,(g l _ c b).1,Rs.go g _ _ r⟩
 ·rw[By] at nG
  cases e2:ds[i]? with
  |none=>rw[e2] at nG;cases H5:(kM ds.length)[i]?<;>rw[H5] at nG<;>cases nG
  |some dd=>
   have hi:=(kE.mp e2).1;rw[e2,uM hi] at nG;cases nG;obtain⟨u1,hu1,ru1⟩:=r.get e2;refine wpAny_pyNext_enum_item he a ⟨_,c,rfl,n,rfl⟩ (x:=u1) (by simpa using hu1) ne λaV z1 j1 pr sz kk=>⟨_,rfl,wpAny_letOwnedTupleGo_enum z1 λcM z2 sb=>?_⟩
   have nz:∀{b:Addr},b≠e->∀{o},aV.get? b=some o->cM.get? b=some o:=λ{b} hb{o} q=>(sb.2 b hb).trans q;have kp:∀c o,¬(c=e\/c=it)->s.heap.get? c=some o->cM.get? c=some o:=λc o n q=>nz (λz=>n (.inl z)) (kk c o (λz=>n (.inl z)) (λz=>n (.inr z)) q);have g:Gd O s.heap O cM:=λa o e n=>⟨kp a o (λz=>n (fO a z)) e,n⟩;have k1:=j1.at λo q=>nz (gB ne) q;refine⟨⟨⟨u1,z2⟩,k1,b,vs,n,(g l _ c b).1,Rs.go g _ _ r⟩,?_,⟨cM,s.toks+1,rfl,kp⟩,λa z=>?_⟩
   ·rw[R];exact⟨_,[.int i s.toks,u1],rfl,(λz=>by obtain⟨o,e⟩:=ex _ z;rw[fu] at e;cases e),⟨_,nz (Bc (uU he)) pr,rfl,_,rfl⟩,(by decide:2<=μ),.cons .int (.cons (R.go g _ _ ru1) .nil)⟩
   ·rcases z with rfl|rfl
    ·exact⟨_,z2⟩
    ·obtain⟨o,e,_⟩:=k1;exact⟨o,e⟩
 ·exact wpAny_pyNext_enum_end hd he a ⟨_,c,rfl,n,rfl⟩ (by simp[r.len]) λaV kk=>⟨rfl,aV,s.toks,rfl,λc o n q=>kk c o (λz=>n (.inr z)) q⟩
theorem Ow(hg:Gl X "enumerate")(hm:X.mg "enumerate"=none)(ha:PA X false [a] ga)(he:pO [a] X.env=(false,eval a X.env)::pO [] X.env:=by rfl)(hc:eval (.Call (.Name "enumerate" p) [a] [] pos) X.env=(do
     let f <-eval (.Name "enumerate" p) X.env
     Du pos f [] (Qh pos (pO [a] X.env)) (Aa pos (Ul [] X.env))):=by rfl):PI X m (.Tuple E1 x1 A3) (.Call (.Name "enumerate" p) [a] [] pos) (iC xR ga):=qe (he:=he) (hpl:=rfl) (hc:=hc) hg hm bt_enumerate ha λB π Z ow s s1 as ds us I t q r=>by
 unfold xR at q
 split at q<;>cases q
 obtain⟨u,rfl,r1⟩:=tY r;have r1:R X.toGx (X.O B ow) s1.heap _ u:=r1;rw[R] at r1;obtain⟨p1,v1,n1,rfl,Ot,e1,l1,C3⟩:=r1;refine call_enumerate_list ⟨_,e1,rfl,n1,rfl⟩ λh' he hi sz kk=>GJ he (wg (tk:=s1.toks) I t (Ov (l:=p1) (by show s1.heap.objs.size+1≠s1.heap.objs.size;lia) (by rw[C3.len];exact l1) I.ok.hd) kk (λa z=>uN (by rcases z with rfl|rfl<;>lia)) (λa z=>?_) (λ_ _=>_root_.id) (λ_=>Uq) λg=>⟨⟨_,he⟩,hi,(g p1 _ e1 Ot).2,v1,n1,kk _ _ e1,Rs.go g _ _ C3⟩)
 rcases z with rfl|rfl
 ·exact⟨_,he⟩
 ·obtain⟨o,e,_⟩:=hi;exact⟨o,e⟩
theorem Ox{l:Addr}(hl:ds.length<=μ)(hd:X.A.handled=none):Wk X tg it (one it) bL ds.reverse (λi O h=>xG h it l (ds.length-i)/\¬O l/\∃vs n,h.get? l=some (lo vs n)/\Rs X.toGx O h ds vs):=by
 refine⟨by simpa using hl,λi O h O' h' w g k=>?_,λi d O s w fO ex e=>?_,λO s w fO=>?_,λA i O s Q E t q=>Yf t.1 q⟩<;>obtain⟨a,b,vs,n,c,r⟩:=w
 ·exact⟨k it _ (.inl rfl) a,(g l _ c b).2,vs,n,(g l _ c b).1,Rs.go g _ _ r⟩
 ·have hi:i<ds.length:=by have:=(kE.mp e).1;rw[Ui] at this;exact this
  rw[Ef hi] at e;obtain⟨u,hu,ru⟩:=r.get e;rw[show ds.length-i=(ds.length-1-i)+1 by lia] at a
  refine ZG a ⟨_,c,rfl,n,rfl⟩ (x:=u) (by simpa using hu) λh' aH sb=>?_
  have g:Gd O s.heap O h':=λa o e n=>⟨(sb.2 a λz=>n (fO a z)).trans e,n⟩;exact⟨u,rfl,qy (s:={s with heap:=h'}) aH rfl rfl (by decide) ⟨⟨by rw[show ds.length-(i+1)=ds.length-1-i by lia];exact aH,b,vs,n,(g l _ c b).1,Rs.go g _ _ r⟩,R.go g _ _ ru,⟨h',s.toks,rfl,λb o n e=>(sb.2 b n).trans e⟩,λa z=>⟨_,z▸aH⟩⟩⟩
 ·rw[Ui,GK] at a;exact za5 hd a λh' eb=>⟨rfl,h',s.toks,rfl,λb o n e=>eb b o n e⟩
def Oy(hg:Gl X "reversed")(hm:X.mg "reversed"=none)(ha:PA X false [a] ga)(he:pO [a] X.env=(false,eval a X.env)::pO [] X.env:=by rfl)(hc:eval (.Call (.Name "reversed" p) [a] [] pos) X.env=(do
     let f <-eval (.Name "reversed" p) X.env
     Du pos f [] (Qh pos (pO [a] X.env)) (Aa pos (Ul [] X.env))):=by rfl):PI X m tg (.Call (.Name "reversed" p) [a] [] pos) (iC C8 ga):=qe (he:=he) (hpl:=rfl) (hc:=hc) hg hm bt_reversed ha λB π Z ow s s1 as ds us I t q r=>by
 unfold C8 at q
 split at q<;>cases q
 obtain⟨u,rfl,r1⟩:=tY r;have r1:R X.toGx (X.O B ow) s1.heap _ u:=r1;rw[R] at r1;obtain⟨p1,v1,n1,rfl,Ot,e1,l1,C3⟩:=r1;have hr:xG (s1.heap.push (D9 p1 v1.toArray.size)) s1.heap.objs.size p1 v1.length:=by
  show _=some (D9 p1 v1.length)
  rw[kf _ rfl];simp
 exact Zk e1 (Yf hr (wg (tk:=s1.toks) I t (Ox (l:=p1) (by rw[C3.len];exact l1) I.ok.hd) (λb o=>kK _) (λa z=>z▸fu) (λa z=>by subst z;exact⟨_,hr⟩) (λ_ _=>_root_.id) (λ_=>Uq) λg=>⟨by rw[C3.len];exact hr,(g p1 _ e1 Ot).2,v1,n1,kK _ e1,Rs.go g _ _ C3⟩))
end
variable{bs:List Addr}
section
variable{G:Gx}{O:AP}{h:Heap}{d:Dt}{p b:Addr}{zs:List Dt}
variable{vs:List kL}
theorem Oz{l:List Int}(x:ItemsAre (FP G.P G.w) l vs):Rs G O h (l.map .int) vs:=by
 induction x with
 |nil=>exact .nil
 |cons k t ih=>obtain⟨t',rfl⟩:=DE k;exact .cons .int ih
noncomputable def okK(k:KT):Bool:=decide (k.length<=μ)&&k.all λi=>match i with|.inl _=>true|.inr l=>decide (l.length<=μ)
theorem Tp{k:KT}(x:IT G.P G.w O h k vs)(z:∀i∈k,∀l,i=.inr l->l.length<=μ):Rs G O h (k.map iDt) vs:=by
 induction x with
 |nil=>exact .nil
 |a t ih=>exact .cons .int (ih λi m=>z i (pT _ m))
 |t n k t ih=>
  refine .cons ?_ (ih λi m=>z i (pT _ m));obtain⟨o,bE,m,e,c,dd,it⟩:=k;show R G O h (.tuple _) _;rw[R];have hl:=z _ pH _ rfl;have r:=Oz (G:=G) (O:=O) (h:=h) it;exact⟨_,bE.toList,rfl,n,⟨o,e,c,m,by simpa using dd⟩,by rw[<-r.len,kJ];exact hl,r⟩
def Tq{k:KT}(x:IK G.P G.w O h k b)(l:okK k=true):R G O h (tkD k) (.ref b):=by
 obtain⟨n,o,bE,m,e,c,dd,it⟩:=x;obtain⟨l1,l2⟩:=Bool.and_eq_true_iff.mp l;show R G O h (.tuple _) _;rw[R];have r:=Tp it λi m l e=>by have:=Ut.mp l2 i m;subst e;exact ξ this
 exact⟨_,bE.toList,rfl,n,⟨o,e,c,m,by simpa using dd⟩,by rw[<-r.len,kJ];exact ξ l1,r⟩
theorem Tr{ks:List KT}(x:Ae (IK G.P G.w O h) ks bs)(z:(ks.all okK)=true):Rs G O h (ks.map tkD) (bs.map .ref):=by
 induction x with
 |nil=>exact .nil
 |cons r t ih=>rw[List.all_cons,ue] at z;exact .cons (Tq r z.1) (ih z.2)
theorem Mu:∀{ks:List eh}{vs:List kL}{es:List BV},ks.length=vs.length->Pairs (wW G.P G.w) es (ks.zip vs)->Rs G O h (ks.map kD) (es.map (·.key))
 |[],vs,es,l,q=>by rw[GL] at q;cases q;exact .nil
 |k::ks,[],es,l,q=>nomatch l
 |k::ks,v::vs,es,l,q=>by
  rw[Us] at q
  cases q with
  |cons h1 h2 h3=>exact .cons (by rcases wR h1 with⟨i,t,rfl,e⟩|⟨x,t,rfl,e⟩<;>(show R G O h _ (DictEntry.key _);rw[e]);exact .int;exact .str) (Mu (by simpa using l) h3)
theorem Top.keys{R:List Dt->List kL->Prop}(t:Top G O h R d p)(q:yl [d]=some (.list zs)):∃o es ep,h.get? p=some o/\o.ExactDict/\o.data=.dict es ep/\(p==gE)=false/\Rs G O h zs (es.toList.map (·.key))/\es.size<=μ:=by
 cases d with
 |dK ks ds=>
  cases q;obtain⟨vs,⟨l1,l2,sy,o,es,ep,e,ex,dd,_,pr,_⟩,_⟩:=t;have r:=Mu (G:=G) (O:=O) (h:=h) l1 pr;have:ks.length=es.size:=by simpa using r.len
  exact⟨o,es,ep,e,ex,dd,sy,r,by lia⟩
 |dT ks ds=>
  obtain⟨vs,⟨bs,l1,l2,l3,sy,nd,pr,o,es,ep,e,ex,dd,z⟩,_⟩:=t
  change (if ks.all okK=true then some (Dt.list (ks.map tkD)) else none)=_ at q
  by_cases hc:ks.all okK=true
  ·rw[θ hc] at q;cases q;have hk:es.toList.map (·.key)=bs.map .ref:=by
    rw[z,uc,show((·.key)∘HV (xh G.P G.w))=(λx:KT×Addr×kL=>Ql x.2.1) from rfl,show(λx:KT×Addr×kL=>Ql x.2.1)=Ql∘pG∘Ey from rfl,<-uc,<-uc,CF (by rw[Qk];lia),GZ (by lia)]
   have sz:es.size=bs.length:=by simpa using υ DJ hk
   exact⟨o,es,ep,e,ex,dd,sy,by rw[hk];exact Tr pr hc,by lia⟩
  ·rw[η hc] at q;cases q
 |_=>cases q
end
variable{v:kL}
section
variable{X:Cx}{B:AP}{π:Addr}{Z:En}{ow:Os}{s s1:kR}{m:Bool}{a b e tg:Expr}{es:List Expr}{f g:En->Option Dt}{ga:En->Option (List Dt)}{p pos p' bA:Pos}{d:Dt}{ds:List Dt}
theorem Kl{l:Addr}{en:Array BV}{ep:Nat}(hl:ds.length<=μ)(hd:X.A.handled=none):Wk X tg it (one it) bL ds (λi O h=>h.IsKeyIter it l i en.size ep/\¬O l/\(∃o,h.get? l=some o/\o.data=.dict en ep)/\Rs X.toGx O h ds (en.toList.map (·.key))):=by
 refine⟨hl,λi O h O' h' w g k=>?_,λi d O s w fO ex e=>?_,λO s w fO=>?_,λA i O s Q E t q=>Ew t.1 q⟩<;>obtain⟨a,b,⟨o,q,dd⟩,r⟩:=w
 ·obtain⟨u,e,c⟩:=a;exact⟨⟨u,k it u (.inl rfl) e,c⟩,(g l o q b).2,⟨o,(g l o q b).1,dd⟩,Rs.go g _ _ r⟩
 ·obtain⟨u,hu,ru⟩:=r.get e;rw[kX,uh] at hu;obtain⟨en',he,rfl⟩:=uW.mp hu;obtain⟨hi,rfl⟩:=Array.getElem?_eq_some_iff.mp he;refine V4 a q dd hi λh' aH sb=>?_;obtain⟨o',e',c',d'⟩:=_root_.id aH;have g:Gd O s.heap O h':=λa o e n=>⟨(sb.2 a λz=>n (fO a z)).trans e,n⟩;exact⟨_,rfl,qy (s:={s with heap:=h'}) e' c' d' (by decide) ⟨⟨aH,b,⟨o,(g l o q b).1,dd⟩,Rs.go g _ _ r⟩,R.go g _ _ ru,⟨h',s.toks,rfl,λb o n e=>(sb.2 b n).trans e⟩,λa z=>⟨o',z▸e'⟩⟩⟩
 ·have:ds.length=en.size:=by simpa using r.len
  exact Jv hd a q dd (by lia) λh' eb=>⟨rfl,h',s.toks,rfl,λb o n e=>eb b o n e⟩
theorem Ts(hl:PE X false e f):PI X m tg e (iD f):=λB π Z ow s zs I q=>by
 obtain⟨d,q1,q⟩:=kA.mp q;obtain⟨x,q2,q⟩:=kA.mp q
 cases x<;>cases q
 refine ax (hl B π Z ow s d I q1) λv s1 hw=>?_;obtain⟨t,r⟩:=hw;have r:R X.toGx (X.O B ow) s1.heap d v:=r;obtain⟨p,rfl,np,top⟩:∃p,v=.ref p/\¬X.O B ow p/\Top X.toGx (X.O B ow) s1.heap (Rs X.toGx (X.O B ow) s1.heap) d p:=by
  cases d with
  |dK ks ds=>rw[R] at r;obtain⟨p,vs,e,n,x⟩:=r;exact⟨p,e,n,vs,x⟩
  |dT ks ds=>rw[R] at r;obtain⟨p,vs,e,n,x⟩:=r;exact⟨p,e,n,vs,x⟩
  |_=>cases q2
 obtain⟨o,en,ep,ho,ex,dd,sy,rs,sz⟩:=top.keys q2;have hl:zs.length=en.size:=by simpa using rs.len
 exact VG sy ho ex.1 dd (wg (tk:=s1.toks) I t (Kl (l:=p) (en:=en) (ep:=ep) (by lia) I.ok.hd) (λb o=>kK _) (λa z=>z▸fu) (λa z=>by subst z;exact⟨_,kf _ rfl⟩) (λ_ _=>_root_.id) (λ_=>Uq) λg=>⟨⟨_,kf _ rfl,rfl,rfl⟩,(g p _ ho np).2,⟨o,kK _ ho,dd⟩,Rs.go g _ _ rs⟩)
theorem Km:ZF X (.type "list") yl:=λB π Z ow s as d us I q r=>by
 have:∃d0 zs,as=[d0]/\d=.list zs/\(∃kd,(zY d0 kd).isSome=true):=by
  unfold yl at q
  split at q
  ·split at q<;>cases q;exact⟨_,_,rfl,rfl,.tuple [],rfl⟩
  ·cases q;exact⟨_,_,rfl,rfl,.int 0,rfl⟩
  ·cases q
 obtain⟨d0,zs,rfl,rfl,kd,hk⟩:=this;obtain⟨u,rfl,r1⟩:=tY r;obtain⟨p,rfl,top⟩:=r1.top hk;obtain⟨o,en,ep,ho,ex,dd,sy,rs,sz⟩:=top.keys q;refine zde I.ok.hd sy ho ex.1 dd (λh' tk aT c' kp hS cA=>?_) sz;have ea:aT.toList=en.toList.map (·.key):=by
  refine UH λj=>?_;rw[kX,uh,uh];have ha:aT.size=en.size:=cA.1
  by_cases hj:j<en.size
  ·have cS:j<aT.size:=by lia
   obtain⟨e,e1,e2⟩:=cA.2 j aT[j] (uG cS);rw[uG cS,e1,e2];rfl
  ·rw[AU (by lia),AU (by lia)]
   rfl
 exact I.lnew (t':=tk) (us:=aT.toList) (by rw[ea];exact rs) (by rw[ea,kJ,pL];exact sz) kp fu (by simpa using hS)
def E2(hg:Gl X "list")(hm:X.mg "list"=none)(ha:PA X true (e::es) ga)(he:pO (e::es) X.env=(false,eval e X.env)::pO es X.env:=by rfl)(hpl:(Qh pos (pO es X.env)).any (·.1)=false:=by rfl):PF X (.Call (.Name "list" p) (e::es) [] pos) (aj yl ga):=S7 Km hg hm bt_list ha (he:=he) (hpl:=hpl)
theorem Rs.rev{G:Gx}{O:AP}{h:Heap}:∀{ds:List Dt}{vs:List kL},Rs G O h ds vs->Rs G O h ds.reverse vs.reverse
 |[],vs,r=>by rw[Rs] at r;subst r;exact .nil
 |d::ds,vs,r=>by
  rw[Rs] at r;obtain⟨v,r,rfl,h1,h2⟩:=r;rw[Bh,Bh];exact h2.rev.app (.cons h1 .nil)
theorem zdq(hg:Gl X "list")(hm:X.mg "list"=none)(tD:Gl X "reversed")(dW:X.mg "reversed"=none)(he0:PE X true e f)(n0:NS e:=by intro _ _;rfl):PF X (.Call (.Name "list" p) [.Call (.Name "reversed" p') [e] [] bA] [] pos) (d1 qM f):=λB π Z ow s d I q=>by
 obtain⟨d0,q1,q⟩:=kA.mp q
 cases d0<;>cases q
 refine QI (xm I hg hm bt_list ?_);refine UX ?_ rfl rfl;show ν _ _ (spliced ((false,eval (.Call (.Name "reversed" p') [e] [] bA) X.env)::Qh pos (pO [] X.env))) _ _ _;refine uZ (QI (xm I tD dW bt_reversed ?_));refine UX ?_ (n0 _ _) rfl;rw[n0];refine uZ (ax (he0 B π Z ow s _ I q1) λv s1⟨t,r⟩=>Qb ?_);obtain⟨l,vs,n,rfl,el,lz,rs⟩:=RT.lst r;refine Zk el (Qb ?_);have t2:=t.trans (t.1.kept (t':=s1.toks) λb o=>kK (D9 l vs.toArray.size));have nl:l≠s1.heap.objs.size:=QC (uU el);refine zb6 (items:=vs.toArray) I.ok.hd (kf _ rfl) ⟨_,kK _ el,rfl,n,rfl⟩ nl (λh' tk aT c' kp hS cA=>?_) (by simpa using lz)
 have ea:aT.toList=vs.reverse:=by
  have ha:aT.size=vs.length:=by have:=cA.1;simpa using this
  refine UH λj=>?_;rw[uh]
  by_cases hj:j<vs.length
  ·have cS:j<aT.size:=by lia
   have z:=cA.2 j aT[j] (uG cS);rw[uG cS,Ef hj]
   simpa using z.symm
  ·rw[AU (by omega),uE (by rw[Ui];omega)]
 have k0:∀b o,s1.heap.get? b=some o->h'.get? b=some o:=λb o e=>kp b o (λz=>by rw[z,fu] at e;cases e) (kK _ e)
 obtain⟨t3,p,e,n,r⟩:=t.1.lnew (t':=tk) (q:=(s1.heap.push (D9 l vs.toArray.size)).objs.size) (us:=aT.toList) (by rw[ea];exact rs.rev) (by rw[ea,Ui];exact lz) k0 (uN (by rw[gQ];exact Ez _)) (by simpa using hS)
 exact⟨t.trans t3,p,e,t.2.free n,r⟩
theorem OA{tp eE:Bool}{x y d:Dt}{u:kL}(I:Inv X B π Z ow s)(q:Ni tp eE x y=some d)(r1:RT X.toGx (X.O B ow) s.heap x v)(r2:RT X.toGx (X.O B ow) s.heap y u):∃k es as bs,Reads s.heap v k as/\Reads s.heap u (if tp=true then .tuple es else .list es) bs/\k.canLay0=true/\uz es=true/\k.depth<=60/\d=.bool (if eE=true then !(es.any λe=>Uo e k) else es.any λe=>Uo e k):=by
 obtain⟨k,e1,q⟩:=kA.mp q;obtain⟨ds,e2,q⟩:=kA.mp q;obtain⟨es,e3,q⟩:=kA.mp q
 split at q
 ·rename_i c;cases q
  obtain⟨as,ra⟩:=r1.rd e1;have:fq y=some (if tp=true then .tuple es else .list es):=by
   cases tp<;>cases y<;>cases e2<;>(rw[fq,e3];rfl)
  obtain⟨bs,rb⟩:=r2.rd this;exact⟨k,es,as,bs,ra,rb,c.1,c.2.1,c.2.2,rfl⟩
 ·cases q
theorem Tt(hu:X.A.units+64<a7):Z2 X (Qp .NotIn) (Ni true true):=λB π Z ow s x y d v u I q r1 r2=>by
 obtain⟨k,es,as,bs,ra,rb,c1,c2,c3,rfl⟩:=OA I q r1 r2;exact SeqAt.notIn_tuple_reads rb ra c2 c1 (by lia) ⟨I.sx,.bl⟩
def OB(hu:X.A.units+64<a7)(ha:PE X true a f)(hb:PE X true b g)(hm:AA .NotIn b=false:=by rfl):PT X (.Compare a [.NotIn] [b] pos) (dB (d2 (Ni true true) f g)):=A0 (Tt hu) ha hb hm
end
variable{n0:Nat}{kd:Dt}
section
variable{X:Cx}{B S':AP}{π:Addr}{Z:En}{ow:Os}{s s' s1:kR}{m:Bool}{a b e e' k l o ve:Expr}{es:List Expr}{f g fk fl fv fc:En->Option Dt}{ga:En->Option (List Dt)}{p pos bA Tu xp yp aW aG sN sP:Pos}{x y:Str}{d d0 c c0:Dt}{ds:List Dt}{u v r:kL}{vs:List kL}{q pa:Addr}{qs:List Addr}{i j n:Nat}{io:Bool}{h h':Heap}{t':Nat}{G:Gx}{O O':AP}
def Inv.own2(I:Inv X B π Z ow s)(hN:X.N[i]?=some x)(q:(Z[i]?).bind as2=some (io,d)):∃n0 d0,Z[i]?=some (.ow io n0 d0)/\∃p,du X s.heap x p/\RW X.toGx (X.O B ow) s.heap (ow i) 2 d p:=by
 obtain⟨sl,e,q⟩:=kA.mp q;unfold as2 at q
 split at q<;>cases q
 ·obtain⟨p,h1,_,h2⟩:=I.hol hN e;exact⟨_,_,e,p,h1,h2⟩
 ·obtain⟨p,h1,_,hS,vs,x,r⟩:=I.hol hN e;rw[Rs] at r;subst r;exact⟨_,_,e,p,h1,[],λa=>by simp[hS a],by simp,[],x,rfl,rfl,λi d q h=>by simp at h⟩
 ·obtain⟨p,h1,_,hS,vs,x,r⟩:=I.hol hN e;rw[Rs] at r;subst r;exact⟨_,_,e,p,h1,[],λa=>by simp[hS a],by simp,[],x,rfl,rfl,λi d q h=>by simp at h⟩
theorem Top.ch{R:List Dt->List kL->Prop}(t:Top G O h R d pa):∃vs,R (yZ d) vs:=by
 cases d with
 |list ds=>obtain⟨vs,_,_,_,r⟩:=t;exact⟨vs,r⟩
 |dK ks ds=>obtain⟨vs,_,r⟩:=t;exact⟨vs,r⟩
 |dT ks ds=>obtain⟨vs,_,r⟩:=t;exact⟨vs,r⟩
 |_=>exact t.elim
theorem Top.setCh{R R':List Dt->List kL->Prop}(t:Top G O h R d pa)(g:Gd O h O' h')(k:∀o,h.get? pa=some o->h'.get? pa=some o)(r:∀vs,R (yZ d) vs->R' ((yZ d).set j c) vs):Top G O' h' R' (setCh d j c) pa:=by
 cases d with
 |list ds=>obtain⟨vs,n,e,l,z⟩:=t;exact⟨vs,n,k _ e,l,r vs z⟩
 |dK ks ds=>obtain⟨vs,x,z⟩:=t;exact⟨vs,x.at k,r vs z⟩
 |dT ks ds=>obtain⟨vs,x,z⟩:=t;exact⟨vs,x.at g k,r vs z⟩
 |_=>exact t.elim
def vW(top:Top G O h (H4 G O h qs) d pa)(g:Gd O h O' h')(k:∀a o,h.get? a=some o->(∀z,o.data≠.fields z)->h'.get? a=some o):Top G O' h' (H4 G O' h' qs) d pa:=by
 obtain⟨o,e,nf⟩:=top.get;exact top.imp g (λo' e'=>by rw[e] at e';cases e';exact k pa o e nf) λ_ _⟨a,b,c⟩=>⟨a,b,λi d r h1 h2=>by
  have:=c i d r h1 h2;obtain⟨o,e,nf⟩:=this.get;exact this.imp g (λo' e'=>by rw[e] at e';cases e';exact k r o e nf) λ_ _=>Rs.go g _ _⟩
def om2{S:AP}(hS:∀a,S a->ow i a\/O' a){a:Addr}(z:X.O B (cH ow i S) a):X.O B ow a\/O' a:=by
 rcases z with z|⟨j,⟨_,z⟩|⟨_,z⟩⟩|z
 ·exact .inl (.inl z)
 ·exact(hS a z).imp (λz=>.inr (.inl ⟨i,z⟩)) id
 ·exact .inl (.inr (.inl ⟨j,z⟩))
 ·exact .inl (.inr (.inr z))
def Tv{a:Addr}(z:X.O B (cH ow i (ow i)) a):X.O B ow a:=(om2 (O':=bL) (λa z=>.inl z) z).elim id Uq
variable{d0:Dt}
theorem Inv.mut2(I:Inv X B π Z ow s)(M:Nm X i x)(e:Z[i]?=some (.ow io n0 d0))(hp:du X s.heap x pa)(hS:∀a,ow i a↔a=pa\/a∈qs)(nd:(pa::qs).Nodup)(top:Top X.toGx (X.O B ow) s.heap (H4 X.toGx (X.O B ow) s.heap qs) d pa)(hq:qs[j]?=some q)
  (sb:∀a o,a≠q->s.heap.get? a=some o->h'.get? a=some o)(tc:Top X.toGx (X.O B ow) h' (Rs X.toGx (X.O B ow) s.heap) c q):∃aL,Sq X B π ow s (Z.set i (.ow io 2 (setCh d j c))) aL {s with heap:=h',toks:=t'}:=by
 have mq:q∈qs:=kT hq;obtain⟨n1,n2⟩:=QN.mp nd;have oq:ow i q:=(hS q).mpr (.inr mq);have np:pa≠q:=λz=>n1 (z▸mq);have gg:Gd (X.O B ow) s.heap (X.O B ow) h':=λa o e n=>⟨sb a o (λz=>n (z▸.inr (.inl ⟨i,oq⟩))) e,n⟩;obtain⟨vs0,cv,cl,cc⟩:=top.ch;refine I.mutH (S':=ow i) M e hp (λa o e n=>sb a o (λz=>n (z▸oq)) e) (λ_ z=>z) (λa z=>⟨?_,.inl z⟩) λg=>⟨qs,hS,nd,top.setCh (gg.trans (Gd.less λ_=>Tv)) (λo=>sb pa o np) λvs⟨e1,e2,e3⟩=>⟨e1,by rw[Qv];exact e2,λi' d' r' h1 h2=>?_⟩⟩
 ·by_cases z':a=q
  ·subst z';exact tc.get
  ·rcases(hS a).mp z with z2|z2
   ·subst z2;obtain⟨o,eo,nf⟩:=top.get;exact⟨o,sb _ o z' eo,nf⟩
   ·obtain⟨i',hi,er⟩:=uA.mp z2;obtain⟨o,eo,nf⟩:=(cc i' _ a (kH (by lia)) (by rw[<-er];exact kH hi)).get
    exact⟨o,sb _ o z' eo,nf⟩
 ·rw[Aj] at h1
  by_cases ej:j=i'
  ·subst ej;rw[hq] at h2;cases h2;rw[θ rfl] at h1
   split at h1<;>cases h1
   exact tc.imp (Gd.less λ_=>Tv) (λ_ e=>e) λ_ _=>Rs.go (gg.trans (Gd.less λ_=>Tv)) _ _
  ·rw[η ej] at h1;have nr:r'≠q:=λz=>by
    subst z;obtain⟨a1,a2⟩:=kE.mp hq;obtain⟨b1,b2⟩:=kE.mp h2;exact ej ((Dg n2).mp (a2.trans b2.symm))
   exact(e3 i' d' r' h1 h2).imp (gg.trans (Gd.less λ_=>Tv)) (λo=>sb r' o nr) λ_ _=>Rs.go (gg.trans (Gd.less λ_=>Tv)) _ _
def Inv.child(I:Inv X B π Z ow s)(top:Top X.toGx (X.O B ow) s.heap (H4 X.toGx (X.O B ow) s.heap qs) d pa)(ix:xv d kd=some j)(c0:(yZ d)[j]?=some c)(rk:RT X.toGx (X.O B ow) s.heap kd u):∃q,qs[j]?=some q/\Top X.toGx (X.O B ow) s.heap (Rs X.toGx (X.O B ow) s.heap) c q/\((zY d kd).isSome=true->wb X.toGx s.heap pa u (some (.ref q)))/\∀ds,d=.list ds->∃i t vs n,kd=.int i/\u=.int i t/\s.heap.get? pa=some (lo vs n)/\vs.length<=μ/\ixN vs.length i=some j/\vs[j]?=some (.ref q):=by
 obtain⟨vs0,e1,e2,e3⟩:=top.ch;have lj:j<qs.length:=by rw[<-e2];exact(kE.mp c0).1
 have hq:qs[j]?=some qs[j]:=kH lj;refine⟨qs[j],hq,e3 j c _ c0 hq,λhk=>?_,λds ed=>?_⟩
 ·obtain⟨vs,⟨e1,_⟩,_,z⟩:=top.dict hk rk;exact z j _ ix (by rw[e1,kX,hq];rfl)
 ·subst ed
  cases kd<;>first|cases ix|skip
  obtain⟨t,rfl⟩:=rk.int;obtain⟨vs,n,e,l,z1,z2,_⟩:=top;exact⟨_,t,vs,n,rfl,rfl,e,l,by rw[z1,kJ,<-z2];exact ix,by rw[z1,kX,hq];rfl⟩
theorem OC(ix:xv d kd=some j):(zY d kd).isSome=true\/∃ds,d=.list ds:=by
 cases d with
 |list ds=>exact .inr ⟨ds,rfl⟩
 |dK ks ds=>obtain⟨kk,q,_⟩:=kA.mp ix;exact .inl (by simp[zY,q])
 |dT ks ds=>obtain⟨kk,q,_⟩:=kA.mp ix;exact .inl (by simp[zY,q])
 |_=>cases ix
theorem zcy(hu:X.A.units+64<a7)(M:Nm X i x)(I:Inv X B π Z ow s)(q2:(Z[i]?).bind as2=some (io,d))(hk:PE X true k fk)(qk:fk Z=some kd)(ix:xv d kd=some j)(c0:(yZ d)[j]?=some c)(hs:∀ov iv,subscripted k false ov iv=operate [ov,iv] (FR ov iv)){Q:kL->kR->Prop}
  (z:∀pa qs q s1,Sx X B π Z ow s s1->du X s1.heap x pa->(∀a,ow i a↔a=pa\/a∈qs)->(pa::qs).Nodup->Top X.toGx (X.O B ow) s1.heap (H4 X.toGx (X.O B ow) s1.heap qs) d pa->qs[j]?=some q->Top X.toGx (X.O B ow) s1.heap (Rs X.toGx (X.O B ow) s1.heap) c q->Q (.ref q) s1):ν (ο X.P X.w) X.A (eval (.Subscript (.Name x xp) k pos) X.env) Q nE s:=by
 obtain⟨n0,d0,e0,pa,hp,_⟩:=I.own2 M.ix q2;have key:ν (ο X.P X.w) X.A (eval (.Name x xp) X.env) (λo aU=>o=.ref pa/\ν (ο X.P X.w) X.A (eval k X.env) (λu cz=>Sx X B π Z ow s cz/\∃qs q,du X cz.heap x pa/\(∀a,ow i a↔a=pa\/a∈qs)/\(pa::qs).Nodup/\Top X.toGx (X.O B ow) cz.heap (H4 X.toGx (X.O B ow) cz.heap qs) d pa/\qs[j]?=some q/\Top X.toGx (X.O B ow) cz.heap (Rs X.toGx (X.O B ow) cz.heap) c q/\RT X.toGx (X.O B ow) cz.heap kd u) nE aU) nE s:=
  wP I M hp ⟨rfl,ax (hk B π Z ow s kd I qk) λu s2⟨t,r⟩=>by
   have dQ:=hp.sx I t;obtain⟨_,_,_,pa',tP,qs,hS,nd,top⟩:=t.1.own2 M.ix q2;obtain rfl:=dQ.uniq tP;obtain⟨q,hq,tc,_⟩:=t.1.child top ix c0 r;exact⟨t,qs,q,dQ,hS,nd,top,hq,tc,r⟩⟩
 rcases OC ix with dw|⟨ds',rfl⟩
 ·refine SR Cz.lookup hs (ax key λov s1⟨e,h⟩=>ax h λu s2 hw=>?_);obtain⟨t,qs,q,dQ,hS,nd,top,hq,tc,r⟩:=hw;subst e;obtain⟨q',t6,_,g,_⟩:=t.1.child top ix c0 r;rw[hq] at t6;cases t6;exact⟨(g dw).ty.1,Jb hu (g dw) λtk=>z pa qs q _ (t.trans (t.1.tok tk)) dQ hS nd top hq tc⟩
 ·refine Fj (ax key λov s1⟨e,h⟩=>ax h λu s2 hw=>?_);obtain⟨t,qs,q,dQ,hS,nd,top,hq,tc,r⟩:=hw;subst e;obtain⟨q',t6,_,_,g⟩:=t.1.child top ix c0 r;rw[hq] at t6;cases t6;obtain⟨ii,tk,vs,n,rfl,rfl,el,lz,ixv,hv⟩:=g _ rfl;have hn:=fQ;have il:s2.heap.IsList pa vs.toArray:=⟨_,el,rfl,n,rfl⟩;obtain⟨h1,h2,h3,h4⟩:=W5 ixv;have fin:=z pa qs q s2 t dQ hS nd top hq tc
  by_cases h0:0<=ii
  ·rw[Em h0 h4] at h1;exact item_listR il h0 (by omega) (by rw[uD h1];simpa using hv) fin (hs _ _)
  ·rw[EF (by omega) h3] at h1
   exact BY (x:=.ref q) il.typeIs DG.lookup (EG (Q:=λr s'=>r=.ref q/\_) il (by omega) (by rw[ph];omega) (by omega) (by rw[ph,uD h1];simpa using hv) ⟨rfl,fin⟩) (hs _ _)
def E3(i:Nat)(hu:X.A.units+64<a7)(hk:PE X true k fk)(hl:PE X true l fl)(hv:PE X false ve fv)(M:Nm X i x:=by exact⟨yJ (by kernel_rfl),rfl,by decide,by decide⟩)(hs:∀ov iv,subscripted k false ov iv=operate [ov,iv] (FR ov iv):=by exact λ_ _=>rfl)(eW:Ur ve (some (.Subscript (.Subscript (.Name x xp) k Tu) l bA)) pos.line X.env=pure false:=by rfl):PS X (.Assign [.Subscript (.Subscript (.Name x xp) k Tu) l bA] ve pos) (j8 i fk fl fv):=λB π Z ow s o I q=>by
 obtain⟨v,q1,q⟩:=kA.mp q;obtain⟨kd,q2,q⟩:=kA.mp q;obtain⟨ld,q3,q⟩:=kA.mp q;obtain⟨⟨io,d⟩,q4,q⟩:=kA.mp q;obtain⟨j,q5,q⟩:=kA.mp q;obtain⟨c0,q6,q⟩:=kA.mp q;obtain⟨c,q7,q⟩:=kA.mp q
 cases q;refine AS (ax (hv B π Z ow s v I q1) λu s1⟨t1,r1⟩=>zcy hu M t1.1 q4 hk q2 q5 q6 hs λpa qs q s2 t2 hp hS nd top hq tc=>ax (hl B π Z ow s2 ld t2.1 q3) λw s3 hw=>?_) eW;obtain⟨t3,r3⟩:=hw;obtain⟨n0,d0,e0,pa',tP,qs',sL,Tw,E4⟩:=t3.1.own2 M.ix q4;have oq:X.O B ow q:=.inr (.inl ⟨i,(hS q).mpr (.inr (kT hq))⟩);have nT:∀{a o},s2.heap.get? a=some o->(∀z,o.data≠.fields z)->s3.heap.get? a=some o:=λe nf=>t3.2.kp _ _ e id (t2.1.nt e nf);have g3:=t2.1.gd t3.2;have tc3:Top X.toGx (X.O B ow) s3.heap (Rs X.toGx (X.O B ow) s3.heap) c0 q:=by obtain⟨o,e,nf⟩:=tc.get;exact tc.imp g3 (λo' e'=>by rw[e] at e';cases e';exact nT e nf) λ_ _=>Rs.go g3 _ _
 have OD:=vW top g3 λa o e nf=>nT e nf;refine Mm hu oq tc3 q7 r3 (R.go (t1.1.gd (t2.2.then t3.2)) _ _ r1) λh' tk sb nt=>?_;obtain⟨w',kk⟩:=t3.1.mut2 (t':=tk) M e0 (hp.sx t2.1 t3) hS nd OD hq (λa o n e=>(sb.2 a n).trans e) nt;exact⟨w',((t1.trans t2).trans t3).sq.trans kk⟩
theorem Inv.app_child{cs:List Dt}{yd:Dt}{w:kL}(I:Inv X B π Z ow s)(M:Nm X i x)(e:Z[i]?=some (.ow io n0 d0))(hp:du X s.heap x pa)(hS:∀a,ow i a↔a=pa\/a∈qs)(nd:(pa::qs).Nodup)(top:Top X.toGx (X.O B ow) s.heap (H4 X.toGx (X.O B ow) s.heap qs) d pa)(hq:qs[j]?=some q)(c0:(yZ d)[j]?=some (.list cs))(l:cs.length<μ)(r:R X.toGx (X.O B ow) s.heap yd w):
  ν (ο X.P X.w) X.A (Hb (.builtin "list.append") [.ref q,w]) (λ_ s'=>∃aL,Sq X B π ow s (Z.set i (.ow io 2 (setCh d j (.list (cs++[yd]))))) aL s') nE s:=by
 obtain⟨vs0,_,_,cc⟩:=top.ch;obtain⟨vs,nn,el,lz,rs⟩:=cc j _ q c0 hq;have hl:=rs.len;refine CE hH ⟨_,el,rfl⟩ BA (As _ _) (DL q vs.toArray nn w (by rw[ph];lia)) ⟨el,?_⟩
 have zz:=Dh el (λx=>x.push w);rw[show vs.toArray.push w=(vs++[w]).toArray by simp] at zz
 exact I.mut2 (t':=s.toks) (c:=.list (cs++[yd])) M e hp hS nd top hq (λa o n e=>(uH s.heap _ (gB n)).trans e) ⟨_,_,zz,by rw[kW,QU];lia,rs.app (.cons r .nil)⟩
def Kn(i:Nat)(hu:X.A.units+64<a7)(hi:PE X true k f)(M:Nm X i x:=by exact⟨yJ (by kernel_rfl),rfl,by decide,by decide⟩)(h1:AA .NotIn (.Name x xp)=false:=by rfl):PT X (.Compare k [.NotIn] [.Name x xp] pos) (dB (qm true f i)):=λB π Z ow s rb I q=>by
 obtain⟨db,q,e⟩:=kA.mp q;obtain⟨kd,q1,q⟩:=kA.mp q;obtain⟨⟨io,d⟩,q2,q⟩:=kA.mp q;obtain⟨c,q3,q⟩:=kA.mp q
 cases q;cases e;refine Bv (ax (hi B π Z ow s kd I q1) λu s1 hw=>?_) h1;obtain⟨t,r⟩:=hw;obtain⟨_,_,_,pa,hp,qs,_,_,top⟩:=t.1.own2 M.ix q2;refine wP t.1 M hp ?_;obtain⟨_,_,z,_⟩:=top.dict (k:=kd) (by rw[q3];rfl) r
 obtain⟨ov,g,eo⟩:=z c q3;exact SM hu g λtk=>UG ⟨by rw[eo];rfl,t.trans (t.1.tok tk)⟩
theorem Inv.add2(I:Inv X B π Z ow s)(M:Nm X i x)(e:Z[i]?=some (.ow io n0 d0))(hp:du X s.heap x pa)(hS:∀a,ow i a↔a=pa\/a∈qs)(nd:(pa::qs).Nodup){ks:List KT}{ks':List KT}{vs':List kL}(cl:ds.length=qs.length)(cc:∀(i:Nat)(d:Dt)(q:Addr),ds[i]?=some d->qs[i]?=some q->Top X.toGx (X.O B ow) s.heap (Rs X.toGx (X.O B ow) s.heap) d q)
  (nq:s.heap.get? q=none)(t:St X.toGx (λa=>a=pa) s s')(ge:EE s'.gens)(lt:∀t∈X.tb,LT (X.O (λa=>B a\/a=q) ow) s'.heap t)(x':DT X.toGx (X.O (λa=>B a\/a=q) ow) s'.heap pa ks' vs')(ev:vs'=(qs++[q]).map .ref)(tc:Top X.toGx (X.O (λa=>B a\/a=q) ow) s'.heap (Rs X.toGx (X.O (λa=>B a\/a=q) ow) s'.heap) c q):
  ∃aL,Sq X B π ow s (Z.set i (.ow io 2 (.dT ks' (ds++[c])))) aL s'/\(∀a,aL i a↔a=pa\/a∈qs++[q])/\(pa::(qs++[q])).Nodup/\Top X.toGx (X.O B aL) s'.heap (H4 X.toGx (X.O B aL) s'.heap (qs++[q])) (.dT ks' (ds++[c])) pa:=by
 obtain⟨n1,n2⟩:=QN.mp nd;have op:ow i pa:=(hS pa).mpr (.inl rfl);have np:q≠pa:=λz=>I.apart nq (z▸.inr (.inl ⟨i,op⟩));have nqs:q∉qs:=λz=>I.apart nq (.inr (.inl ⟨i,(hS q).mpr (.inr z)⟩));have om:∀{a},X.O B (cH ow i λa=>ow i a\/a=q) a->X.O (λa=>B a\/a=q) ow a:=λz=>(om2 (O':=λa=>a=q) (λa z=>z) z).elim (λz=>z.imp .inl id) λz=>.inl (.inr z);have kq:∀{a o},a≠pa->s.heap.get? a=some o->(∀z,o.data≠.fields z)->s'.heap.get? a=some o:=λn e nf=>t.kp _ _ e n (I.nt e nf);have g:Gd (X.O B ow) s.heap (X.O B (cH ow i λa=>ow i a\/a=q)) s'.heap:=λa o e n=>⟨t.kp a o e (λz=>n (z▸.inr (.inl ⟨i,op⟩))) λz=>n (.inl (I.bt a z)),λz=>(om2 (O':=λa=>a=q) (λa z=>z) z).elim n λz=>by rw[z,nq] at e;cases e⟩
 have chn:∀{a},a∈qs->∃o,s.heap.get? a=some o/\∀z,o.data≠.fields z:=λz=>by
  obtain⟨i',hi,er⟩:=uA.mp z;exact(cc i' _ _ (kH (by lia)) (by rw[<-er];exact kH hi)).get
 have Tw:(pa::(qs++[q])).Nodup:=by
  rw[<-Qm,QG];exact⟨nd,by simp,λa ha b hb e=>by simp at hb;subst hb;subst e;rcases kg.mp ha with z|z;exact np z;exact nqs z⟩
 have E4:Top X.toGx (X.O B (cH ow i λa=>ow i a\/a=q)) s'.heap (H4 X.toGx (X.O B (cH ow i λa=>ow i a\/a=q)) s'.heap (qs++[q])) (.dT ks' (ds++[c])) pa:=by
  refine⟨vs',x'.at (Gd.less λ_=>om) (λ_ e=>e),ev,by simp[cl],λi' d' r' h1 h2=>?_⟩
  by_cases hi:i'<qs.length
  ·rw[UC hi] at h2;rw[UC (by lia)] at h1
   have tt:=cc i' d' r' h1 h2;obtain⟨o,e,nf⟩:=tt.get;exact tt.imp g (λo' e'=>by rw[e] at e';cases e';exact kq (λy=>n1 (y▸kT h2)) e nf) λ_ _=>Rs.go g _ _
  ·rw[QH (by lia)] at h2
   rw[QH (by lia)] at h1
   have e0:i'-qs.length=0:=by have:=(kE.mp h2).1;simp at this;lia
   rw[e0] at h2;rw[cl,e0] at h1
   cases h1;cases h2;exact tc.imp (Gd.less λ_=>om) (λ_ e=>e) λ_ _=>Rs.go (Gd.less λ_=>om) _ _
 refine⟨_,I.mut (S':=λa=>ow i a\/a=q) M e hp ⟨t.os,λa o e n nt=>t.kp a o e (λz=>n (z▸op)) nt,t.ex,t.tg⟩ ge (λa z=>⟨?_,z.imp id λz=>by rw[z];exact nq⟩) (λt m=>(lt t m).go (λa z=>.inl (om z)) (λ_ _ e _=>e) λ_ e=>e) ⟨qs++[q],λa=>by simp[hS a,or_assoc],Tw,E4⟩,λa=>by simp[cH,hS a,or_assoc],Tw,E4⟩
 rcases z with z|z
 ·rcases(hS a).mp z with z|z
  ·subst z;obtain⟨o,_,_,e,dd⟩:=x'.get;exact⟨o,e,λz y=>by rw[dd] at y;cases y⟩
  ·obtain⟨o,e,nf⟩:=chn z;exact⟨o,kq (λy=>n1 (y▸z)) e nf,nf⟩
 ·subst z;exact tc.get
end
section
variable{prog:Qq}{w:World}{A:Qd}{E:kL->kR->Prop}{s:kR}{κ:Type}[DecidableEq κ]{dJ:HeapKind prog w κ}
variable{Q:kL->kR->Prop}
theorem Ko{d a:Addr}{xs:List (κ×Addr×kL)}{k:κ}(hu:dJ.room A)(tR:dJ.is s.heap k a)(hm:s.heap.DictOfH dJ d xs)(hz:xs.length<=μ)(q1:∀p,atKey xs k=some p->Q p.2 {s with toks:=s.toks+dJ.draws k})
  (q2:atKey xs k=none->∀h',h'.DictOfH dJ d (GB xs k a v)->UQ d s.heap h'->Q v {s with heap:=h',toks:=s.toks+dJ.draws k}):ν (ο prog w) A (FB d (.ref a) v) Q E s:=by
 obtain⟨o,es,ep,ho,hc,hd,he,his,hn⟩:=hm;unfold FB;refine AD (kC (dJ.pyHash hu tR (kC (wpAny_dictFind_heap (s:={s with toks:=s.toks+dJ.draws k}) hu tR ho hd he his hn (λhno=>?_) λj p hj=>?_))))
 ·have an:=atKey_none_of_get hno;have hnot:k∉xs.map (·.1):=not_mem_keys_of_get hno;refine kC (Ud (kC (wpAny_updateDictKeys (hz:=by have e:=size_of_entries he;lia) (s:={s with toks:=s.toks+dJ.draws k}) ho hd (kO (q2 an _ ⟨_,_,ep+1,QJ _ ho (Obj.isFreed_of_dict (FE hd _)),hc.mapDictKeys _,FE hd _,?_,?_,?_⟩ (UE ..))))))
  ·rw[HB an]
   simp[he,HV]
  ·rw[HB an];intro x hx;rcases pD.mp hx with y|y
   ·exact dJ.keeps (his x y) ho hd (UE ..)
   ·rw[ki.mp y];exact dJ.keeps tR ho hd (UE ..)
  ·rw[HB an,ku,QG];refine⟨hn,by simp,λx hx y hy e=>hnot ?_⟩
   have y':y=k:=by simpa using hy
   rw[<-y',<-e];exact hx
 ·refine kC (Bf (s:={s with toks:=s.toks+dJ.draws k}) ho hd ?_);rw[entry_at he j,hj];exact kC (Ud (kO (q1 p (atKey_of_get hn hj))))
def Kp{d a:Addr}(hd:(d==gE)=false){xs:List (κ×Addr×kL)}{k:κ}(hu:dJ.room A.in1)(tR:dJ.is s.heap k a)(hm:s.heap.DictOfH dJ d xs)(hz:xs.length<=μ)(q1:∀p,atKey xs k=some p->Q p.2 {s with toks:=s.toks+dJ.draws k})
  (q2:atKey xs k=none->∀h',h'.DictOfH dJ d (GB xs k a v)->UQ d s.heap h'->Q v {s with heap:=h',toks:=s.toks+dJ.draws k}):ν (ο prog w) A (call (.builtin "dict.setdefault") [.ref d,.ref a,v]) Q E s:=by
 have M:MeetsIn prog w (Am.«dict.setdefault» ⟨[.ref d,.ref a,v],[]⟩) (λA R s=>dJ.room A.in1/\∃k xs,dJ.is s.heap k a/\s.heap.DictOfH dJ d xs/\xs.length<=μ/\(∀p,atKey xs k=some p->R (.ok (.ret p.2)) {s with toks:=s.toks+dJ.draws k})/\(atKey xs k=none->∀h',h'.DictOfH dJ d (GB xs k a v)->UQ d s.heap h'->R (.ok (.ret v)) {s with heap:=h',toks:=s.toks+dJ.draws k})):=
  .of_wp λA R s⟨hu,k,xs,tR,hm,hz,h1,h2⟩=>by
   unfold Am.«dict.setdefault» Builtin.Dict.keyAndDefault;refine kC (kC (Ed hm.typeIs ?_));show ν _ _ (pure (d,Ql a,some v)) _ _ s;refine kO ?_;show ν _ _ (if(d==gE)=true then _ else(FB d (Ql a) v>>=_)) _ _ s;rw[η (by rw[hd];decide)]
   exact kC (Ko hu tR hm hz (λp hp=>kO ⟨p.2,rfl,h1 p hp⟩) λhn h' dW On=>kO ⟨v,rfl,h2 hn h' dW On⟩)
 exact GD CV hm.typeIs PySem.F.entry_dict_setdefault (PySem.F.args_dict_setdefault_3 _ _ _) M ⟨hu,k,xs,tR,hm,hz,q1,q2⟩
end
section
variable{X:Cx}{B:AP}{π:Addr}{Z:En}{ow:Os}{s s' s1:kR}{m:Bool}{e e' k ve:Expr}{es:List Expr}{f g fk fc:En->Option Dt}{ga:En->Option (List Dt)}{p pos bA xp yp lp aW aG sN sP tS:Pos}{x y:Str}{d d0 c:Dt}{ds:List Dt}{us:List kL}{q pa:Addr}{qs:List Addr}{i j:Nat}{io:Bool}
def XJ(I:Inv X B π Z ow s)(t:St X.toGx bL s s1)(nq:s.heap.get? q=none):Gd (X.O B ow) s.heap (X.O (λa=>B a\/a=q) ow) s1.heap:=λa o e n=>⟨t.kp a o e id λz=>n (.inl (I.bt a z)),λz=>n (z.elim (λz=>z.elim .inl λz=>by rw[z,nq] at e;cases e) .inr)⟩
theorem zdt{d0 c d:Dt}(q:qW d0 kd c=some d):∃ks ds kk,d0=.dT ks ds/\xI kd=some kk/\ks.length<μ/\yO ks kk=false/\d=.dT (ks++[kk]) (ds++[c]):=by
 cases d0 with
 |dT ks ds=>
  obtain⟨kk,q1,q⟩:=kA.mp q
  split at q<;>cases q
  have z:=‹_/\_›;exact⟨ks,ds,kk,rfl,q1,z.1,z.2,rfl⟩
 |_=>cases q
def Mv{κ:Type}[DecidableEq κ]{ks:List κ}{kk:κ}(h:yO ks kk=false):pK ks kk=ks++[kk]:=η (of_decide_eq_false h)
def Mx{κ α:Type}[DecidableEq κ]{ks:List κ}{vs:List α}{kk:κ}{v:α}(h:yO ks kk=false):pV ks vs kk v=vs++[v]:=η (of_decide_eq_false h)
def E5(i:Nat)(hu:X.A.units+64<a7)(hk:PE X true k fk)(hv:PF X ve fc)(M:Nm X i x:=by exact⟨yJ (by kernel_rfl),rfl,by decide,by decide⟩)(hs:Ur ve (some (.Subscript (.Name x xp) k bA)) pos.line X.env=pure false:=by rfl):PS X (.Assign [.Subscript (.Name x xp) k bA] ve pos) (Yb i fk fc):=λB π Z ow s o I qq=>by
 obtain⟨c,q1,qq⟩:=kA.mp qq;obtain⟨kd,q2,qq⟩:=kA.mp qq;obtain⟨⟨io,d0⟩,q3,qq⟩:=kA.mp qq;obtain⟨d,q4,qq⟩:=kA.mp qq
 cases qq;obtain⟨ks,ds,kk,rfl,h1,h2,h3,rfl⟩:=zdt q4;obtain⟨n0,dd0,e0,pa,hp,qs,hS,nd,top⟩:=I.own2 M.ix q3;refine AS (ax (hv B π Z ow s c I q1) λu s1 hw=>?_) hs;obtain⟨t1,q,eq,nq,tc⟩:=hw;subst eq;have J1:=I.newp (B':=λa=>a=q) t1 (λa z=>z▸nq) λa z=>by subst z;exact tc.get
 refine wP J1 M (hp.sx I t1) (ax (hk _ π Z ow s1 kd J1 q2) λiv s2 hw=>?_);obtain⟨t2,r2⟩:=hw;have Mz:St X.toGx bL s s2:=t1.2.then t2.2;have nT:∀a o,s.heap.get? a=some o->(∀z,o.data≠.fields z)->s2.heap.get? a=some o:=λa o e nf=>Mz.kp a o e id (I.nt e nf);obtain⟨vs,xx,cv,cl,cc⟩:=vW top (XJ I Mz nq) nT;obtain⟨b,rfl,hb⟩:=YJ h1 r2;have op:ow i pa:=(hS pa).mpr (.inl rfl);refine Zc hu (.inr (.inl ⟨i,op⟩)) xx hb h2 λh' tk sb x'=>?_;rw[Mv h3,Mx h3] at x';have np:q≠pa:=λz=>I.apart nq (z▸.inr (.inl ⟨i,op⟩));obtain⟨vs0,_,_,_,cc0⟩:=top;have g2:=J1.gd t2.2;have oP:X.O (λa=>B a\/a=q) ow pa:=.inr (.inl ⟨i,op⟩);have g3:Gd (X.O (λa=>B a\/a=q) ow) s2.heap (X.O (λa=>B a\/a=q) ow) h':=λa o e n=>⟨(sb.2 a λz=>n (z▸oP)).trans e,n⟩;have g0:Gd (λa=>X.O B ow a\/a=q) s1.heap (X.O (λa=>B a\/a=q) ow) s1.heap:=Gd.less λa z=>z.elim (λz=>z.elim (λz=>.inl (.inl z)) .inr) λz=>.inl (.inr z);obtain⟨oq,eq,nfq⟩:=tc.get;have tcc:=tc.imp ((g0.trans g2).trans g3) (λo e=>by rw[eq] at e;cases e;exact(sb.2 q np).trans (t2.2.kp q oq eq id (J1.nt eq nfq))) λ_ _=>Rs.go ((g0.trans g2).trans g3) _ _
 have Tz:¬X.T pa:=by obtain⟨⟨o,e,nf⟩,_⟩:=I.own i pa op;exact I.nt e nf
 obtain⟨aL,Kq,_⟩:=I.add2 (s':={s2 with heap:=h',toks:=tk}) (ks:=ks) M e0 hp hS nd cl cc0 nq (Mz.up.trans (W':=λa=>a=pa) (W:=λa=>a=pa) ⟨rfl,λa o e n _=>(sb.2 a n).trans e,λa o e=>by
  by_cases z:a=pa
  ·subst z;obtain⟨o',_,_,e',_⟩:=x'.get;exact⟨o',e'⟩
  ·exact⟨o,(sb.2 a z).trans e⟩,λa ps z e=>⟨#[],by rw[show h'.get? a=_ from(sb.2 a λy=>Tz (y▸z)).trans e];simp⟩⟩ λa z=>.inl z) t2.1.ge (λt m=>(t2.1.tb t m).go (λa z=>.inl z) (λb o e n=>(sb.2 b λz=>n (z▸oP)).trans e) λo e=>(sb.2 _ λz=>Tz ⟨t,m,z⟩).trans e) x' (by rw[cv];simp) tcc
 exact⟨aL,Kq⟩
def TC(i:Nat){k k':Nat}{fa:Addr}{fd:Qn}{ps:List Str}{F:Dt->List Dt->Option Dt}{st:Stmt}(ok:FnW X.toGx k fa fd ps F)(T:zi X.K X.mg x st ps fa fd)(hr:zK k' X.A)(ha:PA X false es ga)(hk:k<=k':=by decide)(hg:Gl X x:=by rfl)(tO:(x==("__debug__":Str))=false:=by decide)(M:Nm X i y:=by exact⟨yJ (by kernel_rfl),rfl,by decide,by decide⟩)
  (he:pO (.Name y xp::es) X.env=(false,eval (.Name y xp) X.env)::pO es X.env:=by rfl) (hpl:(Qh aG (pO es X.env)).any (·.1)=false:=by rfl) (eW:Ur (.Call (.Name x p) (.Name y xp::es) [] aG) none pos.line X.env=pure false:=by rfl):PS X (.Expr (.Call (.Name x p) (.Name y xp::es) [] aG) pos) (Nh i F ga):=λB π Z ow s o I q=>by
 obtain⟨ds,q1,q⟩:=kA.mp q;obtain⟨⟨io,d0⟩,q2,q⟩:=kA.mp q;obtain⟨d,q3,q⟩:=kA.mp q
 cases q;refine Ep (QI (W6 I hg T.mg (Ck (h₀:=X.base) I.ok.mod.kin T.kp ?_ he hpl) tO)) I.quiet eW;rw[he];obtain⟨n0,dd0,e0,pa,hp,_⟩:=I.own2 M.ix q2;show ν _ _ (spliced ((false,eval (.Name y xp) X.env)::Qh aG (pO es X.env))) _ _ s;refine uZ (wP I M hp (ax (ha aG B π Z ow s ds I q1) λus s1⟨t,r⟩=>⟨t.1.kin,?_⟩));obtain⟨n1,dd1,e1,pa',tP,w⟩:=t.1.own2 M.ix q2;obtain rfl:=(hp.sx I t).uniq tP;have eqs:∀{a},(X.O B (cH ow i bL) a\/ow i a)->X.O B ow a:=λz=>z.elim (λz=>(om2 (O':=bL) (λa z=>z.elim) z).elim id Uq) λz=>.inr (.inl ⟨i,z⟩);have rs:=Yr r;have hB:=T.bn s1 (.ref pa::us) t.1.kin (by rw[kZ,<-rs.len];exact ok.len _ _ _ q3)
 refine EJ (gh (ok.run X.A (X.O B (cH ow i bL)) (ow i) pa s1 ⟨.ref pa::us,[]⟩ us d0 ds d (hr.mono hk) (t.1.e0.less (λa=>eqs) λa z=>.inl (.inl (I.bt a z))) (λa z=>⟨(t.1.own i a z).1,λy=>?_⟩) hB (w.go (Gd.less λ_=>eqs) λ_ _ _ e=>e) (Rs.go (Gd.less λ_=>eqs) _ _ rs) q3) λrr s2⟨u,S',er,t2,e2,sL,w2⟩=>?_)
 ·obtain⟨_,nb,nl,nc⟩:=t.1.own i a z;rcases y with y|⟨j,⟨_,y⟩|⟨hj,y⟩⟩|y|y
  ·exact nb y
  ·exact y
  ·exact hj (t.1.inj _ _ a y z)
  ·exact nl y
  ·exact nc y
 ·subst er;have om:∀{a},X.O B (cH ow i S') a->X.O B (cH ow i bL) a\/S' a:=λz=>by
   rcases z with z|⟨j,⟨_,z⟩|⟨hj,z⟩⟩|z
   ·exact .inl (.inl z)
   ·exact .inr z
   ·exact .inl (.inr (.inl ⟨j,.inr ⟨hj,z⟩⟩))
   ·exact .inl (.inr (.inr z))
  exact⟨_,t.sq.trans (t.1.mut M e1 tP t2 e2.ge (λa z=>⟨(sL a z).1.1,(sL a z).2⟩) (λtt m=>(e2.tb tt m).go (λa z=>.inl (om z)) (λ_ _ e _=>e) λ_ e=>e) (w2.go (Gd.less λ_=>om) λ_ _ _ e=>e))⟩
end
variable{ns:List Int}
section
variable{X:Cx}{B:AP}{π:Addr}{Z:En}{ow:Os}{s s' s1:kR}{m:Bool}{e e' k ve:Expr}{es:List Expr}{f g fk fc:En->Option Dt}{ga:En->Option (List Dt)}{p pos bA xp yp lp aW aG sN sP tS:Pos}{x y:Str}{d d0 c:Dt}{ds:List Dt}{us:List kL}{q pa:Addr}{qs:List Addr}{i j:Nat}{io:Bool}
variable{vs:List kL}
theorem zbx{κ:Type}[DecidableEq κ]{ks:List κ}{kk:κ}(l:bs.length=vs.length):(atKey (ks.zip (bs.zip vs)) kk).map (·.2)=cR ks vs kk:=by
 show(((ks.zip (bs.zip vs)).find? _).map (·.2)).map _=_
 rw[qt,jD,CF (by lia)]
theorem posK_none{κ:Type}[DecidableEq κ]:∀{ks:List κ}{k:κ},zV ks k=none->yO ks k=false
 |[],k,_=>by simp[yO]
 |k'::ks,k,h=>by
  unfold zV at h
  split at h
  ·cases h
  ·rename_i n
   have:=posK_none (ks:=ks) (k:=k) (by cases e:zV ks k with|none=>rfl|some j=>rw[e] at h;cases h)
   unfold yO at this⊢;simp only[kg,decide_eq_false_iff_not] at this⊢;exact λz=>z.elim (λz=>n z.symm) this
theorem Kr(i j:Nat)(hu:X.A.units+64<a7)(hk:PE X true k fk)(hy:X.N[j]?=some y:=by rfl)(M:Nm X i x:=by exact⟨yJ (by kernel_rfl),rfl,by decide,by decide⟩)(n1:NS k:=by intro _ _;rfl)(T:Mt X (.Name x xp) "setdefault" [k,.List [] lp] aW aG:=by exact⟨rfl,rfl,rfl,_,_,rfl,rfl⟩)
  (T2:Mt X (.Call (.Attribute (.Name x xp) "setdefault" aW) [k,.List [] lp] [] aG) "append" [.Name y yp] sN sP:=by exact⟨rfl,rfl,rfl,_,_,rfl,rfl⟩) (eW:Ur (.Call (.Attribute (.Call (.Attribute (.Name x xp) "setdefault" aW) [k,.List [] lp] [] aG) "append" sN) [.Name y yp] [] sP) none pos.line X.env=pure false:=by rfl) (yd:(y==("__debug__":Str))=false:=by decide) (yc:(y==("__classdict__":Str))=false:=by decide):
  PS X (.Expr (.Call (.Attribute (.Call (.Attribute (.Name x xp) "setdefault" aW) [k,.List [] lp] [] aG) "append" sN) [.Name y yp] [] sP) pos) (vG i fk j):=λB π Z ow s o I qq=>by
 obtain⟨kd,q1,qq⟩:=kA.mp qq;obtain⟨v,q2,qq⟩:=kA.mp qq;obtain⟨⟨io,d0⟩,q3,qq⟩:=kA.mp qq;obtain⟨d,q4,qq⟩:=kA.mp qq
 cases qq
 obtain⟨ks,ds,rfl⟩:∃ks ds,d0=.dT ks ds:=by cases d0<;>first|cases q4|exact⟨_,_,rfl⟩
 obtain⟨kk,q5,q4⟩:=kA.mp q4
 split at q4
 next lk=>
  obtain⟨n0,dd0,e0,pa,hp,qs,hS,nd,top⟩:=I.own2 M.ix q3;have nTs:∀{s2},St X.toGx bL s s2->∀a o,s.heap.get? a=some o->(∀z,o.data≠.fields z)->s2.heap.get? a=some o:=λt a o e nf=>t.kp a o e id (I.nt e nf);have pd:s.TypeIs (.ref pa) "dict"/\∀a,Ql pa=.ref a->∃ob,s.heap.get? a=some ob/\ob.dict=none:=by
   obtain⟨_,⟨_,_,_,_,_,_,_,o,_,_,e,ex,_⟩,_⟩:=top;exact⟨⟨o,e,ex.1⟩,λa z=>by cases z;exact⟨o,e,ex.2.1⟩⟩
  refine Ep (Iz Di hH DU T2 (Iz Dk CV PySem.F.type_dict_setdefault T (wP I M hp ⟨pd,T.sp2 n1 (λ_ _=>rfl) (ax (hk B π Z ow s kd I q1) λu s1⟨t1,r1⟩=>ax (C9 dO B π Z ow s1 (.list []) t1.1 rfl) λw s2 hw=>?_)⟩))) I.quiet eW;obtain⟨t2,q,eq,nq,tc⟩:=hw;subst eq;obtain⟨b,rfl,hb⟩:=YJ q5 r1;have nq0:=t1.2.free nq;have hb2:=hb.go (XJ t1.1 t2.2 nq);have Mz:St X.toGx bL s s2:=t1.2.then t2.2;have J2:=t1.1.newp (B':=λa=>a=q) t2 (λa z=>z▸nq) λa z=>by subst z;exact tc.get
  obtain⟨vs,xx,cv,cl,cc⟩:=vW top (XJ I Mz nq0) (nTs Mz);obtain⟨bs,l1,l2,pr,dd⟩:=xx.of;have sy:(pa==gE)=false:=by obtain⟨_,_,_,_,sy,_⟩:=xx;exact sy
  have lz:vs.length<=μ:=by obtain⟨_,_,_,lz,_⟩:=xx;exact lz
  have op:ow i pa:=(hS pa).mpr (.inl rfl);have az:=zbx (ks:=ks) (kk:=kk) l2;refine Kp sy (fw hu) hb2.bare dd (by rw[Qk,Qk];lia) (λp' tP=>?_) λhn h' A4 sb=>?_
  ·--it was there
   rw[tP,Um] at az;obtain⟨j',h1,h2⟩:=jn.mp az.symm;rw[h1] at q4;obtain⟨c0,q6,q4⟩:=kA.mp q4;obtain⟨c1,q7,q4⟩:=kA.mp q4
   cases q4;rw[cv,kX] at h2;obtain⟨qj,hq,eq⟩:=uW.mp h2;rw[<-eq]
   cases c0<;>first|cases q7|skip
   rename_i cs
   change (if cs.length<μ then some (Dt.list (cs++[v])) else none)=_ at q7
   split at q7<;>cases q7
   have t3:=(t1.trans t2).trans (t2.1.tok (s2.toks+(xh X.P X.w).draws kk));have OD:=vW top (I.gd t3.2) (nTs t3.2);obtain⟨_,_,_,_,cc3⟩:=_root_.id OD;obtain⟨vv,nn,el,_⟩:=cc3 j' _ qj q6 hq;refine⟨W3 el,uZ (ax (dv (m:=false) j hy yd yc B π Z ow _ v t3.1 q2) λw s4⟨t4,r4⟩=>Qb ?_)⟩;have t5:=t3.trans t4;exact ax (t5.1.app_child M e0 (hp.sx I t5) hS nd (vW top (I.gd t5.2) (nTs t5.2)) hq q6 ‹_› r4) λ_ s6⟨w',Kq⟩=>⟨w',t5.sq.trans Kq⟩
  ·--it was not
   rw[hn,Option.map_none] at az;have hpn:zV ks kk=none:=by
    cases e:zV ks kk with
    |none=>rfl
    |some j'=>have:=jn.mpr ⟨j',e,kH (l:=vs) (by have:=zak e;lia)⟩;rw[<-az] at this;cases this
   rw[hpn] at q4
   cases q4;have h3:=posK_none hpn;have oP:X.O (λa=>B a\/a=q) ow pa:=.inr (.inl ⟨i,op⟩);have x':=Zj xx oP hb2 lk sb l1 l2 pr A4;rw[Mv h3,Mx h3] at x';have np:q≠pa:=λz=>I.apart nq0 (z▸.inr (.inl ⟨i,op⟩));have g3:Gd (X.O (λa=>B a\/a=q) ow) s2.heap (X.O (λa=>B a\/a=q) ow) h':=λa o e n=>⟨(sb.2 a λz=>n (z▸oP)).trans e,n⟩;have g0:Gd (λa=>X.O B ow a\/a=q) s2.heap (X.O (λa=>B a\/a=q) ow) s2.heap:=Gd.less λa z=>z.elim (λz=>z.elim (λz=>.inl (.inl z)) .inr) λz=>.inl (.inr z);have tcc:=tc.imp (g0.trans g3) (λo e=>(sb.2 q np).trans e) λ_ _=>Rs.go (g0.trans g3) _ _;have Tz:¬X.T pa:=by obtain⟨⟨o,e,nf⟩,_⟩:=I.own i pa op;exact I.nt e nf
   obtain⟨vs0,_,_,_,cc0⟩:=top;obtain⟨aL,Kq,sL,Tw,E4⟩:=I.add2 (s':={s2 with heap:=h',toks:=s2.toks+(xh X.P X.w).draws kk}) (ks:=ks) M e0 hp hS nd cl cc0 nq0 (Mz.up.trans (W':=λa=>a=pa) (W:=λa=>a=pa) ⟨rfl,λa o e n _=>(sb.2 a n).trans e,λa o e=>by
    by_cases z:a=pa
    ·subst z;obtain⟨o',_,_,e',_⟩:=x'.get;exact⟨o',e'⟩
    ·exact⟨o,(sb.2 a z).trans e⟩,λa ps z e=>⟨#[],by rw[show h'.get? a=_ from(sb.2 a λy=>Tz (y▸z)).trans e];simp⟩⟩ λa z=>.inl z) J2.ge (λt m=>(J2.tb t m).go (λa z=>.inl z) (λb o e n=>(sb.2 b λz=>n (z▸oP)).trans e) λo e=>(sb.2 _ λz=>Tz ⟨t,m,z⟩).trans e) x' (by rw[cv];simp) tcc
   have ji:j≠i:=λz=>by rw[z] at q2;unfold dV at q2;rw[e0] at q2;cases q2
   have q2':dV j (Z.set i (.ow io 2 (.dT (ks++[kk]) (ds++[.list []]))))=some v:=by unfold dV at q2⊢;rw[hZ (gB ji)];exact q2
   obtain⟨vq,nn,el,_⟩:=tcc;have li:i<Z.length:=(kE.mp e0).1;refine⟨W3 el,uZ (ax (dv (m:=false) j hy yd yc B π _ aL _ v Kq.1 q2') λw s4⟨t4,r4⟩=>Qb ?_)⟩;have MA:du X h' x pa:=by
    refine hp.kp I (W:=λa=>a=pa) (λa o e n nt=>(sb.2 a n).trans (Mz.kp a o e id nt)) λa z=>?_;subst z;exact(I.own i a op).2.2
   have Ks:du X s4.heap x pa:=du.sx (s:={s2 with heap:=h',toks:=s2.toks+(xh X.P X.w).draws kk}) MA Kq.1 t4;refine ax (t4.1.app_child (d:=.dT (ks++[kk]) (ds++[.list []])) (j:=qs.length) (q:=q) (cs:=[]) M (gJ li) Ks sL Tw (vW E4 (Kq.1.gd t4.2) λa o e nf=>t4.2.kp a o e id (Kq.1.nt e nf)) (by simp) (by rw[<-cl];simp[yZ]) (by decide) r4) λ_ s6⟨w',k6⟩=>⟨w',?_⟩
   have:=(Kq.trans t4.sq).trans k6;rw[List.set_set,show setCh (.dT (ks++[kk]) (ds++[.list []])) qs.length (.list ([]++[v]))=.dT (ks++[kk]) (ds++[.list [v]]) by rw[<-cl];simp[setCh]] at this
   exact this
 next=>cases q4
theorem qX{G:Gx}{O:AP}{h:Heap}:∀{ds:List Dt}{vs:List kL}{ns:List Int},zv xa ds=some ns->Rs G O h ds vs->An vs ns
 |[],vs,ns,e,r=>by cases e;rw[Rs] at r;subst r;exact .nil
 |d::ds,vs,ns,e,r=>by
  obtain⟨n,q1,e⟩:=kA.mp e;obtain⟨OE,q2,e⟩:=kA.mp e
  cases e;cases d<;>cases q1
  rw[Rs] at r;obtain⟨v,r',rfl,h1,h2⟩:=r;rw[R] at h1;obtain⟨t,rfl⟩:=h1;exact .cons _ t (qX q2 h2)
variable{h:Heap}
theorem Jl{G:Gx}{O:AP}(x:An vs ns):Rs G O h (ns.map .int) vs:=by
 induction x with
 |nil=>exact .nil
 |cons _ _ t ih=>exact .cons .int ih
theorem W1:∀(ns:List Int)(a:Int),a<=ns.foldl max a/\(∀n∈ns,n<=ns.foldl max a)/\(ns.foldl max a=a\/ns.foldl max a∈ns)
 |[],a=>⟨gq _,(λ_ h=>by cases h),.inl rfl⟩
 |n::ns,a=>by
  obtain⟨h1,h2,h3⟩:=W1 ns (max a n);have e:(n::ns).foldl max a=ns.foldl max (max a n):=rfl;rw[e];refine⟨by lia,λk hk=>?_,?_⟩
  ·rcases kg.mp hk with rfl|hk
   ·lia
   ·exact h2 k hk
  ·rcases h3 with h3|h3
   ·rw[h3];rcases Int.le_total a n with c|c
    ·exact .inr (by rw[Int.max_eq_right c];simp)
    ·exact .inl (Int.max_eq_left c)
   ·exact .inr (pT _ h3)
theorem OF{d g:Int}(h:∀n∈ns,n<=g)(k:g∈ns\/(ns=[]/\g=d)):g=H3 ns d:=by
 cases ns with
 |nil=>exact k.elim (λz=>nomatch z) (·.2)
 |cons n ns=>
  have k:=k.resolve_right λz=>nomatch z.1;obtain⟨h1,h2,h3⟩:=W1 ns n;have a:ns.foldl max n<=g:=h3.elim (λz=>by rw[z];exact h n (by simp)) λz=>h _ (by simp[z])
  have b:g<=ns.foldl max n:=(kg.mp k).elim (λz=>by rw[z];exact h1) λz=>h2 g z
  exact EZ b a
theorem zcc{A:Qd}{l:Addr}{z:Int}{t:Tok}{Q:kL->kR->Prop}(hd:A.handled=none)(el:s.heap.get? l=some (lo vs n))(ia:An vs ns)(q:∀h' tk t,(∀b o,s.heap.get? b=some o->h'.get? b=some o)->Q (.int (H3 ns z) t) {s with heap:=h',toks:=tk}):ν (ο X.P X.w) A (call (.builtin "max") [.ref l] [(QD "default",.int z t)]) Q nE s:=by
 have il:s.heap.IsList l vs.toArray:=⟨_,el,rfl,n,rfl⟩;have len:=ia.length;have ne:l≠s.heap.objs.size:=QC (uU el);have nm:(Ev "max"++Ev ".loop":String)="max.loop":=by decide
 refine kmk_tree PySem.F.kind_max PySem.F.plain_max PySem.F.entry_max (zdu _ _) ?_;refine kC (m:=CZ "max" ["key","default"] 0 ⟨[],[(QD "default",.int z t)]⟩) (DM (show CZ "max" ["key","default"] 0 ⟨[],[(QD "default",.int z t)]⟩=pure [none,some (.int z t)] from rfl) (kC (kO (kC (DH il (kC (DZ ?_ (QB _))))))));rw[nm];have W:=Walks.list (prog:=X.P) (w:=X.w) (A:=A.in1) (show A.in1.handled=none from hd) s.heap.objs.size l ne vs.toArray;have it:∀i v,vs.toArray[i]?=some v->∃t,v=IR (ns.getD i 0) t:=λi v hv=>IntsAre.int_at ia i v (by simpa using hv)
 have sz:(s.heap.push {cls:=.type "list_iterator",data:=.fields #[.ref l,.int 0 0]}).objs.size=s.heap.objs.size+1:=by rw[gQ]
 refine kO ⟨gO Qz _,zbo W (λi j=>decide (ns.getD i 0>ns.getD j 0)) (CmpOf.ints_gt (λi=>ns.getD i 0) it) _ (λz=>?_) (W.frame 0 _ _ ⟨⟨_,kf _ rfl,rfl,rfl⟩,il.push _⟩ λb _ o e=>kK _ e) (kf _ rfl) λv h' tk hv kp=>?_⟩
 ·rw[sz] at z;have l2:=uU el;rcases kg.mp z with z|z
  ·exact absurd z (Bc (CD _))
  ·exact absurd (ki.mp z) (Bc (GM l2))
 ·have keep:∀b o,s.heap.get? b=some o->h'.get? b=some o:=λb o e=>by
   have lt:=uU e;refine kp b o (λz=>?_) (λz=>?_) (kK _ (kK _ e))
   ·exact absurd (show b=s.heap.objs.size by simpa using z) (QC lt)
   ·rw[sz] at z;exact absurd z (QC (GM lt))
  obtain⟨b1,b2⟩:=ZJ (λi=>ns.getD i 0) (vs.toArray.size-1);rcases hv with⟨h0,hv⟩|⟨h0,rfl⟩
  ·obtain⟨t',rfl⟩:=it _ _ hv;have h0:0<vs.length:=by simpa using h0
   rw[show vs.toArray.size=vs.length from rfl] at b1 b2⊢;have hb:BL (λi j=>decide (ns.getD i 0>ns.getD j 0)) (vs.length-1)<ns.length:=by omega
   have:=q h' tk t' keep;have em:ns.getD (BL (λi j=>decide (ns.getD i 0>ns.getD j 0)) (vs.length-1)) 0=H3 ns z:=by
    refine OF (λn hn=>?_) (.inl ?_)
    ·obtain⟨i,hi,e⟩:=uA.mp hn;have:=b2 i (by lia)
     rw[show ns.getD i 0=n by simp[hi,e]] at this
     exact this
    ·rw[kG,kH hb];exact uq _
   rw[<-em] at this;exact this
  ·have h0:vs.length=0:=by simpa using h0
   obtain rfl:ns=[]:=UI (by lia)
   exact q h' tk t keep
def Kt{nm:Option Str}(hg:Gl X "max")(hm:X.mg "max"=none)(h1:PE X true e f)(h2:PE X true e' g)(n1:NS e:=by intro _ _;rfl)(hks:(Aa pos (Ul [⟨nm,e',tS⟩] X.env)).filterMap (·.1)=[QD "default"]:=by rfl)(he:Qh pos (pO [e] X.env)=(false,eval e X.env)::Qh pos (pO [] X.env):=by rfl)(hpl:(Qh pos (pO [e] X.env)).any (·.1)=false:=by rfl)
  (OG:(Aa pos (Ul [⟨nm,e',tS⟩] X.env)).all (·.1.isSome)=true:=by rfl) (hno:(Aa pos (Ul [⟨nm,e',tS⟩] X.env)).any (·.1.isNone)=false:=by rfl):PE X m (.Call (.Name "max" p) [e] [⟨nm,e',tS⟩] pos) (Ij f g):=λB π Z ow s d I q=>by
 obtain⟨d0,q1,q⟩:=kA.mp q;obtain⟨ds,q2,q⟩:=kA.mp q;obtain⟨ns,q3,q⟩:=kA.mp q;obtain⟨y,q4,q⟩:=kA.mp q;obtain⟨yi,q5,q⟩:=kA.mp q
 cases q
 cases d0<;>cases q2
 cases y<;>cases q5
 refine QI (xm I hg hm bt_max (callWith_kw ?_ he hpl OG hno));rw[n1];refine uZ (ax (h1 B π Z ow s _ I q1) λv s1⟨t1,r1⟩=>Qb ?_);show ν _ _ (evalAll ((do let v <-eval e' X.env;standAt pos;pure v)::(Aa pos (Ul [] X.env)).map (·.2))) _ _ s1;refine Fp (kC (ax (h2 B π Z ow s1 _ t1.1 q4) λw s2⟨t2,r2⟩=>kC (DW (kO (GN ?_)))));obtain⟨l,vs,n,rfl,el,_,rs⟩:=(RT.st r1 t1.1 t2.2).lst;obtain⟨t,rfl⟩:=RT.int r2;rw[hks];exact zcc I.ok.hd el (qX q3 rs) λh' tk t' kp=>⟨(t1.trans t2).trans (t2.1.kept kp),.of .int⟩
theorem We(i:Int):∀l,(vP i l).Perm (i::l)
 |[]=>.refl _
 |j::r=>by
  unfold vP
  split
  ·exact .refl _
  ·exact((We i r).cons j).trans (.swap i j r)
theorem XV:∀l,(jA l).Perm l
 |[]=>.refl _
 |i::r=>(We i _).trans ((XV r).cons i)
theorem VF(i:Int):∀l:List Int,l.Pairwise (·<=·)->(vP i l).Pairwise (·<=·)
 |[],_=>by simp[vP]
 |j::r,h=>by
  unfold vP;obtain⟨h1,h2⟩:=uI.mp h
  split
  ·rename_i c
   exact uI.mpr ⟨λx hx=>(kg.mp hx).elim (λe=>e▸c) λhx=>GO c (h1 x hx),h⟩
  ·rename_i c
   refine uI.mpr ⟨λx hx=>?_,VF i r h2⟩;rcases kg.mp ((We i r).mem_iff.mp hx) with e|e
   ·subst e;lia
   ·exact h1 x e
theorem Vr:∀l:List Int,(jA l).Pairwise (·<=·)
 |[]=>.nil
 |i::r=>VF i _ (Vr r)
theorem XC:∀{a b:List Int},a.Perm b->a.Pairwise (·<=·)->b.Pairwise (·<=·)->a=b
 |[],b,h,_,_=>h.nil_eq
 |x::a,[],h,_,_=>by have:=h.length_eq;cases this
 |x::a,y::b,h,ha,hb=>by
  obtain⟨a1,a2⟩:=uI.mp ha;obtain⟨b1,b2⟩:=uI.mp hb;have e:x=y:=by
   rcases kg.mp (h.mem_iff.mp (pH (a:=x) (l:=a))) with e|e
   ·exact e
   ·rcases kg.mp (h.mem_iff.mpr (pH (a:=y) (l:=b))) with e'|e'
    ·exact e'.symm
    ·exact EZ (a1 y e') (b1 x e)
  subst e;rw[XC h.cons_inv a2 b2]
def Keeps(g h:Heap):Prop:=∀b o,g.get? b=some o->h.get? b=some o
def Keeps.push{g:Heap}(k:Keeps g h)(o:Obj):Keeps g (h.push o):=λb x e=>kK _ (k b x e)
def Keeps.upd{g:Heap}{a:Addr}{f:Obj->Obj}(k:Keeps g h)(ha:g.objs.size<=a):Keeps g (h.update a f):=λb x e=>by
 rw[FW _ _ _ _ (QC (gR (uU e) ha))];exact k b x e
theorem Ku:ZF X (.builtin "sorted") ww:=λB π Z ow s as d us I q r=>by
 obtain⟨d0,rfl⟩:∃d0,as=[d0]:=by
  unfold ww at q
  split at q
  ·exact⟨_,rfl⟩
  ·cases q
 ·obtain⟨ds,q1,q⟩:=kA.mp q;obtain⟨ns,q2,q⟩:=kA.mp q
  split at q<;>cases q
  have l64:=‹_<64›;obtain⟨u,rfl,r1⟩:=tY r
  cases d0<;>cases q1
  obtain⟨l,vs,n,rfl,el,lz,rs⟩:=r1.lst;have ia:=qX q2 rs;have len:=ia.length;refine sorted_ints ⟨_,el,rfl,n,rfl⟩ ia (by lia) λay ms a1 a2 a3=>?_
  have k0:L2.Keeps s.heap s.heap:=λ_ _ e=>e;have k2:=((k0.push (QA "list" #[] 0)).upd (a:=s.heap.objs.size) (f:=pW (·++vs.toArray)) (pI _)).push (QA "list" vs.toArray 0);have z2:((s.heap.push (QA "list" #[] 0)).update s.heap.objs.size (pW (·++vs.toArray))).objs.size=s.heap.objs.size+1:=by
   rw[Gh,size_push']
  have o2:(((s.heap.push (QA "list" #[] 0)).update s.heap.objs.size (pW (·++vs.toArray))).push (QA "list" vs.toArray 0)).get? (s.heap.objs.size+1)=some (QA "list" vs.toArray 0):=
   z2▸kf _ rfl
  have o3:=BN o2 λ_=>(#[]:Array kL);have o5:=BN (kK (QA "list" #[] 0) (kK (QA "tuple" vs.toArray 0) o3)) λ_=>ay;have k5:L2.Keeps s.heap (sortedAll s.heap vs ay):=(((k2.upd (a:=s.heap.objs.size+1) (f:=pW λ_=>(#[]:Array kL)) (Ez _)).push (QA "tuple" vs.toArray 0)).push (QA "list" #[] 0)).upd (a:=s.heap.objs.size+1) (f:=pW λ_=>ay) (Ez _);have em:ms=jA ns:=XC (a2.trans (XV ns).symm) a3 (Vr ns);subst em;have la:=a1.length;exact I.lnew (t':=s.toks) (us:=ay.toList) (Jl a1) (by have:=a2.length_eq;have:(64:Nat)<=μ:=(by decide);lia) k5 (uN (Ez _)) o5
def E6(hg:Gl X "sorted")(hm:X.mg "sorted"=none)(ha:PA X true (e::es) ga)(he:pO (e::es) X.env=(false,eval e X.env)::pO es X.env:=by rfl)(hpl:(Qh pos (pO es X.env)).any (·.1)=false:=by rfl):PF X (.Call (.Name "sorted" p) (e::es) [] pos) (aj ww ga):=bclF Ku hg hm bt_sorted ha (he:=he) (hpl:=hpl)
end
open PySem.W (kla_fn kla_obj envX tabObj CodeHd)
structure OH(G:Gx)(P:Addr)(pos:Pos)(q:Str):Prop where
 mem:(P,pos,q)∈G.tb
 one:∀t∈G.tb,t.1=P->t=(P,pos,q)
structure xL(x:Str)(ys:List Str)(sc:Scope):Prop where
 kind:sc.kind=.function
 co:sc.isCoroutine=false
 gen:sc.isGenerator=false
 nocell:∀y∈sc.names,y.2≠BI
 par:sc.names.lookup x=some .local
 free:∀y∈sc.names,y.2=QF->y.1∈ys
 cap:∀y∈ys,sc.names.lookup y=some .free
noncomputable def wK(G:Gx)(x:Str)(ys:List Str)(qual:Str)(sc:Scope)(f:Addr)(cd:kL)(clos:List (Str×Addr))(A:Qd)(a:Addr)(rb:AP):Cx where
 toGx:=G
 A:=A.deeper (envX qual sc a f cd clos)
 N:=x::ys
 env:=envX qual sc a f cd clos
 fn:=false
 rb:=rb
section
variable{X:Cx}{B:AP}{π:Addr}{Z:En}{ow:Os}{s s1:kR}{params:FT}{body:Expr}{sc:Scope}{pos:Pos}{c0 P:Addr}{clos:List (Str×Addr)}
def za1{Q:kL->kR->Prop}(I:Inv X B π Z ow s)(fE:X.env.code=.ref c0)(C:CodeHd X.base c0 P)(hB:X.base.BuiltinsAt X.mg P)(hcl:EM sc X.env=pure clos)(E7:Hc params X.env=([],[]))(L:OH X.toGx P pos (X.env.qual++"<lambda>"))
  (q:∀(fa c':Addr)(fF:kL)(s':kR),Sx X B π Z ow s s'->s.heap.get? fa=none->s'.heap.get? fa=some (kla_obj "<lambda>" (X.env.qual++"<lambda>") params body sc clos ((X.mg "__name__").getD .none) c' fF)->s'.heap.CodeRec (.ref c') (X.env.qual++"<lambda>")->¬X.O B ow c'->Q (.ref fa) s'):ν (ο X.P X.w) X.A (eval (.Lambda params body sc pos) X.env) Q nE s:=by
 obtain⟨ps,Rw,tr,alt⟩:=I.tb _ L.mem;have Rw:s.heap.get? P=some (tabObj ps):=Rw;have TP:X.T P:=⟨_,L.mem,rfl⟩;have hg:s.heap.Ns uX X.mg:=I.ok.mod.glob.keeps I.base;have Cs:=C.keeps I.base;have Bs:s.heap.BuiltinsAt X.mg P:=by
  obtain⟨bm,o,b1,b2,b3,b4,b5,b6⟩:=hB;exact⟨bm,o,b1,b2,b3,b4,I.base _ _ b5,b6⟩
 have neG:uX≠P:=λz=>by
  obtain⟨o,es,ep,e,hd,_⟩:=hg;rw[z,Rw] at e;cases e;cases hd
 refine PySem.W.kla_eval E7 ?_;rcases alt with hn|⟨c',hf,NK,nc⟩
 ·refine PySem.W.kla_makeFunction hcl I.ok.glob hg fE Cs Rw tr hn neG Bs λc' fF h' tk hx hge tB hrec htb=>?_;generalize hob:kla_obj "<lambda>" (X.env.qual++"<lambda>") params body sc clos ((X.mg "__name__").getD .none) c' fF=ob;have keep:∀b o,b≠P->s.heap.get? b=some o->(h'.push ob).get? b=some o:=λb o n e=>kK _ (hx b o n e);have Kd:(h'.push ob).get? P=some (tabObj (ps++#[AI pos.line,AI pos.col,.ref c'])):=kK _ htb;have Rv:=hrec.push ob;have nc:¬X.O B ow c':=I.apart (uN hge);have t:St X.toGx bL s {s with heap:=h'.push ob,toks:=tk}:=⟨rfl,λa o e _ nt=>keep a o (λz=>nt (z▸TP)) e,λa o e=>by
   by_cases z:a=P
   ·exact⟨_,z▸Kd⟩
   ·exact⟨o,keep a o z e⟩,λa qs z e=>by
   by_cases y:a=P
   ·subst y;rw[Rw] at e;cases e;exact⟨_,Kd⟩
   ·exact⟨#[],by rw[show(h'.push ob).get? a=_ from keep a _ y e];simp⟩⟩
  have J:Inv X B π Z ow {s with heap:=h'.push ob,toks:=tk}:=I.st t I.ge λt' m=>by
   by_cases y:t'.1=P
   ·obtain rfl:=L.one t' m y;exact⟨_,Kd,by rw[uT];exact TriplesOk_snoc _ _ _ _ tr,.inr ⟨c',by rw[uT];exact codeAmong_snoc _ tr hn,Rv,nc⟩⟩
   ·exact(I.tb t' m).go (λa z=>.inl z) (λb o e n=>keep b o (λz=>n (z▸.inl (I.bt P TP))) e) λo e=>keep _ o y e
  exact q h'.objs.size c' fF _ ⟨J,t⟩ (uN (uK hge (AR tB))) (by rw[hob];exact kf _ (by rw[<-hob];rfl)) Rv nc
 ·refine PySem.W.kla_makeFunctionHit hcl I.ok.glob hg fE Cs Rw tr hf Bs λfF h' tk hk hsz=>?_;have t:=I.kept (t':=tk) λb o e=>kK {cls:=.type "function",data:=.func (kla_fn "<lambda>" (X.env.qual++"<lambda>") params body sc clos ((X.mg "__name__").getD .none) (.ref c') fF)} (hk b o e);refine q h'.objs.size c' fF _ t (uN hsz) (kf _ rfl) ?_ nc;obtain⟨c3,oc3,vs3,t3,e3,hoc3,hd3,hv3⟩:=NK
  cases e3;exact⟨_,oc3,vs3,t3,rfl,kK _ (hk _ _ hoc3),hd3,hv3⟩
end
open PySem.W (kla_fn kla_obj envX tabObj CodeHd)
structure fT(X:Cx)(clos:List (Str×Addr))(js:List Nat):Prop where
 len:clos.length=js.length
 ix:∀(i:Nat)(y:Str)(c:Addr)(j:Nat),clos[i]?=some (y,c)->js[i]?=some j->X.N[j]?=some y/\(X.env.scope.names.lookup y=some .cell\/X.env.scope.names.lookup y=some .free)/\X.env.cells.lookup y=some c
 sub:∀y c,clos.lookup y=some c->X.env.cells.lookup y=some c
 has:∀(i:Nat)(y:Str)(c:Addr),clos[i]?=some (y,c)->clos.lookup y=some c
theorem Vn{α β:Type}{f:α->Option β}:∀{as:List α}{bs:List β}{i:Nat}{b:β},zv f as=some bs->bs[i]?=some b->∃a,as[i]?=some a/\f a=some b
 |[],bs,i,b,q,e=>by cases q;simp at e
 |a::as,bs,i,b,q,e=>by
  obtain⟨b0,q1,q⟩:=kA.mp q;obtain⟨bs',q2,q⟩:=kA.mp q
  cases q
  cases i with
  |zero=>cases e;exact⟨a,rfl,q1⟩
  |succ i=>obtain⟨a',h1,h2⟩:=Vn q2 (i:=i) e;exact⟨a',h1,h2⟩
theorem YI{α β:Type}{f:α->Option β}:∀{as:List α}{bs:List β},zv f as=some bs->bs.length=as.length
 |[],bs,q=>by cases q;rfl
 |a::as,bs,q=>by
  obtain⟨b0,q1,q⟩:=kA.mp q;obtain⟨bs',q2,q⟩:=kA.mp q
  cases q;rw[kZ,kZ,YI q2]
section
variable{X:Cx}{B:AP}{π:Addr}{Z:En}{ow:Os}{s s1:kR}{params:FT}{body:Expr}{sc:Scope}{clos:List (Str×Addr)}{x name qual:Str}{js:List Nat}{ss:List Sl}{A:Qd}{fa c':Addr}{pm fF u:kL}{d k:Dt}{f:En->Option Dt}
theorem Kv{cd:kL}{aV:Heap}{tk:Nat}(I:Inv X B π Z ow s)(S:xL x (clos.map pG) sc)(hc:fT X clos js)(hA:A.handled=none)(ru:R X.toGx (X.O B ow) s.heap d u)(A7:xS js Z=some ss)
  (E8:aV.Ns s.heap.objs.size (λz=>([(x,u)]:List (Str×kL)).reverse.lookup z))(hk:∀b o,s.heap.get? b=some o->aV.get? b=some o):
  Inv (wK X.toGx x (clos.map pG) qual sc fa cd clos A s.heap.objs.size λa=>fP ow a\/X.rb a) (X.O B ow) π (.fz d::ss) Mn {s with heap:=aV,toks:=tk}:=by
 have TE:∀{a},(wK X.toGx x (clos.map pG) qual sc fa cd clos A s.heap.objs.size λa=>fP ow a\/X.rb a).cel a->X.cel a:=λ⟨y,z⟩=>⟨y,hc.sub y _ z⟩;have oi:∀{a},(wK X.toGx x (clos.map pG) qual sc fa cd clos A s.heap.objs.size λa=>fP ow a\/X.rb a).O (X.O B ow) Mn a->X.O B ow a\/s.heap.get? a=none:=λz=>by
  rcases z with z|⟨_,z⟩|z|z
  ·exact .inl z
  ·exact z.elim
  ·exact .inr (by rw[show _=s.heap.objs.size from z];exact fu)
  ·exact .inl (.inr (.inr (.inr (TE z))))
 have g:Gd (X.O B ow) s.heap ((wK X.toGx x (clos.map pG) qual sc fa cd clos A s.heap.objs.size λa=>fP ow a\/X.rb a).O (X.O B ow) Mn) aV:=λa o e n=>⟨hk a o e,λz=>(oi z).elim n λz=>by rw[z] at e;cases e⟩
 have nw:∀{a o},s.heap.get? a=some o->a≠s.heap.objs.size:=λe z=>by rw[z,fu] at e;cases e
 obtain⟨mm,hmm,sk⟩:=I.loc;have ls:=YI A7;refine⟨⟨I.ok.mod,S.kind,rfl,rfl,λy z c h1 h2=>I.ok.inj y z c (hc.sub _ _ h1) (hc.sub _ _ h2),λy hy=>?_,hA⟩,I.ge,λb o e=>hk b o (I.base b o e),λa z=>(oi z).elim (I.bo a) λz=>?_,λa z=>.inl (I.bt a z),λt m=>(I.tb t m).go (λa z=>(oi z).imp id λz o e=>by rw[z] at e;cases e) (λb o e _=>hk b o e) λo e=>hk _ o e,λa z=>let⟨o,e⟩:=I.ex z;⟨o,hk a o e⟩,λa z=>?_,⟨_,E8,λi y sl h1 h2=>?_⟩,λy c h=>let⟨v,o,e,q⟩:=I.cell y c (hc.sub y c h);⟨v,o,hk _ o e,q⟩,?_,λ_ _ _ z=>z.elim,λ_ _ z=>z.elim⟩
 ·have hy:sc.names.lookup y=some .cell\/sc.names.lookup y=some .free:=hy;rcases hy with hy|hy
  ·exact absurd rfl (S.nocell _ (QL hy))
  ·obtain⟨⟨y',c⟩,m,e⟩:=kh.mp (S.free _ (QL hy) rfl);obtain⟨i,hi,ei⟩:=uA.mp m;have e:y'=y:=e;subst e;exact⟨c,hc.has i y' c (by rw[<-ei];exact kH hi)⟩
 ·cases q:X.base.get? a with
  |none=>exact q
  |some o=>rw[I.base a o q] at z;cases z
 ·have:X.O B ow a/\¬X.cel a:=by
   rcases z with⟨j,z⟩|z
   ·exact⟨.inr (.inl ⟨j,z⟩),(I.own j a z).2.2.2⟩
   ·exact⟨.inl (I.rb a z).1,(I.rb a z).2.2⟩
  obtain⟨o,e⟩:=I.ex this.1;exact⟨this.1,nw e,λz=>this.2 (TE z)⟩
 ·cases i with
  |zero=>
   cases h1;cases h2;exact⟨u,.inl ⟨S.par,by show([(x,u)]:List (Str×kL)).reverse.lookup x=some u;simp⟩,R.go g _ _ ru⟩
  |succ i=>
   have h1:(clos.map pG)[i]?=some y:=h1;rw[kX] at h1;obtain⟨⟨y',c⟩,h3,e⟩:=uW.mp h1;have e:y'=y:=e;subst e;obtain⟨j,hj,TF⟩:=Vn A7 (i:=i) (b:=sl) h2;obtain⟨s0,e0,TF⟩:=kA.mp TF;obtain⟨_,_,TF⟩:=kA.mp TF;obtain⟨a1,a2,a3⟩:=hc.ix i y' c j h3 hj;have lk:∀{v},yh X.env s.heap mm y' v->yh (envX qual sc s.heap.objs.size fa cd clos) aV (λz=>([(x,u)]:List (Str×kL)).reverse.lookup z) y' v:=λ{v} l=>by
    refine .inr ⟨.inr (S.cap y' (kh.mpr ⟨_,kT h3,rfl⟩)),c,hc.has i y' c h3,?_⟩;rcases l with⟨k,_⟩|⟨_,c2,ec,o,e,dd⟩
    ·have k':X.env.scope.names.lookup y'=some .local:=k;rcases a2 with z|z<;>(rw[k'] at z;cases z)
    ·rw[a3] at ec;cases ec;exact⟨o,hk _ _ e,dd⟩
   cases TF;have k:=sk j y' s0 a1 e0
   cases s0 with
   |un=>trivial
   |fz d=>obtain⟨u,l,r⟩:=k;exact⟨u,lk l,R.go g _ _ r⟩
   |rd d=>obtain⟨u,l,r,n⟩:=k;exact⟨u,lk l,r.go g λ_ o _ e=>hk _ o e,λp e z=>.inr (n p e ((oi z).elim id λz=>by obtain⟨o,q⟩:=r.ex e;rw[z] at q;cases q))⟩
   |ow io n d=>
    show Sk _ _ _ _ _ _ _ _ (if n=1 then Sl.rd d else .un)
    split
    ·subst ‹n=1›;obtain⟨p,l,_,hS,r⟩:=k;exact⟨_,lk l,.inr ⟨p,rfl,r.imp g (λo e=>hk _ o e) λ_ _=>Rs.go g _ _⟩,λp' e z=>by cases e;exact .inl ⟨j,(hS p).mpr rfl⟩⟩
    ·trivial
 ·show(Sl.fz d::ss).length=(x::clos.map pG).length
  rw[kZ,kZ,kJ,ls,hc.len]
def ZO(I:Inv X B π Z ow s)(hA:A.handled=none)(hdp:A.depth<Cg)(S:xL x (clos.map pG) sc)(hc:fT X clos js)(ho:s.heap.get? fa=some (kla_obj name qual params body sc clos pm c' fF))(dN:s.heap.CodeRec (.ref c') qual)(hb:BF (kla_fn name qual params body sc clos pm (.ref c') fF) ⟨[u],[]⟩=pure [(x,u)])(ru:R X.toGx (X.O B ow) s.heap d u)
  (dP:PE (wK X.toGx x (clos.map pG) qual sc fa (.ref c') clos A s.heap.objs.size λa=>fP ow a\/X.rb a) false body f)(A7:xS js Z=some ss)(q:f (.fz d::ss)=some k):ν (ο X.P X.w) A (call (.ref fa) [u]) (λv s'=>Sx X B π Z ow s s'/\R X.toGx (X.O B ow) s'.heap k v) nE s:=by
 refine EJ (PySem.W.kla_callFunE hdp ho rfl S.co S.gen rfl dN ?_);rw[hb];have SH:s.heap.NoLimit:=I.ok.mod.nolimit.keeps I.base;refine kO (Er S.nocell (λz hz=>?_) (λaV E8 hsb=>⟨SH.fresh _ hsb,?_⟩) S.kind)
 ·rw[ki] at hz;rw[hz];exact S.par
 ·show Ak _ _ (.expr body (envX qual sc s.heap.objs.size fa (.ref c') clos)) _ _
  have kp:∀d u,s.heap.get? d=some u->aV.get? d=some u:=λd u z=>hsb.extBut d u (QC (uU z)) (kK _ z);have J:=Kv (tk:=s.toks+1) (fa:=fa) (qual:=qual) (cd:=.ref c') I S hc hA ru A7 E8 kp;refine PySem.W.kla_codeExpr (Qr (dP _ π _ _ _ k J q) (λr s' hw=>?_) λe s' hs=>hs.elim);obtain⟨t,r'⟩:=hw;have t2:St X.toGx bL s s':=(St.keep (t':=s.toks+1) kp).then t.2;exact⟨⟨I.st t2 t.1.ge λtt m=>(t.1.tb tt m).go (λa z=>.inl (.inl z)) (λ_ _ e _=>e) λ_ e=>e,t2⟩,R.go (Gd.less λa z=>.inl z) _ _ r'⟩
end
structure vF(G:Gx)(c0 P:Addr)(pos:Pos)(q:Str):Prop where
 hd:CodeHd G.base c0 P
 bl:G.base.BuiltinsAt G.mg P
 lm:OH G P pos q
section
variable{α:Type}{an:α->α->Bool}{f:Nat->α}{m q k l lo a:Nat}
structure cG(an:α->α->Bool):Prop where
 irr:∀i,an i i=false
 tr:∀i j k,an i j=true->an j k=true->an i k=true
 cut:∀i j k,an i j=false->an j k=false->an i k=false
theorem cG.asymm(T:cG an){a b:α}(h:an a b=true):an b a=false:=by
 cases e:an b a with
 |false=>rfl
 |true=>have:=T.tr _ _ _ h e;rw[T.irr] at this;cases this
def cG.flip(T:cG an):cG λx y=>an y x:=⟨T.irr,λ_ _ _ h g=>T.tr _ _ _ g h,λ_ _ _ h g=>T.cut _ _ _ g h⟩
theorem cG.of(T:cG an){x y z:α}(h:an x z=true)(g:an y z=false):an x y=true:=by
 cases e:an x y with
 |true=>rfl
 |false=>rw[T.cut _ _ _ e g] at h;cases h
def bB(an:α->α->Bool)(f:Nat->α)(m:Nat):Prop:=∀i j,i<j->j<m->an (f j) (f i)=false
abbrev t9(an:α->α->Bool)(f:Nat->α)(m:Nat):Prop:=bB (λx y=>an y x) f m
def H7(an:α->α->Bool)(f:Nat->α)(m q:Nat):Prop:=∀i j,m<=i+q+1->i<m->m<=j+q+1->j<m->an (f i) (f j)=false
noncomputable def xf(f:Nat->α)(a m k:Nat):α:=if a<=k/\k<m then f (a+m-1-k) else f k
noncomputable def Kw(f:Nat->α)(l k j:Nat):α:=if j=l then f k else if l<j/\j<=k then f (j-1) else f j
variable{i:Nat}
def bB.le(T:cG an)(u:bB an f m){j:Nat}(h:i<=j)(hj:j<m):an (f j) (f i)=false:=by
 rcases AW h with z|z
 ·exact u i j z hj
 ·rw[z];exact T.irr _
theorem bB.step(T:cG an)(u:bB an f m)(h:1<=m->an (f m) (f (m-1))=false):bB an f (m+1):=λi j ci hj=>by
 by_cases e:j=m
 ·subst e;exact T.cut _ _ _ (h (by lia)) (u.le T (by omega) (by omega))
 ·exact u i j ci (by lia)
theorem Xs(d:t9 an f m)(e:H7 an f m q):t9 an (xf f (m-(q+1)) m) m:=λi j ci hj=>by
 show an (xf _ _ _ i) _=_
 unfold xf
 split
 ·rw[θ (by omega)]
  exact e _ _ (by omega) (by omega) (by omega) (by omega)
 ·split<;>exact d _ _ (by omega) (by omega)
theorem Za(d:t9 an f m):bB an (xf f 0 m) m:=λi j ci hj=>by
 unfold xf;rw[θ (by lia),θ (by lia)]
 exact d _ _ (by lia) (by omega)
theorem Wv(T:cG an)(h1:q+1<=m)(d:t9 an f m)(e:H7 an f m q)(c:an (f m) (f (m-1))=true):t9 an (xf f (m-(q+1)) m) (m+1):=
 (Xs d e).step T.flip λ_=>by
  unfold xf;rw[θ (by omega),η (by lia)]
  exact T.asymm (T.of c (e _ _ (by omega) (by omega) (by omega) (by lia)))
theorem jv(T:cG an)(m:Nat):H7 an f (m+1) 0:=λi j a b a' b'=>by
 have e:i=j:=by lia
 rw[e];exact T.irr _
theorem VS(T:cG an)(h1:1<=m)(e:H7 an f m q)(c:an (f m) (f (m-1))=false)(y:an (f (m-1)) (f m)=false):H7 an f (m+1) (q+1):=λi j i1 i2 j1 j2=>by
 by_cases ei:i=m
 ·subst ei
  by_cases ej:j=i
  ·rw[ej];exact T.irr _
  ·exact T.cut _ _ _ c (e (i-1) j (by lia) (by lia) (by lia) (by lia))
 ·by_cases ej:j=m
  ·subst ej;exact T.cut _ _ _ (e i (j-1) (by lia) (by lia) (by lia) (by lia)) y
  ·exact e i j (by lia) (by lia) (by lia) (by lia)
theorem Z9(T:cG an)(u:bB an f m)(h1:1<=m)(c:an (f 0) (f (m-1))=false)(y:an (f m) (f (m-1))=true):t9 an (xf f 0 m) (m+1):=by
 have al:H7 an f m (m-1):=λi j _ hi _ hj=>T.cut _ _ _ (T.cut _ _ _ (u.le T (QB i) hi) c) (u.le T (by lia) (by lia))
 have:=Wv T (by lia) (λi j ci hj=>al i j (by lia) (by lia) (by lia) hj) al y
 rw[show m-(m-1+1)=0 by lia] at this
 exact this
theorem VQ(T:cG an)(hl:l<=k)(u:bB an f k)(h1:∀i,i<l->an (f k) (f i)=false)(h2:∀i,l<=i->i<k->an (f k) (f i)=true):bB an (Kw f l k) (k+1):=λi j ci hj=>by
 unfold Kw
 by_cases a1:j=l
 ·rw[θ a1,η (by omega),η (by omega)]
  exact h1 i (by omega)
 rw[η a1]
 by_cases a2:l<j/\j<=k
 ·rw[θ a2]
  split
  ·exact T.asymm (h2 (j-1) (by omega) (by omega))
  ·split<;>exact u _ (j-1) (by omega) (by omega)
 ·rw[η a2,η (by omega),η (by omega)]
  exact u i j ci (by omega)
def MB(T:cG an)(u:bB an f k){x:α}(h:an x (f l)=true)(hi:l<=i)(hk:i<k):an x (f i)=true:=T.of h (u.le T hi hk)
def MC(T:cG an)(u:bB an f k){x:α}(h:an x (f l)=false)(hl:l<k)(hi:i<=l):an x (f i)=false:=T.cut _ _ _ h (u.le T hi hl)
theorem Ji{d:α}{xs:Array α}{g:Nat->Nat}{j:Nat}(hg:∀k,g k=lo+k)(hi:i=lo+a)(hj:j=lo+m)(hm:lo+m<=xs.size):(λk=>(mirror xs i j ((j-i)/2)).getD (g k) d)=xf (λk=>xs.getD (g k) d) a m:=by
 funext k
 subst hi hj;unfold xf;simp only[QE,FX hm,hg]
 split
 ·rw[θ (by lia)]
  congr 2
  lia
 ·rw[η (by omega)]
theorem Jt{d:α}{xs:Array α}{g:Nat->Nat}(hg:∀k,g k=lo+k)(hk:lo+k<xs.size)(hl:l<=k):(λj=>(bubble xs (lo+k) (lo+k-(lo+l))).getD (g j) d)=Kw (λj=>xs.getD (g j) d) l k:=by
 funext j
 unfold Kw;simp only[QE,HI hk _ (show lo+k-(lo+l)<=lo+k by omega),hg]
 by_cases c1:j=l
 ·rw[θ c1,θ (by omega)]
 ·rw[η c1,η (by omega)]
  by_cases c2:l<j/\j<=k
  ·rw[θ c2,θ (by omega)]
   congr 2
   lia
  ·rw[η c2,η (by omega)]
end
open PySem.W (KasT kas_asc kas_desc kas_rev kas_tail3 kas_descPart kas_count kas_place kas_bin kas_sort kas_ask kas_item)
noncomputable def zU{α:Type}(aE:Nat->Nat->Bool):KasT α->α
 |.ret a=>a
 |.ask i j k=>zU aE (k (aE i j))
def zH{α:Type}(n:Nat)(R:α->Prop):KasT α->Prop
 |.ret a=>R a
 |.ask i j k=>i<n/\j<n/\∀b,zH n R (k b)
theorem zH.bind{α β:Type}{n:Nat}{R:α->Prop}{S:β->Prop}{f:α->KasT β}:∀{t:KasT α},zH n R t->(∀a,R a->zH n S (f a))->zH n S (t.bind f)
 |.ret a,h,k=>k a h
 |.ask i j g,h,k=>⟨h.1,h.2.1,λb=>zH.bind (h.2.2 b) k⟩
theorem zH.ends{α:Type}{n:Nat}{R:α->Prop}{aE:Nat->Nat->Bool}:∀{t:KasT α},zH n R t->R (zU aE t)
 |.ret _,h=>h
 |.ask i j g,h=>zH.ends (n:=n) (t:=g (aE i j)) (h.2.2 (aE i j))
theorem zH.wp{α:Type}{n:Nat}{R:α->Prop}{aE:Nat->Nat->Bool}{cmp:Nat->Nat->(Bool->kR->Prop)->kR->Prop}{s:kR}{Q:α->kR->Prop}(hc:∀i j C,i<n->j<n->C (aE i j) s->cmp i j C s):
  ∀{t:KasT α},zH n R t->Q (zU aE t) s->t.kasWp cmp Q s
 |.ret _,_,q=>q
 |.ask i j g,h,q=>hc i j _ h.1 h.2.1 (zH.wp (n:=n) (t:=g (aE i j)) hc (h.2.2 (aE i j)) q)
def Ord(n:Nat)(p:Array Nat):Prop:=p.toList.Perm (kM n)
def Ord.get{p:Array Nat}(h:Ord n p)(hn:0<n)(i:Nat):p.getD i 0<n:=by
 by_cases hi:i<p.size
 ·have e:p.getD i 0=p[i]:=by simp[AX,hi]
  rw[e];exact pe.mp (h.mem_iff.mp (by simp))
 ·have e:p.getD i 0=0:=by simp[AX,hi]
  rw[e];exact hn
def Ord.of{p q:Array Nat}(h:Ord n p)(e:q.Perm p):Ord n q:=(Co.mp e).trans h
def Ord.rev{p:Array Nat}(h:Ord n p)(i j:Nat):Ord n (kas_rev p i j):=h.of (DN _ _ _ _)
theorem Xm{n:Nat}{p:Array Nat}(h:Ord n p)(hn:0<n):∀(f m:Nat),zH n (λ_=>True) (kas_asc p f m)
 |0,_=>trivial
 |f+1,m=>⟨h.get hn _,h.get hn _,λb=>by
  cases b with
  |true=>dsimp only;rw[θ rfl];trivial
  |false=>dsimp only;rw[η (by decide)];exact Xm h hn f (m+1)⟩
theorem Y8{n:Nat}(hn:0<n):∀(f:Nat){p:Array Nat}(m q:Nat),Ord n p->zH n (λr=>Ord n r.1) (kas_desc f p m q)
 |0,_,_,_,h=>h
 |f+1,p,m,q,h=>⟨h.get hn _,h.get hn _,λb=>by
  cases b with
  |true=>
   dsimp only;rw[θ rfl]
   by_cases z:q>0
   ·rw[θ z];exact Y8 hn f _ _ (h.rev _ _)
   ·rw[η z];exact Y8 hn f _ _ h
  |false=>
   dsimp only;rw[η (by decide)]
   refine⟨h.get hn _,h.get hn _,λd=>?_⟩
   cases d with
   |true=>dsimp only;rw[θ rfl];exact h
   |false=>dsimp only;rw[η (by decide)];exact Y8 hn f _ _ h⟩
def JA{a b:Nat}{p:Array Nat}(hn:0<n)(h:Ord n p):zH n (λr=>Ord n r.2) (kas_tail3 a b p):=
 zH.bind (Xm (h.rev _ _) hn _ _) λ_ _=>h.rev _ _
def ZH{a b:Nat}{p:Array Nat}(hn:0<n)(h:Ord n p):zH n (λr=>Ord n r.2) (kas_descPart a b p):=
 zH.bind (Y8 hn _ _ _ h) λr hr=>by
  by_cases z:r.2.2>0
  ·rw[θ z];exact JA hn (hr.rev _ _)
  ·rw[η z];exact JA hn hr
theorem ze3{b:Nat}{p:Array Nat}(hn:0<n)(h:Ord n p):zH n (λr=>Ord n r.2) (kas_count b p):=
 zH.bind (Xm h hn _ _) λm _=>by
  by_cases z:(m==b)=true
  ·rw[θ z];exact h
  ·rw[η z]
   by_cases y:m>1
   ·rw[θ y];refine⟨h.get hn _,h.get hn _,λc=>?_⟩
    cases c with
    |true=>dsimp only;rw[θ rfl];exact h
    |false=>dsimp only;rw[η (by decide)];exact ZH hn (h.rev _ _)
   ·rw[η y];exact ZH hn h
theorem WB{n:Nat}{p:Array Nat}(hn:0<n)(h:Ord n p)(k:Nat):∀(f l r:Nat),zH n (λ_=>True) (kas_place p k f l r)
 |0,_,_=>trivial
 |f+1,l,r=>by
  unfold kas_place
  by_cases z:l>=r
  ·rw[θ z];trivial
  ·rw[η z];refine⟨h.get hn _,h.get hn _,λc=>?_⟩
   cases c with
   |true=>dsimp only;rw[θ rfl];exact WB hn h k f _ _
   |false=>dsimp only;rw[η (by decide)];exact WB hn h k f _ _
theorem Zz{n:Nat}(hn:0<n):∀(f:Nat){p:Array Nat}(k:Nat),Ord n p->zH n (Ord n) (kas_bin f p k)
 |0,_,_,h=>h
 |f+1,p,k,h=>zH.bind (WB hn h k _ _ _) λl _=>Zz hn f (k+1) (h.of (HC _ _ _))
def XK(hn:0<n):zH n (Ord n) (kas_sort n):=
 zH.bind (ze3 hn (by unfold Ord;simp)) λr hr=>by
  by_cases z:r.1<n
  ·rw[θ z];exact Zz hn _ _ hr
  ·rw[η z];exact hr
def zaq(vs:List kL):((kM vs.length).map λi=>vs.getD i UD)=vs:=by
 refine Gi (by simp) λi h1 h2=>?_
 have hi:i<vs.length:=h2
 simp[hi]
section
variable{prog:Qq}{w:World}{A:Qd}{E:kL->kR->Prop}{s:kR}{vs ks:List kL}{g:Heap}{a kS:Addr}{e e1:Nat}{f:kL}
theorem YU{st:uV}{ys:List kL}{P:BW->kR->Prop}(hs:(a0 st).map (·.2)=ys.toArray)(hf:Bi st=none)(hz:ys.length=vs.length)(zl:vs.length<=μ)(hkl:ks.length<=μ)(C4:a≠kS)
  (hk:s.heap.get? kS=some (QA "list" ks.toArray e))(ha:s.heap.get? a=some (QA "list" #[] e1))
  (q:P (.done (.ret .none)) {s with heap:=(s.heap.update kS (pW λ_=>(#[]:Array kL))).update a (pW λ_=>ys.toArray)}):
  ν (ο prog w) A (ksk_tail a false e1 (.ref kS) st) P E s:=by
 have ha2:(s.heap.update kS (pW λ_=>(#[]:Array kL))).get? a=some (QA "list" #[] e1):=by rw[FW _ _ _ _ C4];exact ha
 unfold ksk_tail;dsimp only;rw[hs];refine kC (Da hk rfl ?_ (by rw[ph];exact hkl) (QB _))
 refine kC (AN ?_);refine kC (seqEpoch_at ha2 rfl ?_);refine kC (Da ha2 rfl ?_ (QB _) (by simp only[uk,if_false];rw[ph,hz];lia))
 rw[hf];simp only[bne_self_eq_false,uk,if_false];exact kO q
structure Yj(prog:Qq)(w:World)(A:Qd)(a kS:Addr)(e1:Nat)(f:kL)(vs:List kL)(P:BW->kR->Prop)(J:Nat->List kL->Nat->kR->Prop):Prop where
 store:∀i ks e s,J i ks e s->s.heap.get? kS=some (QA "list" ks.toArray e)/\ks.length=i
 turn:∀i x ks e s,vs[i]?=some x->J i ks e s->ν (ο prog w) A (call f [x]) (λk s'=>s'.heap.get? kS=some (QA "list" ks.toArray e)/\
  ∀c,(s'.heap.update kS (pW (·.push k))).get? kS=some (QA "list" (ks++[k]).toArray c)->J (i+1) (ks++[k]) c {s' with heap:=s'.heap.update kS (pW (·.push k))}) (λ_ _=>False) s
 fin:∀ks e s,J vs.length ks e s->ν (ο prog w) A (GP a false vs.toArray e1 (.ref kS) ks.toArray) P (λ_ _=>False) s
theorem VW{P:BW->kR->Prop}{J:Nat->List kL->Nat->kR->Prop}{body:kL->PUnit->Sem (ForInStep PUnit)}(R:Yj prog w A a kS e1 f vs P J)
  (hb:∀i x ks e(s:kR),vs[i]?=some x->J i ks e s->ν (ο prog w) A (body x ⟨⟩) (λr s'=>r=.yield ⟨⟩/\∃k c,J (i+1) (ks++[k]) c s') E s):
  ∀(r:List kL)(i:Nat)(ks:List kL)(e:Nat)(s:kR),i<=vs.length->vs.drop i=r->J i ks e s->ν (ο prog w) A (forIn r PUnit.unit body) (λ_ s'=>∃ks e,J vs.length ks e s') E s
 |[],i,ks,e,s,hi,hr,h=>by
  rw[Es];have e0:i=vs.length:=Nat.le_antisymm hi (FF.mp hr);subst e0;exact kO ⟨ks,e,h⟩
 |x::r,i,ks,e,s,hi,hr,h=>by
  rw[CS];have hx:vs[i]?=some x:=by
   have z:=υ (λl=>l[0]?) hr
   simpa[Uu] using z
  have Rv:vs.drop (i+1)=r:=by
   have z:=υ (List.drop 1) hr
   simpa[AL,Hy] using z
  refine kC (Qr (hb i x ks e s hx h) (λq s' hq=>?_) λ_ _ z=>z);obtain⟨rfl,k,c,h2⟩:=hq;exact VW R hb r (i+1) (ks++[k]) c s' (kE.mp hx).1 Rv h2
variable{P:BW->kR->Prop}
theorem zdw{J:Nat->List kL->Nat->kR->Prop}(R:Yj prog w A a kS e1 f vs P J)(zl:vs.length<=μ)(C4:a≠kS)(h0:J 0 [] 0 s):
  ν (ο prog w) A (ksk_rest a f false vs.toArray e1 (.ref kS)) P E s:=by
 unfold ksk_rest;refine kC (Ud ?_);rw[List.forIn_toArray];refine kC (Qr (VW R (λi x ks e s' hx hJ=>?_) vs 0 [] 0 s (QB _) Bj h0) (λ_ s' hd=>?_) λ_ _ z=>z)
 ·have hi:=(kE.mp hx).1;have hl:=(R.store i ks e s' hJ).2;refine kC (AC (Qr (R.turn i x ks e s' hx hJ) (λk fU hk=>?_) λ_ _ hF=>hF.elim));obtain⟨hk1,A8⟩:=hk;have pk:(AQ ks).push k=AQ (ks++[k]):=by rw[List.push_toArray]
  obtain⟨c2,Oe⟩:∃c2,(fU.heap.update kS (pW (·.push k))).get? kS=some (QA "list" (AQ (ks++[k])) c2):=⟨_,by rw[<-pk];exact BN hk1 (·.push k)⟩
  try dsimp only
  refine kC (Da hk1 rfl ?_ (by rw[ph];lia) (uK (Hz (Array.size_push ..)) (by rw[ph];lia)))
  exact kO ⟨rfl,k,c2,A8 c2 Oe⟩
 ·obtain⟨ks,e,hJ⟩:=hd;obtain⟨hk,hl⟩:=R.store _ _ _ _ hJ
  try dsimp only
  refine kC (Ue hk rfl ?_);exact Qr (R.fin ks e s' hJ) (λ_ _ z=>z) λ_ _ z=>z.elim
def zbr(hg:Keeps g s.heap)(ga:g.objs.size<=a)(ho:s.heap.get? a=some (QA "list" vs.toArray n))(zl:vs.length<=μ)
  (h:∀kS e1 h',Keeps g h'->a<kS->h'.get? a=some (QA "list" #[] e1)->h'.get? kS=some (QA "list" #[] 0)->∃J,Yj prog w A a kS e1 f vs P J/\J 0 [] 0 {s with heap:=h'}):
  ν (ο prog w) A (ksk_tree a f false) P E s:=by
 have k1:Keeps g (s.heap.update a (pW λ_=>(#[]:Array kL))):=hg.upd ga;obtain⟨c1,o1⟩:∃c1,(s.heap.update a (pW λ_=>(#[]:Array kL))).get? a=some (QA "list" #[] c1):=⟨_,BN ho _⟩;have k3:=(k1.push (QA "tuple" vs.toArray 0)).push (QA "list" #[] 0);have o3:=kK (QA "list" #[] 0) (kK (QA "tuple" vs.toArray 0) o1);have lt:a<((s.heap.update a (pW λ_=>(#[]:Array kL))).push (QA "tuple" vs.toArray 0)).objs.size:=uU (kK _ o1);obtain⟨J,R,h0⟩:=h _ c1 _ k3 lt o3 (kf _ rfl);unfold ksk_tree;refine kC (Ue ho rfl (kC (Da ho rfl (kC (seqEpoch_at o1 rfl (kC (wpAny_newTuple (kC (DZ (AD ?_) (QB _))) zl)))) zl (QB _))));exact zdw (s:={s with heap:=((s.heap.update a (pW λ_=>(#[]:Array kL))).push (QA "tuple" vs.toArray 0)).push (QA "list" #[] 0)}) R zl (QC lt) h0
def zbp{fa:Addr}{C:List kL->Heap->Prop}{Q:kL->kR->Prop}(hcol:∀Q':List kL->kR->Prop,(∀vs h' tk,Keeps s.heap h'->s.heap.objs.size<=h'.objs.size->vs.length<=μ->C vs h'->Q' vs {s with heap:=h',toks:=tk})->ν (ο prog w) A.in1 (collect v) Q' E s)
  (h:∀vs h1 D kS e1 h' tk,C vs h1->Keeps h1 h'->vs.length<=μ->s.heap.objs.size<=D->Keeps s.heap h'->D<kS->h'.get? D=some (QA "list" #[] e1)->h'.get? kS=some (QA "list" #[] 0)->∃J,Yj prog w A.in1.in1 D kS e1 (.ref fa) vs (λr s'=>r=.done (.ret .none)/\Q (.ref D) s') J/\J 0 [] 0 {s with heap:=h',toks:=tk}):
  ν (ο prog w) A (call (.builtin "sorted") [v] [(QD "key",.ref fa)]) Q E s:=by
 refine call_function_entry_kw kind_sorted plain_sorted entry_sorted (ksk_s1 _ _) ?_;unfold Am.«sorted»;refine kC (m:=checkCount _ _ _ _) (kO (kC (hcol _ λvs h1 tk k1 sz zl c=>?_)));refine kC (DZ ?_ zl);have o2:(h1.push (QA "list" vs.toArray 0)).get? h1.objs.size=some (QA "list" vs.toArray 0):=kf _ rfl;refine kC (AD (wpAny_call_entry_kw slot_list_sort ⟨_,o2,rfl⟩ entry_list_sort ?body (ksk_l1 _ _)))
 case body=>
  show ν (ο prog w) A.in1.in1 (Am.«list.sort» ⟨[.ref h1.objs.size],[(QD "key",.ref fa)]⟩) _ _ _
  rw[ksk_t1];have k2:Keeps h1 (h1.push (QA "list" vs.toArray 0)):=λb o=>kK _;refine Qr (zbr (s:={s with heap:=h1.push (QA "list" vs.toArray 0),toks:=tk}) (P:=λr s'=>r=.done (.ret .none)/\Q (.ref h1.objs.size) s') k2 (pI _) o2 zl λkS e1 h' kk lt ha hk=>?_) (λr s' hq=>?_) λ_ _ z=>z
  ·exact h vs h1 h1.objs.size kS e1 h' tk c kk zl sz (λb o e=>kk b o (k1 b o e)) lt ha hk
  ·obtain⟨rfl,hq⟩:=hq;exact⟨_,rfl,kO ⟨_,rfl,hq⟩⟩
noncomputable def yP(n:Nat)(lt:Nat->Nat->Bool):List Nat:=if 2<=n then(zU lt (kas_sort n)).toList else kM n
theorem Wh{lt:Nat->Nat->Bool}:(yP n lt).Perm (kM n):=by
 unfold yP
 split
 ·exact zH.ends (XK (by lia))
 ·exact .refl _
theorem TG{κ:gu}{aE:Nat->Nat->Bool}(hl:ks.length=vs.length)(h64:vs.length<64)(C4:a≠kS)(hk:s.heap.get? kS=some (QA "list" ks.toArray e))(ha:s.heap.get? a=some (QA "list" #[] e1))
  (sK:2<=vs.length->∀Q':gu->kR->Prop,Q' κ s->ν (ο prog w) A (FG ks.toArray) Q' (λ_ _=>False) s)(OI:2<=vs.length->∀i j,i<ks.length->j<ks.length->∀C,C (aE i j) s->ν (ο prog w) A (Gj κ (ks.getD i .none) (ks.getD j .none)) C (λ_ _=>False) s)
  (q:P (.done (.ret .none)) {s with heap:=(s.heap.update kS (pW λ_=>(#[]:Array kL))).update a (pW λ_=>((yP vs.length aE).map λi=>vs.getD i .none).toArray)}):
  ν (ο prog w) A (GP a false vs.toArray e1 (.ref kS) ks.toArray) P E s:=by
 have z0:vs.toArray.size=vs.length:=rfl;have zl:vs.length<=μ:=uK (AR h64) (by decide)
 have ol:((yP vs.length aE).map λi=>vs.getD i .none).length=vs.length:=by rw[kJ,Wh.length_eq,pE]
 unfold GP;dsimp only;simp only[uk,if_false]
 by_cases h2:vs.length<2
 ·rw[z0,θ h2,θ h2,Ht];rw[HJ];refine kC (kO ?_);refine YU ?_ rfl ol zl (by lia) C4 hk ha q
  show(ks.toArray.zip vs.toArray).map (·.2)=_
  unfold yP;rw[η (by lia),zaq]
  apply CG.mp
  simp[CF,hl]
 ·have MD:2<=vs.length:=by lia
  rw[z0,η h2,η h2];refine kC (Qr (sK MD (λOJ s'=>OJ=κ/\s'=s) ⟨rfl,rfl⟩) (λOJ s' hs=>?_) λ_ _ z=>z.elim);obtain⟨rfl,rfl⟩:=hs;have run:=zH.wp (R:=Ord vs.length) (cmp:=kas_ask prog w A OJ ks) (Q:=λp fU=>fU=s'/\p=zU aE (kas_sort vs.length)) (λi j C hi hj c=>OI MD i j (by lia) (by lia) C c) (XK (by lia)) ⟨rfl,rfl⟩
  refine kC (Qr (PySem.W.kat_run (E:=E) (ks:=ks) (vs:=vs) (Q:=λst fU=>∃p:Array Nat,p.size=vs.length/\a0 st=p.map (kas_item (ks.toArray.zip vs.toArray))/\Bi st=none/\fU=s'/\p=zU aE (kas_sort vs.length)) hl MD h64 (λp st fU b1 b2 b3 b4=>⟨p,b1,b2,b3,b4⟩) run) ?_ λ_ _ z=>z);rintro⟨⟨⟩,st⟩ fU ⟨p,hp,har,hf,rfl,ep⟩;have hs:=PySem.W.kat_snds hl har;rw[show p.toList=yP vs.length aE by unfold yP;rw[θ MD,ep]] at hs
  exact YU hs hf ol zl (by lia) C4 hk ha q
end
open PySem.W (KasT kas_asc kas_desc kas_rev kas_tail3 kas_descPart kas_count kas_place kas_bin kas_sort kla_fn kla_obj envX tabObj CodeHd kas_ask kas_item)
section
variable{A:Qd}{s:kR}{prog:Qq}{w:World}{E:kL->kR->Prop}{ag:Array pS}{κ:gu}{an:pS->pS->Bool}{M:Model}{vs ks:List kL}{g:Heap}{a kS:Addr}{e e1:Nat}{f:kL}
section
variable{R:Fl->kR->Prop}
abbrev nb(prog:Qq)(w:World)(A:Qd)(env:Env)(R:Fl->kR->Prop):kL->kR->Prop:=notedBy (ο prog w) A env λe s'=>R (.error e) s'
end
noncomputable def fV:Bool->pS->Array pS->Nat->Nat->Nat->StateT uV Sem (Option Nat):=sortPriv%PySem.Builtin.gallop
noncomputable def E9:Array pS->Array pS->StateT uV Sem (Array pS):=sortPriv%PySem.Builtin.mergeLo
noncomputable def F3:Array pS->Array pS->StateT uV Sem (Array pS):=sortPriv%PySem.Builtin.mergeHi
def ye{arr:Array pS}{i:Nat}{st:uV}{Q:pS->uV->Prop}(h:i<arr.size)(q:Q arr[i] st):wpS (ο prog w) A E s (elem' arr i) Q st:=by
 rw[elem'_eq,uG h];exact pP q
variable{c:Prop}
section
variable{σ α:Type}{p q:StateT σ Sem α}{Q:α->σ->Prop}{st:σ}
theorem wT{_:Decidable c}(h1:wpS M A E s p Q st)(h2:wpS M A E s q Q st):wpS M A E s (if c then p else q) Q st:=by split<;>assumption
def wjp{β:Type}{p:StateT σ Sem α}(j:Unit->β->StateT σ Sem α)(P:β->Prop)(f:∀o,P o->wpS M A E s (j () o) Q st)(h:(∀o,P o->wpS M A E s (j () o) Q st)->wpS M A E s p Q st):wpS M A E s p Q st:=h f
def wjq{β γ:Type}{p:StateT σ Sem α}(j:Unit->β->γ->StateT σ Sem α)(P:β->γ->Prop)(f:∀o x,P o x->wpS M A E s (j () o x) Q st)(h:(∀o x,P o x->wpS M A E s (j () o x) Q st)->wpS M A E s p Q st):wpS M A E s p Q st:=h f
end
def yW(a:Array pS)(i j:Nat):(a.extract i j).toList=(a.toList.drop i).take (j-i):=by simp
theorem Ya(a:Array pS)(i:Nat):(a.extract i).toList=a.toList.drop i:=by
 rw[yW];exact QT (by rw[uF,pL];lia)
def vJ(a:Array pS)(i k:Nat):(a.extract i (i+k)).toList=(a.toList.drop i).take k:=by rw[yW,Nat.add_sub_cancel_left]
def Jo(ay a:Array pS)(i:Nat)(h:i<a.size):ay.push a[i]=ay++a.extract i (i+1):=by
 apply CG.mp
 rw[uT,vJ,Bk]
 congr 1
 have h':i<a.toList.length:=by simpa using h
 rw[Qf h']
 simp
abbrev OK(st:uV)(g:Nat):uV:=Fq (kindOf st) (a0 st) (uC st) g (Bi st)
variable{lo:Nat}
section
variable{α β γ δ ε:Type}{st:uV}{R:Array pS->Prop}
abbrev LI(st:uV)(P:α->β->γ->Prop)(c:Option (Array pS)×α×β×γ×δ)(t:uV):Prop:=(c.1=none/\P c.2.1 c.2.2.1 c.2.2.2.1)/\∃g,t=OK st g
abbrev LQ(st:uV)(R:Array pS->Prop)(P:α->β->γ->Prop)(c:Option (Array pS)×α×β×γ×δ)(t:uV):Prop:=((∃r,c.1=some r/\R r)\/(c.1=none/\P c.2.1 c.2.2.1 c.2.2.2.1))/\∃g,t=OK st g
def Ry{B:Nat->(Option (Array pS)×α×β×γ×δ)->StateT uV Sem ε}{P:Nat->α->β->γ->Prop}{G:Nat->ε->uV->Prop}{hi:Nat}(h:∀y o i j r g,y<hi->P y o i j->wpS M A E s (B y (none,o,i,j,r)) (G y) (OK st g)):∀y c t,lo<=y->y<hi->LI st (P y) c t->wpS M A E s (B y c) (G y) t:=by
 rintro y ⟨c,o,i,j,r⟩ t _ hy ⟨⟨e,p⟩,g,rfl⟩
 cases e;exact h y o i j r g hy p
def Rz{B:(Option (Array pS)×α×β×γ×δ)->StateT uV Sem ε}{P:α->β->γ->Prop}{G:ε->uV->Prop}(h1:∀r o i j q g,R r->wpS M A E s (B (some r,o,i,j,q)) G (OK st g))(h2:∀o i j q g,P o i j->wpS M A E s (B (none,o,i,j,q)) G (OK st g)):∀c t,LQ st R P c t->wpS M A E s (B c) G t:=by
 rintro⟨c,o,i,j,r⟩ t ⟨⟨x,e,p⟩|⟨e,p⟩,g,rfl⟩
 ·cases e;exact h1 _ o i j r g p
 ·cases e;exact h2 o i j r g p
end
def Yy(a:Array pS)(n:Nat):(a.extract 0 n).toList=a.toList.take n:=by rw[yW,Bj,IA]
theorem WS(sa:Nat):∀(l:List pS)(k:Nat)(a:Array pS),sa+k+l.length<=a.size->((l.zipIdx k).foldl (λa(x:pS×Nat)=>match x with|(p,j)=>a.setIfInBounds (sa+j) p) a).toList=a.toList.take (sa+k)++l++a.toList.drop (sa+k+l.length)
 |[],k,a,_=>by simp
 |p::l,k,a,h=>by
  rw[Do,CW];have hk:sa+k<a.toList.length:=by simp only[kZ] at h;rw[pL];lia
  have:=WS sa l (k+1) (a.setIfInBounds (sa+k) p) (by rw[Array.size_setIfInBounds];simp only[kZ] at h;lia)
  rw[this,Array.toList_setIfInBounds];have e1:(a.toList.set (sa+k) p).take (sa+(k+1))=a.toList.take (sa+k)++[p]:=by
   rw[show sa+(k+1)=sa+k+1 by lia,pU,List.take_set_of_le (pI _),gJ hk]
   rfl
  have e2:(a.toList.set (sa+k) p).drop (sa+(k+1)+l.length)=a.toList.drop (sa+k+(p::l).length):=by
   rw[List.drop_set_of_lt (by lia),kZ]
   congr 1
   lia
  rw[e1,e2]
  simp[ui]
variable{sa:Nat}
theorem VV{a m:Array pS}{sb nb:Nat}(h1:sa<=sb)(h2:sb+nb<=a.size)(hm:m.toList.Perm ((a.extract sa sb).toList++(a.extract sb (sb+nb)).toList)):
  (m.toList.zipIdx.foldl (λa(x:pS×Nat)=>match x with|(p,j)=>a.setIfInBounds (sa+j) p) a).Perm a:=by
 have lm:m.toList.length=sb+nb-sa:=by
  rw[hm.length_eq,kW,yW,yW,pC,pC,uF,uF,pL];lia
 apply Array.perm_iff_toList_perm.mpr
 rw[WS sa m.toList 0 a (by lia),Bl]
 have e:a.toList=a.toList.take sa++((a.toList.drop sa).take (sb-sa)++(a.toList.drop sb).take nb)++a.toList.drop (sa+m.toList.length):=by
  rw[lm,show sa+(sb+nb-sa)=sb+nb by lia]
  have x1:(a.toList.drop sb).take nb++a.toList.drop (sb+nb)=a.toList.drop sb:=by rw[<-AL,uP]
  have x2:(a.toList.drop sa).take (sb-sa)++a.toList.drop sb=a.toList.drop sa:=by
   have:a.toList.drop sb=(a.toList.drop sa).drop (sb-sa):=by rw[AL,show sa+(sb-sa)=sb by lia]
   rw[this,uP]
  rw[ui,ui,x1,x2,uP]
 rw[yW,vJ] at hm;refine List.Perm.trans ((Eg _ hm).append_right _) ?_;rw[<-e]
variable{x:pS}
def Yn{a:Array pS}{i j:Nat}(h:x∈a.extract i j):x∈a:=by
 have:x∈(a.extract i j).toList:=FH.mpr h;rw[yW] at this;exact Array.mem_toList_iff.mp (Au (UV this))
variable{st:uV}
def Kx{aH:uV}{Q:PUnit->uV->Prop}(h:Q ⟨⟩ aH):wpS (ο prog w) A E s (set aH:StateT uV Sem PUnit) Q st:=by
 unfold wpS;rw[StateT.run_set];exact kO ⟨rfl,h⟩
abbrev pSt(st:uV)(xs:Array pS)(p:Array (Nat×Nat×Nat))(g:Nat):uV:=Fq (kindOf st) xs p g (Bi st)
def cp:List (Nat×Nat×Nat)->Nat->Nat->Prop
 |[],b,e=>b=e
 |(a,n,_)::r,b,e=>a=b/\0<n/\cp r (b+n) e
theorem cp.le:∀{l:List (Nat×Nat×Nat)}{b e:Nat},cp l b e->b<=e
 |[],b,e,h=>Hz h
 |(a,n,_)::r,b,e,h=>uK (Nat.le_add_right _ _) (cp.le h.2.2)
theorem cp.push:∀{l:List (Nat×Nat×Nat)}{b e n p:Nat},cp l b e->0<n->cp (l++[(e,n,p)]) b (e+n)
 |[],b,e,n,p,h,hn=>by
  have h:b=e:=h;subst h;exact⟨rfl,hn,rfl⟩
 |(a,m,q)::r,b,e,n,p,h,hn=>⟨h.1,h.2.1,cp.push h.2.2 hn⟩
theorem cp.at:∀{l:List (Nat×Nat×Nat)}{b e i a n p a' n' p':Nat},cp l b e->l[i]?=some (a,n,p)->l[i+1]?=some (a',n',p')->a'=a+n/\0<n/\0<n'/\a+n+n'<=e/\cp ((l.set i (a,n+n',p)).eraseIdx (i+1)) b e
 |(x,m,q)::(x',m',q')::r,b,e,0,a,n,p,a',n',p',h,e1,e2=>by
  cases e1;cases e2;obtain⟨h1,h2,h3,h4,h5⟩:=h;have:=cp.le h5;refine⟨by lia,h2,h4,by lia,h1,by lia,?_⟩
  rw[<-CI];exact h5
 |(x,m,q)::r,b,e,i+1,a,n,p,a',n',p',h,e1,e2=>by
  obtain⟨h1,h2,h3⟩:=h;obtain⟨g1,g2,g3,g4,g5⟩:=cp.at h3 (by simpa using e1) (by simpa using e2)
  exact⟨g1,g2,g3,g4,h1,h2,g5⟩
 |[],b,e,i,a,n,p,a',n',p',h,e1,e2=>by cases i<;>cases e1
 |[_],b,e,0,a,n,p,a',n',p',h,e1,e2=>by simp at e2
theorem cp.power(w:Nat):∀{l:List (Nat×Nat×Nat)}{b e i:Nat},cp l b e->cp (l.modify i λx=>(x.1,x.2.1,w)) b e
 |[],b,e,i,h=>by cases i<;>exact h
 |(x,m,q)::r,b,e,0,h=>h
 |(x,m,q)::r,b,e,i+1,h=>⟨h.1,h.2.1,cp.power w h.2.2⟩
def TH(ag:Array pS)(κ:gu)(lo:Nat)(st:uV):Prop:=(a0 st).Perm ag/\kindOf st=κ/\Bi st=none/\cp (uC st).toList 0 lo/\lo<=ag.size
def OL[Decidable c]{x y z:Nat}(h1:x+1<z)(h2:y+1<z):(if c then x else y)+1<z:=by
 by_cases h:c
 ·rw[θ h];exact h1
 ·rw[η h];exact h2
variable{n:Nat}
def Ky(iv:TH ag κ lo st)(hn:0<n)(hz:lo+n<=ag.size):TH ag κ (lo+n) (Ft st ((uC st).push (lo,n,0))):=by
 obtain⟨h1,h2,h3,h4,h5⟩:=iv;refine⟨h1,h2,h3,?_,hz⟩;show cp ((uC st).push (lo,n,0)).toList 0 (lo+n);rw[Bk];exact h4.push hn
def zb1{j w:Nat}(iv:TH ag κ lo st):TH ag κ lo (Ft st ((uC st).modify j λx=>(x.1,x.2.1,w))):=by
 obtain⟨h1,h2,h3,h4,h5⟩:=iv;refine⟨h1,h2,h3,?_,h5⟩;show cp ((uC st).modify j λx=>(x.1,x.2.1,w)).toList 0 lo;rw[FY];exact h4.power w
abbrev A9(aE:Nat->Nat->Bool):Prop:=cG aE
def VH(h:x∈ks.toArray.zip vs.toArray):x.1∈ks:=by
 have h:x∈(ks.toArray.zip vs.toArray).toList:=FH.mpr h;rw[Gk] at h;exact(AZ h).1
variable{α:Type}
def dm(an:α->α->Bool)(l:List α):Prop:=l.Pairwise λx y=>an y x=false
def QR(prog:Qq)(w:World)(A:Qd)(E:kL->kR->Prop)(s:kR)(κ:gu)(ag:Array pS)(an:pS->pS->Bool):Prop:=
 ∀(x y:pS)(st:uV)(Q:Option Bool->uV->Prop),x∈ag->y∈ag->kindOf st=κ->Q (some (an x y)) st->wpS (ο prog w) A E s (lt' x y) Q st
def yz{σ:Type}{p q:StateT σ Sem α}{Q:α->σ->Prop}{M:Model}{st:σ}{x y:Nat}(h1:x=y->wpS M A E s p Q st)(h2:x≠y->wpS M A E s q Q st):wpS M A E s (if(x==y)=true then p else q) Q st:=by
 by_cases d:(x==y)=true
 ·rw[θ d];exact h1 (Hu d)
 ·rw[η d];exact h2 λz=>d (by rw[z];exact χ _)
theorem wf{σ:Type}{p q:StateT σ Sem α}{Q:α->σ->Prop}{M:Model}{st:σ}{_:Decidable c}(h1:c->wpS M A E s p Q st)(h2:¬c->wpS M A E s q Q st):wpS M A E s (if c then p else q) Q st:=by split<;>(first|exact h1 ‹_›|exact h2 ‹_›)
variable{G:Prop}
def via3{γ:Type}{p:α->StateT uV Sem γ}{Q:γ->uV->Prop}{C:α->uV->Prop}(f:(∀a st,C a st->wpS (ο prog w) A E s (p a) Q st)->G)(h:∀a st,C a st->wpS (ο prog w) A E s (p a) Q st):G:=f h
variable{β:Type}
def via2{γ:Type}{p:α->β->StateT uV Sem γ}{Q:γ->uV->Prop}{C:α->β->Prop}(f:(∀a b,C a b->wpS (ο prog w) A E s (p a b) Q st)->G)(h:∀a b,C a b->wpS (ο prog w) A E s (p a b) Q st):G:=f h
variable{Q:Option Nat->uV->Prop}{key:pS}{base hint:Nat}
theorem JT(hq:QR prog w A E s κ ag an){left:Bool}{arr:Array pS}(hk:key∈ag)(ha:∀x,x∈arr->x∈ag)(hb:base+n<=arr.size)(hh:hint<n)(cO:kindOf st=κ)
  (be:Nat->Bool)(hbe:∀i(h:base+i<arr.size),i<n->be i=if left=true then an arr[base+i] key else !an key arr[base+i])(mono:∀i j,i<j->j<n->be j=true->be i=true)
  (h:∀k,k<=n->(∀i,i<k->be i=true)->(∀i,k<=i->i<n->be i=false)->Q (some k) st):
  wpS (ο prog w) A E s (fV left key arr base n hint) Q st:=by
 have bey:∀(i:Nat)(Q:Option Bool->uV->Prop),i<n->Q (some (be i)) st->wpS (ο prog w) A E s ((do let x <-elem' arr (base+i);if left then lt' x key else return(<-lt' key x).map (!·)):StateT uV Sem (Option Bool)) Q st:=by
  intro i Q hi hQ;refine kn (ye (by omega) ?_)
  have hx:arr[base+i]∈ag:=ha _ (UK _);rw[hbe i (by omega) hi] at hQ
  cases left with
  |true=>exact hq _ _ _ _ hx hk cO hQ
  |false=>exact kn (hq _ _ _ _ hk hx cO (pP hQ))
 have u4:∀i j,i<=j->j<n->be j=true->be i=true:=λi j ci hj hi=>by
  rcases AW ci with z|z
  ·exact mono i j z hj hi
  ·rw[z];exact hi
 have F4:∀i j,i<=j->j<n->be i=false->be j=false:=λi j ci hj hi=>by
  cases e:be j with
  |false=>rfl
  |true=>rw[u4 i j ci hj e] at hi;cases hi
 refine kn (bey hint _ hh ?_)
 apply via2 (Q:=Q) (C:=λlo hi=>lo<=hi/\hi<=n/\(∀i,i<lo->be i=true)/\∀i,hi<=i->i<n->be i=false) (st:=st)
 ·intro go
  cases er:be hint with
  |true=>
   show wpS _ _ _ _ (_>>=_) _ _
   refine kn (gH (QV (I:=λx c aH=>∃l o,st=aH/\c=(none,l,o)/\l<o/\hint+l<n/\be (hint+l)=true/\x+1<=o) (Q:=λc aH=>∃l o,st=aH/\c=(none,l,o)/\l<o/\hint+l<n/\be (hint+l)=true/\(n-hint<=o\/(hint+o<n/\be (hint+o)=false))) ?_ ?_ ⟨0,1,rfl,rfl,HK,hh,er,pI _⟩) ?_)
   ·rintro x _ _ _ hx ⟨l,o,rfl,rfl,q1,q2,q3,q4⟩;dsimp only;refine wf (λc=>pP ⟨l,o,rfl,rfl,q1,q2,q3,.inl c⟩) λc=>kn (bey (hint+o) _ (by omega) ?_)
    cases eb:be (hint+o) with
    |true=>exact pP ⟨o,2*o+1,rfl,rfl,by omega,by omega,eb,by omega⟩
    |false=>exact pP ⟨l,o,rfl,rfl,q1,q2,q3,.inr ⟨by omega,eb⟩⟩
   ·rintro _ _ ⟨l,o,rfl,rfl,q1,q2,q3,q4⟩;exact⟨l,o,rfl,rfl,q1,q2,q3,.inl (by omega)⟩
   ·rintro _ _ ⟨l,o,rfl,rfl,q1,q2,q3,q4⟩;show wpS _ _ _ _ (_>>=_) _ _;have z:=go (hint+l+1) (hint+min o (n-hint)) ⟨by omega,by omega,λi hi=>u4 i _ (by omega) q2 q3,λi hi hn=>by
     rcases q4 with z|⟨z1,z2⟩
     ·omega
     ·exact F4 (hint+o) i (by omega) hn z2⟩
    revert z
    generalize hint+l+1=a,hint+min o (n-hint)=b;exact id
  |false=>
   show wpS _ _ _ _ (_>>=_) _ _
   refine kn (gH (QV (I:=λx c aH=>∃l o,st=aH/\c=(none,l,o)/\l<o/\l<=hint/\be (hint-l)=false/\x+1<=o) (Q:=λc aH=>∃l o,st=aH/\c=(none,l,o)/\l<o/\l<=hint/\be (hint-l)=false/\(hint+1<=o\/(o<=hint/\be (hint-o)=true))) ?_ ?_ ⟨0,1,rfl,rfl,HK,QB _,er,pI _⟩) ?_)
   ·rintro x _ _ _ hx ⟨l,o,rfl,rfl,q1,q2,q3,q4⟩;dsimp only;refine wf (λc=>pP ⟨l,o,rfl,rfl,q1,q2,q3,.inl c⟩) λc=>kn (bey (hint-o) _ (by omega) ?_)
    cases eb:be (hint-o) with
    |true=>exact pP ⟨l,o,rfl,rfl,q1,q2,q3,.inr ⟨by omega,eb⟩⟩
    |false=>exact pP ⟨o,2*o+1,rfl,rfl,by omega,by omega,eb,by omega⟩
   ·rintro _ _ ⟨l,o,rfl,rfl,q1,q2,q3,q4⟩;exact⟨l,o,rfl,rfl,q1,q2,q3,.inl (by omega)⟩
   ·rintro _ _ ⟨l,o,rfl,rfl,q1,q2,q3,q4⟩;show wpS _ _ _ _ (_>>=_) _ _;have z:=go (hint+1-min o (hint+1)) (hint-l) ⟨by omega,by omega,λi hi=>by
     rcases q4 with z|⟨z1,z2⟩
     ·omega
     ·exact u4 i (hint-o) (by omega) (by omega) z2,λi hi hn=>F4 (hint-l) i hi hn q3⟩
    revert z
    generalize hint+1-min o (hint+1)=a,hint-l=b;exact id
 rintro a b ⟨h1,h2,h3,h4⟩;refine kn (gH (QV (I:=λx c aH=>∃l r,st=aH/\c=(none,l,r)/\l<=r/\r<=n/\(∀i,i<l->be i=true)/\(∀i,r<=i->i<n->be i=false)/\r-l<=n-x) (Q:=λc aH=>∃l r,st=aH/\c=(none,l,r)/\r<=n/\(∀i,i<r->be i=true)/\(∀i,r<=i->i<n->be i=false)) ?_ ?_ ⟨a,b,rfl,rfl,h1,h2,h3,h4,by omega⟩) ?_)
 ·rintro x _ _ _ hx ⟨l,r,rfl,rfl,q1,q2,q3,q4,q5⟩;dsimp only;refine wf (λc=>?_) λc=>kn (bey (l+(r-l)/2) _ (by omega) ?_)
  ·have el:l=r:=by omega
   subst el;exact pP ⟨l,l,rfl,rfl,q2,q3,q4⟩
  ·cases eb:be (l+(r-l)/2) with
   |true=>exact pP ⟨l+(r-l)/2+1,r,rfl,rfl,by omega,q2,λi cq=>u4 i _ (by omega) (by omega) eb,q4,by omega⟩
   |false=>exact pP ⟨l,l+(r-l)/2,rfl,rfl,by omega,by omega,q3,λi cq hn=>F4 _ i cq hn eb,by omega⟩
 ·rintro _ _ ⟨l,r,rfl,rfl,q1,q2,q3,q4,q5⟩;have el:l=r:=by omega
  subst el;exact⟨l,l,rfl,rfl,q2,q3,q4⟩
 ·rintro _ _ ⟨l,r,rfl,rfl,q2,q3,q4⟩;exact pP (h r q2 q3 q4)
def xM(an:pS->pS->Bool)(arr:Array pS)(base n:Nat):Prop:=∀i j(_:i<j)(_:j<n)(hi:base+i<arr.size)(hj:base+j<arr.size),an arr[base+j] arr[base+i]=false
theorem OM(T:cG an)(hq:QR prog w A E s κ ag an){arr:Array pS}(hk:key∈ag)(ha:∀x,x∈arr->x∈ag)(hb:base+n<=arr.size)(hh:hint<n)(cO:kindOf st=κ)(so:xM an arr base n)
  (h:∀k,k<=n->(∀i,i<k->∀(h:base+i<arr.size),an key arr[base+i]=false)->(∀i,k<=i->i<n->∀(h:base+i<arr.size),an key arr[base+i]=true)->Q (some k) st):
  wpS (ο prog w) A E s (fV false key arr base n hint) Q st:=by
 refine JT hq hk ha hb hh cO (λi=> !an key (arr.getD (base+i) key)) (λi hi hn=>?_) (λi j ci hj e=>?_) λk dw h1 h2=>h k dw (λi hi tE=>?_) λi hi hn tE=>?_
 ·rw[η (by decide)]
  simp only[AX,hi,dite_true];rfl
 ·have bi:base+i<arr.size:=by lia
  have bj:base+j<arr.size:=by lia
  simp only[AX,bi,bj,dite_true,Uf] at e⊢;exact T.cut _ _ _ e (so i j ci hj bi bj)
 ·have:=h1 i hi;simp only[AX,tE,dite_true,Uf] at this;exact this
 ·have:=h2 i hi hn;simp only[AX,tE,dite_true,Cp] at this;exact this
theorem ON(T:cG an)(hq:QR prog w A E s κ ag an){arr:Array pS}(hk:key∈ag)(ha:∀x,x∈arr->x∈ag)(hb:base+n<=arr.size)(hh:hint<n)(cO:kindOf st=κ)(so:xM an arr base n)
  (h:∀k,k<=n->(∀i,i<k->∀(h:base+i<arr.size),an arr[base+i] key=true)->(∀i,k<=i->i<n->∀(h:base+i<arr.size),an arr[base+i] key=false)->Q (some k) st):
  wpS (ο prog w) A E s (fV true key arr base n hint) Q st:=by
 refine JT hq hk ha hb hh cO (λi=>an (arr.getD (base+i) key) key) (λi hi hn=>?_) (λi j ci hj e=>?_) λk dw h1 h2=>h k dw (λi hi tE=>?_) λi hi hn tE=>?_
 ·rw[θ rfl];simp only[AX,hi,dite_true];rfl
 ·have bi:base+i<arr.size:=by lia
  have bj:base+j<arr.size:=by lia
  simp only[AX,bi,bj,dite_true] at e⊢
  cases z:an (arr.getInternal (base+i) bi) key with
  |true=>rfl
  |false=>
   have:=T.cut _ _ _ (so i j ci hj bi bj) z;rw[show an arr[base+j] key=true from e] at this
   cases this
 ·have:=h1 i hi;simp only[AX,tE,dite_true] at this;exact this
 ·have:=h2 i hi hn;simp only[AX,tE,dite_true] at this;exact this
structure TK(an:pS->pS->Bool)(a b:Array pS)(J:Array pS->Nat->Nat->Prop)(R:Array pS->Prop):Prop where
 z:∀h:0<b.size,J #[b[0]] 0 1
 done:∀{ay ia ib},J ay ia ib->ib=b.size\/ia=a.size->R (ay++a.extract ia++b.extract ib)
 last:∀{ay ia ib},J ay ia ib->ia+1=a.size->R (ay++b.extract ib++a.extract ia)
 b1:∀{ay ia ib},J ay ia ib->∀(ha:ia<a.size)(hb:ib<b.size),an b[ib] a[ia]=true->J (ay.push b[ib]) ia (ib+1)
 a1:∀{ay ia ib},J ay ia ib->∀(ha:ia<a.size)(hb:ib<b.size),an b[ib] a[ia]=false->J (ay.push a[ia]) (ia+1) ib
 ak:∀{ay ia ib k},J ay ia ib->∀hb:ib<b.size,ia+k<=a.size->(∀i,i<k->∀(h:ia+i<a.size),an b[ib] a[ia+i]=false)->J (ay++a.extract ia (ia+k)) (ia+k) ib
 bk:∀{ay ia ib k},J ay ia ib->∀ha:ia<a.size,ib+k<=b.size->(∀i,i<k->∀(h:ib+i<b.size),an b[ib+i] a[ia]=true)->J (ay++b.extract ib (ib+k)) ia (ib+k)
theorem Yl{an:pS->pS->Bool}{arr:Array pS}{m:Nat}(h:xM an arr 0 n)(hb:base+m<=n):xM an arr base m:=λi j ci hj hi cS=>by
 have e:∀{k:Nat}(h1:base+k<arr.size)(h2:0+(base+k)<arr.size),arr[base+k]=arr[0+(base+k)]:=λh1 h2=>by congr 1;lia
 rw[e hi (by lia),e cS (by lia)]
 exact h (base+i) (base+j) (by lia) (by lia) (by lia) (by lia)
theorem loG(T:cG an)(hq:QR prog w A E s κ ag an){J:Array pS->Nat->Nat->Prop}{R:Array pS->Prop}{a b:Array pS}{Q:Array pS->uV->Prop}(ha:∀x,x∈a->x∈ag)(hb:∀x,x∈b->x∈ag)(a1:0<a.size)(b1:0<b.size)(cO:kindOf st=κ)(L:TK an a b J R)(sa:xM an a 0 a.size)(sb:xM an b 0 b.size)
  (h:∀r g,R r->Q r (OK st g)):wpS (ο prog w) A E s (E9 a b) Q st:=by
 have ea:∀{i:Nat}(h:i<a.size),a[i]∈ag:=λh=>ha _ (UK h);have eb:∀{i:Nat}(h:i<b.size),b[i]∈ag:=λh=>hb _ (UK h);refine kn (Dx (Ud ⟨rfl,kn (ye b1 ?_)⟩));refine yz (λc1=>pP (h _ (FI st) (L.done (L.z b1) (.inl c1)))) λc1=>yz (λc2=>pP (h _ (FI st) (L.last (L.z b1) c2))) λc2=>kn (CJ ?_);refine kn (gH (QV (I:=λx=>LI st (λ(o:Array pS)(i j:Nat)=>J o i j/\i+1<a.size/\j<b.size/\x+1<=i+j)) (Q:=LQ st R λ_ _ _=>False) (Ry λx ay ia ib mg g hx p=>?_) (λc t z=>?_) ⟨⟨rfl,L.z b1,?_⟩,FI st,rfl⟩) (Rz (λr o i j q g hr=>pP (h r g hr)) λo i j q g z=>z.elim))
 ·have pl:=p.2.2.2
  extract_lets s1 o1 s2 i1 s3 i2 m0 z0 m1
  dsimp-zeta only[s1,o1,s2,i1,s3,i2,m0,z0,m1]
  refine kn (gH (QV (I:=λy=>LI st (λ(o:Array pS)(i j:Nat)=>J o i j/\i+1<a.size/\j<b.size/\ia+ib+min y 1<=i+j)) (Q:=LQ st R λ(o:Array pS)(i j:Nat)=>J o i j/\i+1<a.size/\j<b.size/\ia+ib+1<=i+j) (Ry λy ay ja jb q g hy p=>?_) (λc t z=>⟨.inr ⟨z.1.1,z.1.2.1,z.1.2.2.1,z.1.2.2.2.1,?_⟩,z.2⟩) ⟨⟨rfl,p.1,p.2.1,p.2.2.1,by show ia+ib+min 0 1<=ia+ib;lia⟩,_,rfl⟩) (Rz (λr o i j q g hr=>pP ⟨.inl ⟨_,rfl,hr⟩,_,rfl⟩) λay ja jb q g p=>?_))
  ·have OO:=p.2.1;have H8:=p.2.2.1;have hl:=p.2.2.2;have hj:ja<a.size:=by lia
   clear pl c1 c2 hx;dsimp only;refine kn (ye H8 (kn (ye hj (kn (hq _ _ _ _ (eb H8) (ea hj) cO ?_)))))
   cases TL:an b[jb] a[ja] with
   |true=>
    refine kn (ye H8 ?_);have eH:=L.b1 p.1 hj H8 TL;refine yz (λd=>pP ⟨.inl ⟨_,rfl,L.done eH (.inl d)⟩,_,rfl⟩) λd=>?_;have l1:jb+1<b.size:=by lia
    exact wT (pP ⟨.inr ⟨rfl,eH,OO,l1,(by show ia+ib+1<=ja+(jb+1);lia)⟩,_,rfl⟩) (pP ⟨⟨rfl,eH,OO,l1,(by show ia+ib+min (y+1) 1<=ja+(jb+1);lia)⟩,_,rfl⟩)
   |false=>
    refine kn (ye hj ?_);have eH:=L.a1 p.1 hj H8 TL;refine yz (λd=>pP ⟨.inl ⟨_,rfl,L.last eH d⟩,_,rfl⟩) λd=>?_;have l1:ja+1+1<a.size:=by lia
    exact wT (pP ⟨.inr ⟨rfl,eH,l1,H8,(by show ia+ib+1<=ja+1+jb;lia)⟩,_,rfl⟩) (pP ⟨⟨rfl,eH,l1,H8,(by show ia+ib+min (y+1) 1<=ja+1+jb;lia)⟩,_,rfl⟩)
  ·have:=z.1.2.2.2.2;lia
  refine kn (Dx (Ud ⟨rfl,?_⟩));refine kn (gH (QV (I:=λy=>LI st (λ(o:Array pS)(i j:Nat)=>J o i j/\i+1<a.size/\j<b.size/\ia+ib+1<=i+j)) (Q:=LQ st R λ(o:Array pS)(i j:Nat)=>J o i j/\i+1<a.size/\j<b.size/\ia+ib+1<=i+j) (Ry λy ay ka kb q g hy p=>?_) (λc t z=>⟨.inr z.1,z.2⟩) ⟨⟨rfl,p⟩,_,rfl⟩) (Rz (λr o i j q g hr=>pP ⟨.inl ⟨_,rfl,hr⟩,_,rfl⟩) λay ka kb q g p=>?_))
  ·have TM:=p.2.1;have RA:=p.2.2.1;have Mi:=p.2.2.2;have hp:=p.1;clear pl c1 c2 hx hy
   extract_lets s1 o1 s2 i1 s3 i2 s4 m1 s5 c1 c2 i3 jp
   refine wjp jp (λ_=>True) (λm _=>?_) λhj=>wT (hj _ trivial) (hj _ trivial)
   dsimp-zeta only[jp,s1,o1,s2,i1,s3,i2,s4,m1,s5,c1,c2,i3]
   refine kn (Uv (kn (ye RA (kn (OM T hq (eb RA) ha (by lia) (by lia) cO (Yl sa (by lia)) λk hk t1 t2=>?_)))))
   dsimp-zeta only
   extract_lets ac jq
   refine wjq jq (λo z=>(J o z kb/\∀hz:z<a.size,an b[kb] a[z]=true)/\z+1<a.size/\ia+ib+1<=z+kb) (λo z p=>?_) λhj=>?_
   ·have hz:=p.2.1;have hl:=p.2.2;have OP:z<a.size:=by lia
    clear Mi TM hk t1 t2 hp
    dsimp-zeta only[jq]
    refine kn (ye RA ?_);have dQ:=L.b1 p.1.1 OP RA (p.1.2 OP);refine yz (λd3=>pP ⟨.inl ⟨_,rfl,L.done dQ (.inl d3)⟩,_,rfl⟩) λd3=>?_;refine kn (ye OP (kn (ON T hq (ea OP) hb (by lia) (by lia) cO (Yl sb (by lia)) λk2 A8 u1 u2=>?_)))
    dsimp-zeta only
    extract_lets bc i5 jr
    refine wjq jr (λo y=>(J o z y/\∀hy:y<b.size,an b[y] a[z]=false)/\y<b.size/\ia+ib+1<=z+y) (λo y p=>?_) λhj=>?_
    ·refine kn (ye OP ?_);have Ks:=L.a1 p.1.1 OP p.2.1 (p.1.2 p.2.1);refine yz (λd5=>pP ⟨.inl ⟨_,rfl,L.last Ks d5⟩,_,rfl⟩) λd5=>?_;have l1:z+1+1<a.size:=by lia
     have l2:ia+ib+1<=z+1+y:=by have:=p.2.2;lia
     exact wT (pP ⟨.inr ⟨rfl,Ks,l1,p.2.1,l2⟩,_,rfl⟩) (pP ⟨⟨rfl,Ks,l1,p.2.1,l2⟩,_,rfl⟩)
    ·have l3:kb+1+k2<=b.size:=by lia
     have MA:=L.bk dQ OP l3 u1;exact wf (λ_=>yz (λd4=>pP ⟨.inl ⟨_,rfl,L.done MA (.inl d4)⟩,_,rfl⟩) λd4=>hj _ _ ⟨⟨MA,λhy=>u2 k2 (pI _) (by lia) hy⟩,by lia,by lia⟩) λz0=>hj _ _ ⟨⟨dQ,λhy=>u2 0 (Hd.mp z0) (by lia) hy⟩,by lia,by lia⟩
   ·have l3:ka+k<=a.size:=by lia
    have eH:=L.ak hp RA l3 t1;exact wf (λ_=>yz (λd1=>pP ⟨.inl ⟨_,rfl,L.last eH d1⟩,_,rfl⟩) λd1=>yz (λd2=>pP ⟨.inl ⟨_,rfl,L.done eH (.inr d2)⟩,_,rfl⟩) λd2=>hj _ _ ⟨⟨eH,λhz=>t2 k (pI _) (by lia) hz⟩,by lia,by lia⟩) λz0=>hj _ _ ⟨⟨hp,λhz=>t2 0 (Hd.mp z0) (by lia) hz⟩,TM,Mi⟩
  ·exact kn (Uv (pP ⟨⟨rfl,p.1,p.2.1,p.2.2.1,(by have:=p.2.2.2;show x+1+1<=ka+kb;lia)⟩,_,rfl⟩))
 ·have:=z.1.2.2.2.2;have:=z.1.2.2.1;have:=z.1.2.2.2.1;lia
 ·show 0+1<a.size/\1<b.size/\0+1<=0+1
  lia
structure TN(an:pS->pS->Bool)(a b:Array pS)(J:Array pS->Nat->Nat->Prop)(R:Array pS->Prop):Prop where
 z:∀h:0<a.size,J #[a[a.size-1]] (a.size-1) b.size
 le:∀{ay na nb},J ay na nb->na<=a.size/\nb<=b.size
 done:∀{ay na nb},J ay na nb->na=0\/nb=0->R (a.extract 0 na++b.extract 0 nb++ay.reverse)
 first:∀{ay na nb},J ay na nb->nb=1->R (b.extract 0 nb++a.extract 0 na++ay.reverse)
 a1:∀{ay na nb},J ay na nb->∀(_:0<na)(_:0<nb)(ha:na-1<a.size)(hb:nb-1<b.size),an b[nb-1] a[na-1]=true->J (ay.push a[na-1]) (na-1) nb
 b1:∀{ay na nb},J ay na nb->∀(_:0<na)(_:0<nb)(ha:na-1<a.size)(hb:nb-1<b.size),an b[nb-1] a[na-1]=false->J (ay.push b[nb-1]) na (nb-1)
 ak:∀{ay na nb k},J ay na nb->∀(_:0<nb)(hb:nb-1<b.size),k<=na->(∀i,k<=i->i<na->∀(h:0+i<a.size),an b[nb-1] a[0+i]=true)->J (ay++(a.extract k na).reverse) k nb
 bk:∀{ay na nb k},J ay na nb->∀(_:0<na)(ha:na-1<a.size),k<=nb->(∀i,k<=i->i<nb->∀(h:0+i<b.size),an b[0+i] a[na-1]=false)->J (ay++(b.extract k nb).reverse) na k
theorem hiG(T:cG an)(hq:QR prog w A E s κ ag an){J:Array pS->Nat->Nat->Prop}{R:Array pS->Prop}{a b:Array pS}{Q:Array pS->uV->Prop}(ha:∀x,x∈a->x∈ag)(hb:∀x,x∈b->x∈ag)(a1:0<a.size)(b1:0<b.size)(cO:kindOf st=κ)(L:TN an a b J R)(sa:xM an a 0 a.size)(sb:xM an b 0 b.size)
  (h:∀r g,R r->Q r (OK st g)):wpS (ο prog w) A E s (F3 a b) Q st:=by
 have ea:∀{i:Nat}(h:i<a.size),a[i]∈ag:=λh=>ha _ (UK h);have eb:∀{i:Nat}(h:i<b.size),b[i]∈ag:=λh=>hb _ (UK h);refine kn (Dx (Ud ⟨rfl,kn (ye (show a.size-1<a.size by omega) ?_)⟩))
 refine yz (λc1=>pP (h _ (FI st) (L.done (L.z a1) (.inl c1)))) λc1=>yz (λc2=>pP (h _ (FI st) (L.first (L.z a1) c2))) λc2=>kn (CJ ?_)
 refine kn (gH (QV (I:=λx=>LI st (λ(i j:Nat)(o:Array pS)=>J o i j/\0<i/\1<j/\i+j+x+1<=a.size+b.size)) (Q:=LQ st R λ_ _ _=>False) (Ry λx na nb ay mg g hx p=>?_) (λc t z=>?_) ⟨⟨rfl,L.z a1,?_⟩,FI st,rfl⟩) (Rz (λr o i j q g hr=>pP (h r g hr)) λo i j q g z=>z.elim))
 ·have pl:=p.2.2.2
  extract_lets s1 o1 s2 i1 s3 i2 m0 z0 m1
  dsimp-zeta only[s1,o1,s2,i1,s3,i2,m0,z0,m1]
  refine kn (gH (QV (I:=λy=>LI st (λ(i j:Nat)(o:Array pS)=>J o i j/\0<i/\1<j/\i+j+min y 1<=na+nb)) (Q:=LQ st R λ(i j:Nat)(o:Array pS)=>J o i j/\0<i/\1<j/\i+j+1<=na+nb) (Ry λy ja jb ay q g hy p=>?_) (λc t z=>⟨.inr ⟨z.1.1,z.1.2.1,z.1.2.2.1,z.1.2.2.2.1,?_⟩,z.2⟩) ⟨⟨rfl,p.1,p.2.1,p.2.2.1,by show na+nb+min 0 1<=na+nb;omega⟩,_,rfl⟩) (Rz (λr o i j q g hr=>pP ⟨.inl ⟨_,rfl,hr⟩,_,rfl⟩) λja jb ay q g p=>?_))
  ·have OO:=p.2.1;have H8:=p.2.2.1;have hl:=p.2.2.2;have la:ja-1<a.size:=by have:=(L.le p.1).1;omega
   have lb:jb-1<b.size:=by have:=(L.le p.1).2;omega
   clear pl c1 c2 hx;dsimp only;refine kn (ye lb (kn (ye la (kn (hq _ _ _ _ (eb lb) (ea la) cO ?_)))))
   cases TL:an b[jb-1] a[ja-1] with
   |true=>
    refine kn (ye la ?_);have eH:=L.a1 p.1 OO (by omega) la lb TL
    refine yz (λd=>pP ⟨.inl ⟨_,rfl,L.done eH (.inl d)⟩,_,rfl⟩) λd=>?_;have l1:0<ja-1:=by omega
    exact wT (pP ⟨.inr ⟨rfl,eH,l1,H8,(by show ja-1+jb+1<=na+nb;omega)⟩,_,rfl⟩) (pP ⟨⟨rfl,eH,l1,H8,(by show ja-1+jb+min (y+1) 1<=na+nb;omega)⟩,_,rfl⟩)
   |false=>
    refine kn (ye lb ?_);have eH:=L.b1 p.1 OO (by omega) la lb TL
    refine yz (λd=>pP ⟨.inl ⟨_,rfl,L.first eH d⟩,_,rfl⟩) λd=>?_
    have l1:1<jb-1:=by omega
    exact wT (pP ⟨.inr ⟨rfl,eH,OO,l1,(by show ja+(jb-1)+1<=na+nb;omega)⟩,_,rfl⟩) (pP ⟨⟨rfl,eH,OO,l1,(by show ja+(jb-1)+min (y+1) 1<=na+nb;omega)⟩,_,rfl⟩)
  ·have:=z.1.2.2.2.2;omega
  refine kn (Dx (Ud ⟨rfl,?_⟩));refine kn (gH (QV (I:=λy=>LI st (λ(i j:Nat)(o:Array pS)=>J o i j/\0<i/\1<j/\i+j+1<=na+nb)) (Q:=LQ st R λ(i j:Nat)(o:Array pS)=>J o i j/\0<i/\1<j/\i+j+1<=na+nb) (Ry λy ka kb ay q g hy p=>?_) (λc t z=>⟨.inr z.1,z.2⟩) ⟨⟨rfl,p⟩,_,rfl⟩) (Rz (λr o i j q g hr=>pP ⟨.inl ⟨_,rfl,hr⟩,_,rfl⟩) λka kb ay q g p=>?_))
  ·have TM:=p.2.1;have RA:=p.2.2.1;have Mi:=p.2.2.2;have hp:=p.1;have lka:=(L.le p.1).1;have lkb:=(L.le p.1).2;have lb:kb-1<b.size:=by omega
   clear pl c1 c2 hx hy
   extract_lets s1 o1 s2 i1 s3 i2 s4 m1 s5 c1 c2 i3 jp
   refine wjp jp (λ_=>True) (λm _=>?_) λhj=>wT (hj _ trivial) (hj _ trivial)
   dsimp-zeta only[jp,s1,o1,s2,i1,s3,i2,s4,m1,s5,c1,c2,i3]
   refine kn (Uv (kn (ye lb (kn (OM T hq (eb lb) ha (by omega) (by omega) cO (Yl sa (by omega)) λk hk t1 t2=>?_)))))
   dsimp-zeta only
   extract_lets kk ac jq
   refine wjq jq (λz o=>(J o z kb/\∀hz:z-1<a.size,an b[kb-1] a[z-1]=false)/\0<z/\z+kb+1<=na+nb) (λz o p=>?_) λhj=>?_
   ·have hz:=p.2.1;have hl:=p.2.2;have la:z-1<a.size:=by have:=(L.le p.1.1).1;omega
    clear Mi TM hk lka t1 t2 hp
    dsimp-zeta only[jq]
    refine kn (ye lb ?_);have dQ:=L.b1 p.1.1 hz (by omega) la lb (p.1.2 la)
    refine yz (λd3=>pP ⟨.inl ⟨_,rfl,L.first dQ d3⟩,_,rfl⟩) λd3=>?_
    refine kn (ye la (kn (ON T hq (ea la) hb (by omega) (by omega) cO (Yl sb (by omega)) λk2 A8 u1 u2=>?_)))
    dsimp-zeta only
    extract_lets k5 bc i5 jr
    refine wjq jr (λy o=>(J o z y/\∀hy:y-1<b.size,an b[y-1] a[z-1]=true)/\1<y/\z+y+1<=na+nb) (λy o p=>?_) λhj=>?_
    ·have ly:y-1<b.size:=by have:=(L.le p.1.1).2;have:=p.2.1;omega
     refine kn (ye la ?_);have Ks:=L.a1 p.1.1 hz (by have:=p.2.1;omega) la ly (p.1.2 ly)
     refine yz (λd5=>pP ⟨.inl ⟨_,rfl,L.done Ks (.inl d5)⟩,_,rfl⟩) λd5=>?_;have l1:0<z-1:=by omega
     have l2:z-1+y+1<=na+nb:=by have:=p.2.2;omega
     exact wT (pP ⟨.inr ⟨rfl,Ks,l1,p.2.1,l2⟩,_,rfl⟩) (pP ⟨⟨rfl,Ks,l1,p.2.1,l2⟩,_,rfl⟩)
    ·have MA:=L.bk dQ hz la A8 u2
     exact wf (λ_=>yz (λd4=>pP ⟨.inl ⟨_,rfl,L.first MA d4⟩,_,rfl⟩) λd4=>yz (λd7=>pP ⟨.inl ⟨_,rfl,L.done MA (.inr d7)⟩,_,rfl⟩) λd7=>hj _ _ ⟨⟨MA,λhy=>by simpa using u1 (k2-1) (by omega) (by omega)⟩,by omega,by omega⟩) λz0=>hj _ _ ⟨⟨dQ,λhy=>by simpa using u1 (kb-1-1) (by omega) (by omega)⟩,by omega,by omega⟩
   ·have eH:=L.ak hp (by omega) lb hk t2
    exact wf (λ_=>yz (λd1=>pP ⟨.inl ⟨_,rfl,L.done eH (.inl d1)⟩,_,rfl⟩) λd1=>hj _ _ ⟨⟨eH,λhz=>by simpa using t1 (k-1) (by omega) (by omega)⟩,by omega,by omega⟩) λz0=>hj _ _ ⟨⟨hp,λhz=>by simpa using t1 (ka-1) (by omega) (by omega)⟩,TM,Mi⟩
  ·exact kn (Uv (pP ⟨⟨rfl,p.1,p.2.1,p.2.2.1,(by have:=p.2.2.2;show ka+kb+(x+1)+1<=a.size+b.size;omega)⟩,_,rfl⟩))
 ·have:=z.1.2.2.2.2;have:=z.1.2.2.1;have:=z.1.2.2.2.1;omega
 ·show 0<a.size-1/\1<b.size/\a.size-1+b.size+0+1<=a.size+b.size
  omega
variable{i k:Nat}{L ay u xs ys:List pS}
section
variable{a b:Array pS}
def xd{l m:List pS}:dm an (l++m)↔dm an l/\dm an m/\∀x,x∈l->∀y,y∈m->an y x=false:=by
 unfold dm;rw[Qs]
def MJ(an:pS->pS->Bool)(L ay xs ys:List pS):Prop:=(ay++(xs++ys)).Perm L/\dm an (ay++xs)/\dm an (ay++ys)
def MJ.mv(j:MJ an L ay (u++xs) ys)(h:∀x,x∈u->∀y,y∈ys->an y x=false):MJ an L (ay++u) xs ys:=by
 obtain⟨p,a,b⟩:=j;rw[<-ui] at a;refine⟨by simpa using p,a,xd.mpr ⟨(xd.mp a).1,(xd.mp b).2.1,λx hx y hy=>?_⟩⟩
 rcases pD.mp hx with hx|hx
 ·exact(xd.mp b).2.2 x hx y hy
 ·exact h x hx y hy
def MJ.swap(j:MJ an L ay xs ys):MJ an L ay ys xs:=⟨(Eg _ List.perm_append_comm).trans j.1,j.2.2,j.2.1⟩
def MJ.fin(j:MJ an L ay xs ys)(h:xs=[]\/ys=[]):(ay++xs++ys).Perm L/\dm an (ay++xs++ys):=by
 refine⟨by rw[ui];exact j.1,?_⟩
 rcases h with rfl|rfl
 ·rw[QM];exact j.2.2
 ·rw[QM];exact j.2.1
def XD{l:List pS}:dm (λx y=>an y x) l.reverse↔dm an l:=by
 unfold dm;rw[List.pairwise_reverse]
def MJ.ak(T:cG an){z:pS}(j:MJ an L ay (u++xs) (z::ys))(h:∀x,x∈u->an z x=false):MJ an L (ay++u) xs (z::ys):=j.mv λx hx y hy=>by
 rcases kg.mp hy with rfl|hy
 ·exact h x hx
 ·exact T.cut _ _ _ ((uI.mp (xd.mp j.2.2).2.1).1 y hy) (h x hx)
theorem MJ.bk(T:cG an){z:pS}(j:MJ an L ay (z::xs) (u++ys))(h:∀x,x∈u->an x z=true):MJ an L (ay++u) (z::xs) ys:=(j.swap.mv λx hx y hy=>by
 rcases kg.mp hy with rfl|hy
 ·exact T.asymm (h x hx)
 ·have e:=(uI.mp (xd.mp j.2.1).2.1).1 y hy
  cases q:an y x with
  |false=>rfl
  |true=>rw[T.tr _ _ _ q (h x hx)] at e;cases e).swap
def ME(an:pS->pS->Bool)(a b ay:Array pS)(ia ib:Nat):Prop:=MJ an (a.toList++b.toList) ay.toList (a.toList.drop ia) (b.toList.drop ib)
def OQ(an:pS->pS->Bool)(a b r:Array pS):Prop:=r.toList.Perm (a.toList++b.toList)/\dm an r.toList
def vj{a:Array pS}(h:i<a.size):a.toList.drop i=a[i]::a.toList.drop (i+1):=by
 rw[Qf (by simpa using h)];simp
def JW(l:List pS)(i k:Nat):l.drop i=(l.drop i).take k++l.drop (i+k):=by rw[<-AL,uP]
theorem Jj{a:Array pS}(h:x∈(a.toList.drop i).take k):∃j,j<k/\∃hj:i+j<a.size,x=a[i+j]:=by
 obtain⟨j,hj,e⟩:=uA.mp h;have h1:j<min k (a.size-i):=by simpa using hj
 exact⟨j,by omega,by omega,by rw[<-e];simp⟩
theorem loIv(T:cG an)(ua:dm an a.toList)(ub:dm an b.toList)(a1:0<a.size)(b1:0<b.size)(hz:∀y,y∈a.toList->an y b[0]=false)(hl:∀y,y∈b.toList->an a[a.size-1] y=false):TK an a b (ME an a b) (OQ an a b):=by
 have ak:∀{ay:Array pS}{ia ib k:Nat},ME an a b ay ia ib->∀hb:ib<b.size,ia+k<=a.size->(∀i,i<k->∀(h:ia+i<a.size),an b[ib] a[ia+i]=false)->ME an a b (ay++a.extract ia (ia+k)) (ia+k) ib:=λ{ay ia ib k} J hb hk h=>by
  unfold ME at J⊢;rw[vj hb,JW a.toList ia k] at J;rw[uT,vJ,vj hb];exact J.ak T λx hx=>by obtain⟨j,hj,cS,rfl⟩:=Jj hx;exact h j hj cS
 have bk:∀{ay:Array pS}{ia ib k:Nat},ME an a b ay ia ib->∀ha:ia<a.size,ib+k<=b.size->(∀i,i<k->∀(h:ib+i<b.size),an b[ib+i] a[ia]=true)->ME an a b (ay++b.extract ib (ib+k)) ia (ib+k):=λ{ay ia ib k} J ha hk h=>by
  unfold ME at J⊢;rw[vj ha,JW b.toList ib k] at J;rw[uT,vJ,vj ha];exact J.bk T λx hx=>by obtain⟨j,hj,cS,rfl⟩:=Jj hx;exact h j hj cS
 refine⟨λh=>?_,λ{ay ia ib} J hd=>?_,λ{ay ia ib} J hd=>?_,λ{ay ia ib} J ha hb e=>?_,λ{ay ia ib} J ha hb e=>?_,ak,bk⟩
 ·have J0:MJ an (a.toList++b.toList) [] (b[0]::b.toList.drop 1) a.toList:=MJ.swap ⟨by rw[<-vj b1];exact .refl _,ua,by rw[<-vj b1];exact ub⟩
  exact(J0.mv (u:=[b[0]]) λx hx y hy=>by rw[ki.mp hx];exact hz y hy).swap
 ·unfold OQ;rw[uT,uT,Ya,Ya];exact MJ.fin J (hd.elim (λe=>.inr (Bm (by simp[e]))) λe=>.inl (Bm (by simp[e])))
 ·unfold OQ;rw[uT,uT,Ya,Ya];unfold ME at J;have en:a.toList.drop ia=[a[a.size-1]]:=by
   rw[vj (show ia<a.size by lia),Bm (by simp;lia)]
   congr 2
   lia
  rw[en] at J⊢;have J2:=MJ.mv (u:=b.toList.drop ib) (xs:=[]) (by rw[QM];exact J.swap) λx hx y hy=>by rw[ki.mp hy];exact hl x (Au hx)
  have:=J2.fin (.inl rfl)
  rwa [QM] at this
 ·rw[Jo];exact bk J ha (by lia) λi hi h=>by have:i=0:=(by lia);subst this;exact e
 ·rw[Jo];exact ak J hb (by lia) λi hi h=>by have:i=0:=(by lia);subst this;exact e
def MF(an:pS->pS->Bool)(a b ay:Array pS)(na nb:Nat):Prop:=MJ (λx y=>an y x) (a.toList++b.toList) ay.toList (b.toList.take nb).reverse (a.toList.take na).reverse/\na<=a.size/\nb<=b.size
theorem vO{a:Array pS}(h0:0<n)(h:n-1<a.size):(a.toList.take n).reverse=a[n-1]::(a.toList.take (n-1)).reverse:=by
 obtain⟨m,rfl⟩:=Nat.exists_eq_succ_of_ne_zero (show n≠0 by lia)
 have h:m<a.size:=h;show(a.toList.take (m+1)).reverse=a[m]::(a.toList.take m).reverse;rw[List.take_succ_eq_append_getElem (by simpa using h)]
 simp
def Vd(l:List pS)(h:k<=n):(l.take n).reverse=((l.take n).drop k).reverse++(l.take k).reverse:=by
 rw[<-FZ]
 congr 1
 have:=uP k (l.take n);rw[FJ,CU h] at this;exact this.symm
def WZ(a:Array pS)(k n:Nat):(a.extract k n).reverse.toList=((a.toList.take n).drop k).reverse:=by
 rw[CO,yW,Cq]
theorem J6{a:Array pS}(h:x∈((a.toList.take n).drop k).reverse):∃j,k<=j/\j<n/\∃hj:0+j<a.size,x=a[0+j]:=by
 obtain⟨j,hj,e⟩:=uA.mp (QP.mp h);have h1:k+j<n/\k+j<a.size:=by simp at hj;omega
 exact⟨k+j,by lia,h1.1,by lia,by rw[<-e];simp⟩
def ZB(ay c:Array pS)(h0:0<n)(h:n-1<c.size):ay.push c[n-1]=ay++(c.extract (n-1) n).reverse:=by
 apply CG.mp
 rw[uT,WZ,Bk]
 congr 1
 exact List.append_cancel_right ((vO h0 h).symm.trans (Vd c.toList (Nat.sub_le n 1)))
def za0{x y:List pS}(h:(ay++x.reverse++y.reverse).Perm L/\dm (λx y=>an y x) (ay++x.reverse++y.reverse)):(y++x++ay.reverse).Perm L/\dm an (y++x++ay.reverse):=by
 have e:(y++x++ay.reverse).reverse=ay++x.reverse++y.reverse:=by simp
 exact⟨(Ao _).symm.trans (by rw[e];exact h.1),XD.mp (by rw[e];exact h.2)⟩
theorem hiIv(T:cG an)(ua:dm an a.toList)(ub:dm an b.toList)(a1:0<a.size)(b1:0<b.size)(hz:∀y,y∈a.toList->an y b[0]=false)(hl:∀y,y∈b.toList->an a[a.size-1] y=false):TN an a b (MF an a b) (OQ an a b):=by
 have ak:∀{ay:Array pS}{na nb k:Nat},MF an a b ay na nb->∀(_:0<nb)(hb:nb-1<b.size),k<=na->(∀i,k<=i->i<na->∀(h:0+i<a.size),an b[nb-1] a[0+i]=true)->MF an a b (ay++(a.extract k na).reverse) k nb:=λ{ay na nb k} J h0 hb hk h=>by
  unfold MF at J⊢;rw[vO h0 hb,Vd a.toList hk] at J;rw[uT,WZ,vO h0 hb];exact⟨J.1.bk T.flip λx hx=>by obtain⟨j,h1,h2,h3,rfl⟩:=J6 hx;exact h j h1 h2 h3,uK hk J.2.1,J.2.2⟩
 have bk:∀{ay:Array pS}{na nb k:Nat},MF an a b ay na nb->∀(_:0<na)(ha:na-1<a.size),k<=nb->(∀i,k<=i->i<nb->∀(h:0+i<b.size),an b[0+i] a[na-1]=false)->MF an a b (ay++(b.extract k nb).reverse) na k:=λ{ay na nb k} J h0 ha hk h=>by
  unfold MF at J⊢;rw[vO h0 ha,Vd b.toList hk] at J;rw[uT,WZ,vO h0 ha];exact⟨J.1.ak T.flip λx hx=>by obtain⟨j,h1,h2,h3,rfl⟩:=J6 hx;exact h j h1 h2 h3,J.2.1,uK hk J.2.2⟩
 refine⟨λh=>?_,λ{ay na nb} J=>⟨J.2.1,J.2.2⟩,λ{ay na nb} J hd=>?_,λ{ay na nb} J hd=>?_,λ{ay na nb} J h1 h2 ha hb e=>?_,λ{ay na nb} J h1 h2 ha hb e=>?_,ak,bk⟩
 ·have ea:a.toList.reverse=a[a.size-1]::(a.toList.take (a.size-1)).reverse:=by rw[<-vO a1 (by lia),QT (by simp)]
  have eb:(b.toList.take b.size).reverse=b.toList.reverse:=by rw[QT (by simp)]
  have J0:MJ (λx y=>an y x) (a.toList++b.toList) [] (a[a.size-1]::(a.toList.take (a.size-1)).reverse) b.toList.reverse:=⟨by rw[<-ea];exact show(a.toList.reverse++b.toList.reverse).Perm _ from List.Perm.append (Ao _) (Ao _),by rw[<-ea];exact XD.mpr ua,XD.mpr ub⟩
  unfold MF;rw[eb];exact⟨(J0.mv (u:=[a[a.size-1]]) λx hx y hy=>by rw[ki.mp hx];exact hl y (QP.mp hy)).swap,by lia,pI _⟩
 ·unfold OQ;rw[uT,uT,Yy,Yy,CO];exact za0 (J.1.fin (hd.elim (λe=>.inr (by simp[e])) λe=>.inl (by simp[e])))
 ·unfold OQ;rw[uT,uT,Yy,Yy,CO];obtain⟨J,l1,l2⟩:=J;subst hd;have e1:(b.toList.take 1).reverse=[b[0]]:=by rw[vO (by decide) (by lia)];simp
  refine za0 ?_;rw[e1] at J⊢;have J2:=MJ.mv (u:=(a.toList.take na).reverse) (xs:=[]) (by rw[QM];exact J.swap) λx hx y hy=>by rw[ki.mp hy];exact hz x (UV (QP.mp hx))
  have:=J2.fin (.inl rfl)
  rwa [QM] at this
 ·rw[ZB _ _ h1 ha];exact ak J h2 hb (by lia) λi hi cq h=>by have:i=na-1:=(by lia);subst this;simpa using e
 ·rw[ZB _ _ h2 hb];exact bk J h1 ha (by lia) λi hi cq h=>by have:i=nb-1:=(by lia);subst this;simpa using e
end
abbrev gK(xs:Array pS)(lo k:Nat):pS:=xs.getD (lo+k) (.none,.none)
def Kz(xs ys:Array pS)(lo:Nat):Prop:=∀k,k<lo->xs[k]?=ys[k]?
variable{xs:Array pS}
def Xa{a m j:Nat}(hi:i=lo+a)(hj:j=lo+m)(hm:lo+m<=xs.size):gK (mirror xs i j ((j-i)/2)) lo=xf (gK xs lo) a m:=Ji (λ_=>rfl) hi hj hm
variable{ys:Array pS}
theorem Yz{j:Nat}(hi:lo<=i)(hm:j<=xs.size)(h:Kz xs ys lo):Kz (mirror xs i j ((j-i)/2)) ys lo:=λk hk=>by
 rw[FX hm,η (by lia)]
 exact h k hk
def via{p:StateT uV Sem β}{Q:β->uV->Prop}{C:uV->Prop}(f:(∀st,C st->wpS (ο prog w) A E s p Q st)->G)(h:∀st,C st->wpS (ο prog w) A E s p Q st):G:=f h
def w6(ag:Array pS)(st:uV)(lo:Nat)(P:Array pS->Prop)(aH:uV):Prop:=∃xs,xs.Perm ag/\Kz xs (a0 st) lo/\P xs/\aH=BE st xs
theorem RB(hq:QR prog w A E s κ ag an){j i' j':Nat}{Q:Option Bool->uV->Prop}(hp:(a0 st).Perm ag)(ei:i'=lo+i)(ej:j'=lo+j)(hi:lo+i<ag.size)(hj:lo+j<ag.size)(cO:kindOf st=κ)(h:Q (some (an (gK (a0 st) lo i) (gK (a0 st) lo j))) st):wpS (ο prog w) A E s (ltAt' i' j') Q st:=by
 have sz:(a0 st).size=ag.size:=hp.size_eq;subst ei ej;rw[ltAt'_eq];refine kn (CJ ?_);refine kn (ye (show lo+i<(a0 st).size by lia) (kn (ye (show lo+j<(a0 st).size by lia) ?_)))
 refine hq _ _ _ _ (hp.mem_iff.mp (UK _)) (hp.mem_iff.mp (UK _)) cO ?_;have e:∀{k:Nat}(h:lo+k<(a0 st).size),gK (a0 st) lo k=(a0 st)[lo+k]:=λ{k} h=>by
  unfold gK;rw[QE,uG h];rfl
 rw[e (by lia),e (by lia)] at h
 exact h
theorem OR(T:cG an)(hq:QR prog w A E s κ ag an){eX:Nat}(hp:(a0 st).Perm ag)(h1:1<=eX)(hz:lo+eX<=ag.size)(cO:kindOf st=κ)
  (h:∀m xs,1<=m->m<=eX->xs.Perm ag->Kz xs (a0 st) lo->bB an (gK xs lo) m->Q (some m) (BE st xs)):wpS (ο prog w) A E s (countRun' lo eX) Q st:=by
 have sz:(a0 st).size=ag.size:=hp.size_eq;have f0:Kz (a0 st) (a0 st) lo:=λ_ _=>rfl;refine kn (gH (QV (I:=λx c aH=>st=aH/\c=(none,x)/\1<=x/\bB an (gK (a0 st) lo) x) (Q:=λc aH=>st=aH/\∃n,c=(none,n)/\1<=n/\n<=eX/\bB an (gK (a0 st) lo) n/\(n<eX->an (gK (a0 st) lo n) (gK (a0 st) lo (n-1))=true)) ?_ ?_ ⟨rfl,rfl,pI _,λi j _ hj=>(by lia)⟩) ?_)
 ·rintro n _ _ hx1 hx ⟨rfl,rfl,hn,u⟩;refine kn (RB hq hp (i:=n) (j:=n-1) rfl (by lia) (by lia) (by lia) cO ?_)
  cases eb:an (gK (a0 st) lo n) (gK (a0 st) lo (n-1)) with
  |true=>exact pP ⟨rfl,n,rfl,hn,by lia,u,λ_=>eb⟩
  |false=>exact pP ⟨rfl,rfl,by lia,u.step T λ_=>eb⟩
 ·rintro _ _ ⟨e,rfl,hn,u⟩;exact⟨e,_,rfl,hn,by lia,u,λz=>by lia⟩
 rintro _ _ ⟨rfl,n,rfl,RC,KA,u,us⟩;dsimp only
 by_cases c1:(n==eX)=true
 ·rw[θ c1];exact pP (h n (a0 st) RC KA hp f0 u)
 rw[η c1];have c1':n≠eX:=λz=>c1 (by rw[z];exact χ _)
 have us:=us (by lia)
 apply via (Q:=Q) (C:=w6 ag st lo λxs=>t9 an (gK xs lo) (n+1))
 ·intro key
  by_cases c2:n>1
  ·rw[θ c2];refine kn (RB hq hp (i:=0) (j:=n-1) rfl (by lia) (by lia) (by lia) cO ?_)
   cases er:an (gK (a0 st) lo 0) (gK (a0 st) lo (n-1)) with
   |true=>exact pP (h n (a0 st) RC KA hp f0 u)
   |false=>
    refine kn (Uv (key _ ⟨_,(DN _ _ _ _).trans hp,Yz (by lia) (by lia) f0,?_,rfl⟩))
    show bB _ (gK _ _) _
    rw[Xa (a:=0) (Bl lo).symm rfl (by lia)]
    exact Z9 T u RC er us
  ·rw[η c2];exact key _ ⟨_,hp,f0,bB.step T.flip (λi j ci hj=>by lia) λ_=>T.asymm us,rfl⟩
 rintro _ ⟨xs,px,fx,dx,rfl⟩;refine kn (Dx (Ud ⟨rfl,?_⟩));refine kn (gH (QV (I:=λx c aH=>∃q,c=(none,x,q)/\q+1<=x/\w6 ag st lo (λxs=>t9 an (gK xs lo) x/\H7 an (gK xs lo) x q) aH) (Q:=λc aH=>∃n q,c=(none,n,q)/\q+1<=n/\n<=eX/\w6 ag st lo (λxs=>t9 an (gK xs lo) n/\H7 an (gK xs lo) n q) aH) ?_ ?_ ⟨0,rfl,by lia,_,px,fx,⟨dx,jv T n⟩,rfl⟩) ?_)
 ·rintro n _ _ hx1 hx ⟨q,rfl,hn,xs,px,fx,⟨dx,ex⟩,rfl⟩;dsimp only;have sx:xs.size=ag.size:=px.size_eq;refine kn (RB hq px (i:=n) (j:=n-1) rfl (by lia) (by lia) (by lia) cO ?_)
  cases eb:an (gK (a0 (BE st xs)) lo n) (gK (a0 (BE st xs)) lo (n-1)) with
  |true=>
   try dsimp only
   rw[θ rfl]
   by_cases qq:q>0
   ·rw[θ qq];refine kn (Uv (pP ⟨0,rfl,by lia,_,(DN _ _ _ _).trans px,Yz (by lia) (by lia) fx,⟨?_,jv T n⟩,rfl⟩))
    rw[Xa (a:=n-(q+1)) (by lia) rfl (by lia)]
    exact Wv T hn dx ex eb
   ·rw[η qq];exact pP ⟨0,rfl,by lia,_,px,fx,⟨dx.step T.flip λ_=>T.asymm eb,jv T n⟩,rfl⟩
  |false=>
   refine kn (RB hq px (i:=n-1) (j:=n) (by lia) rfl (by lia) (by lia) cO ?_)
   cases ec:an (gK (a0 (BE st xs)) lo (n-1)) (gK (a0 (BE st xs)) lo n) with
   |true=>exact pP ⟨n,q,rfl,hn,by lia,_,px,fx,⟨dx,ex⟩,rfl⟩
   |false=>exact pP ⟨q+1,rfl,by lia,_,px,fx,⟨dx.step T.flip λ_=>ec,VS T (by lia) ex eb ec⟩,rfl⟩
 ·rintro _ _ ⟨q,rfl,hn,z⟩;exact⟨_,q,rfl,hn,by lia,z⟩
 rintro _ _ ⟨n,q,rfl,hn,KA,xs,px,fx,⟨dx,ex⟩,rfl⟩;dsimp only;have sx:xs.size=ag.size:=px.size_eq
 apply via (Q:=Q) (C:=w6 ag st lo λxs=>t9 an (gK xs lo) n)
 ·intro key
  by_cases qq:q>0
  ·rw[θ qq];refine kn (Uv (key _ ⟨_,(DN _ _ _ _).trans px,Yz (by lia) (by lia) fx,?_,rfl⟩))
   show bB _ (gK _ _) _
   rw[Xa (a:=n-(q+1)) (by lia) rfl (by lia)]
   exact Xs dx ex
  ·rw[η qq];exact key _ ⟨_,px,fx,dx,rfl⟩
 rintro _ ⟨xs,px,fx,dx,rfl⟩;have sx:xs.size=ag.size:=px.size_eq;refine kn (Uv ?_);refine kn (gH (QV (I:=λx c=>λaH=>c=(none,x)/\1<=x/\w6 ag st lo (λxs=>bB an (gK xs lo) x) aH) (Q:=λc aH=>∃n,c=(none,n)/\1<=n/\n<=eX/\w6 ag st lo (λxs=>bB an (gK xs lo) n) aH) ?_ ?_ ⟨rfl,by lia,_,(DN _ _ _ _).trans px,Yz (by lia) (by lia) fx,?_,rfl⟩) ?_)
 ·rintro n _ _ hx1 hx ⟨rfl,hn,xs,px,fx,ux,rfl⟩;refine kn (RB hq px (i:=n) (j:=n-1) rfl (by lia) (by lia) (by lia) cO ?_)
  cases eb:an (gK (a0 (BE st xs)) lo n) (gK (a0 (BE st xs)) lo (n-1)) with
  |true=>exact pP ⟨n,rfl,hn,by lia,_,px,fx,ux,rfl⟩
  |false=>exact pP ⟨rfl,by lia,_,px,fx,ux.step T λ_=>eb,rfl⟩
 ·rintro _ _ ⟨rfl,hn,z⟩;exact⟨_,rfl,hn,by lia,z⟩
 ·show bB _ (gK _ _) _
  rw[Xa (a:=0) (Bl lo).symm rfl (by lia)]
  exact Za dx
 rintro _ _ ⟨n,rfl,hn,KA,xs,px,fx,ux,rfl⟩;exact pP (h n xs hn KA px fx ux)
theorem KC{l:Nat}(hk:lo+k<xs.size)(hl:l<=k)(h:Kz xs ys lo):Kz (bubble xs (lo+k) (lo+k-(lo+l))) ys lo:=λj hj=>by
 rw[HI hk _ (by omega),η (by omega),η (by omega)]
 exact h j hj
variable{Q:Bool->uV->Prop}
theorem binG(T:cG an)(hq:QR prog w A E s κ ag an){ok:Nat}(hp:(a0 st).Perm ag)(hz:lo+n<=ag.size)(cO:kindOf st=κ)(u:bB an (gK (a0 st) lo) ok)
  (h:∀xs,xs.Perm ag->Kz xs (a0 st) lo->bB an (gK xs lo) n->Q true (BE st xs)):wpS (ο prog w) A E s (binarySort' lo n ok) Q st:=by
 refine kn (gH (QV (I:=λx c aH=>c.1=none/\w6 ag st lo (λxs=>bB an (gK xs lo) x) aH) (Q:=λc aH=>c.1=none/\w6 ag st lo (λxs=>bB an (gK xs lo) n) aH) ?_ ?_ ⟨rfl,_,hp,λ_ _=>rfl,λi j ci hj=>?_,rfl⟩) ?_)
 ·rintro x ⟨r,un⟩ _ hx1 hx ⟨e,xs,px,fx,ux,rfl⟩;have sx:xs.size=ag.size:=px.size_eq;refine kn (gH (QV (I:=λy c aH=>∃l r,c=(none,l,r)/\l<=r/\r<=x/\r-l<=x-y/\(∀i,i<l->an (gK xs lo x) (gK xs lo i)=false)/\(∀i,r<=i->i<x->an (gK xs lo x) (gK xs lo i)=true)/\aH=BE st xs) (Q:=λc aH=>∃l r,c=(none,l,r)/\l<=x/\(∀i,i<l->an (gK xs lo x) (gK xs lo i)=false)/\(∀i,l<=i->i<x->an (gK xs lo x) (gK xs lo i)=true)/\aH=BE st xs) ?_ ?_ ⟨0,x,rfl,QB _,pI _,by lia,λi hi=>absurd hi (Nat.not_lt_zero _),λi hi cq=>(by lia),rfl⟩) ?_)
  ·rintro y _ _ _ hy ⟨l,r,rfl,q1,q2,q3,q4,q5,rfl⟩;dsimp only
   by_cases c:l>=r
   ·rw[θ c];have el:l=r:=by lia
    subst el;exact pP ⟨l,l,rfl,q2,q4,q5,rfl⟩
   ·rw[η c];refine kn (RB hq px (i:=x) (j:=(l+r)/2) rfl rfl (by lia) (by lia) cO ?_)
    cases eb:an (gK (a0 (BE st xs)) lo x) (gK (a0 (BE st xs)) lo ((l+r)/2)) with
    |true=>exact pP ⟨l,(l+r)/2,rfl,by lia,by lia,by lia,q4,λi hi cq=>MB T ux eb hi cq,rfl⟩
    |false=>exact pP ⟨(l+r)/2+1,r,rfl,by lia,q2,by lia,λi hi=>MC T ux eb (by lia) (by lia),q5,rfl⟩
  ·rintro _ _ ⟨l,r,rfl,q1,q2,q3,q4,q5,rfl⟩;have el:l=r:=by lia
   subst el;exact⟨l,l,rfl,q2,q4,q5,rfl⟩
  ·rintro _ _ ⟨l,r,rfl,q2,q4,q5,rfl⟩;refine kn (Uv (pP ⟨rfl,_,(HC _ _ _).trans px,KC (by lia) q2 fx,?_,rfl⟩))
   have:=VQ T q2 ux q4 q5
   rwa [<-Jt (λ_=>rfl) (by lia) q2] at this
 ·rintro⟨r,un⟩ _ ⟨e,xs,px,fx,ux,rfl⟩;exact⟨e,xs,px,fx,λi j ci hj=>ux i j ci (by lia),rfl⟩
 ·exact u i j ci (by lia)
 ·rintro⟨r,un⟩ _ ⟨e,xs,px,fx,ux,rfl⟩
  cases e;exact pP (h xs px fx ux)
def yD(h:lo+k<xs.size):gK xs lo k=xs[lo+k]:=by
 unfold gK;rw[QE,uG h];rfl
theorem wX(h:lo+n<=xs.size):bB an (gK xs lo) n↔dm an ((xs.toList.drop lo).take n):=by
 have ln:((xs.toList.drop lo).take n).length=n:=by rw[pC,uF,pL];lia
 have at_:∀{i:Nat}(hi:i<((xs.toList.drop lo).take n).length),((xs.toList.drop lo).take n)[i]=gK xs lo i:=λ{i} hi=>by
  rw[ln] at hi;rw[gD,Ug,UW,yD (by lia)]
 unfold dm;rw[List.pairwise_iff_getElem]
 constructor
 ·intro u i j hi hj ci;rw[at_ hi,at_ hj];exact u i j ci (by lia)
 ·intro u i j ci hj;have:=u i j (by lia) (by lia) ci
  rw[at_ (by lia),at_ (by lia)] at this
  exact this
def Vm(u:bB an (gK xs lo) n):xM an xs lo n:=λi j ci hj hi cS=>by
 have:=u i j ci hj;rw[yD cS,yD hi] at this;exact this
theorem YG{a:Array pS}(u:dm an a.toList):xM an a 0 a.size:=Vm ((wX (by lia)).mpr (by
 rw[Bj,QT (by rw[pL];exact pI _)]
 exact u))
def FrO(xs ys:Array pS)(lo hi:Nat):Prop:=∀k,k<lo\/hi<=k->xs[k]?=ys[k]?
variable{nb na:Nat}
theorem KD(T:cG an){arr m:Array pS}(hz:sa+na+nb<=arr.size)(hk:k<na)(hn:n<=nb)(ua:bB an (gK arr sa) na)(ub:bB an (gK arr (sa+na)) nb)
  (h1:∀i,i<k->an (gK arr (sa+na) 0) (gK arr sa i)=false)(h0:0<nb)(h2:∀i,n<=i->i<nb->an (gK arr (sa+na) i) (gK arr sa (na-1))=false)
  (hm:m.toList.Perm ((arr.extract (sa+k) (sa+na)).toList++(arr.extract (sa+na) (sa+na+n)).toList))(um:dm an m.toList):
  bB an (gK (m.toList.zipIdx.foldl (λa(x:pS×Nat)=>match x with|(p,j)=>a.setIfInBounds (sa+k+j) p) arr) sa) (na+nb)/\
  FrO (m.toList.zipIdx.foldl (λa(x:pS×Nat)=>match x with|(p,j)=>a.setIfInBounds (sa+k+j) p) arr) arr sa (sa+na+nb):=by
 have lm:m.toList.length=na-k+n:=by
  rw[hm.length_eq,kW,yW,yW,pC,pC,uF,uF,pL];lia
 have e:=WS (sa+k) m.toList 0 arr (by lia)
 rw[Bl,lm] at e;have pm:(m.toList.zipIdx.foldl (λa(x:pS×Nat)=>match x with|(p,j)=>a.setIfInBounds (sa+k+j) p) arr).Perm arr:=VV (sa:=sa+k) (sb:=sa+na) (nb:=n) (by lia) (by lia) hm
 have sz:=pm.size_eq;generalize m.toList.zipIdx.foldl (λa(x:pS×Nat)=>match x with|(p,j)=>a.setIfInBounds (sa+k+j) p) arr=ys at*
 rw[wX (by lia)] at ua ub
 have eA:(arr.toList.drop sa).take na=(arr.toList.drop sa).take k++(arr.extract (sa+k) (sa+na)).toList:=by
  rw[yW,show sa+na-(sa+k)=na-k by lia,<-AL]
  have:=uP k ((arr.toList.drop sa).take na);rw[FJ,CU (by lia),Cq] at this
  exact this.symm
 have eB:(arr.toList.drop (sa+na)).take nb=(arr.extract (sa+na) (sa+na+n)).toList++((arr.toList.drop (sa+na)).take nb).drop n:=by
  rw[vJ];have:=uP n ((arr.toList.drop (sa+na)).take nb);rw[FJ,CU hn] at this;exact this.symm
 have ey:(ys.toList.drop sa).take (na+nb)=(arr.toList.drop sa).take k++m.toList++((arr.toList.drop (sa+na)).take nb).drop n:=by
  rw[e,ui,List.drop_append_of_le_length (by rw[pC,pL];lia),Cq,show sa+k-sa=k by lia,ui]
  rw[Gm,pC,uF,pL,QT (by rw[pC];lia)]
  rw[Gm,QT (l:=m.toList) (by rw[lm];lia),lm]
  congr 2
  rw[Cq,AL]
  congr 1
  ·lia
  ·congr 1
   lia
 rw[eA,xd] at ua;rw[eB,xd] at ub;have mA:∀x,x∈(arr.toList.drop sa).take k->an (gK arr (sa+na) 0) x=false:=λx hx=>by
  obtain⟨i,hi,ei⟩:=uA.mp hx;rw[pC,uF,pL] at hi;rw[<-ei,gD,Ug,UW,<-yD (by lia)]
  exact h1 i (by lia)
 have b0:∀y,y∈(arr.toList.drop (sa+na)).take nb->an y (gK arr (sa+na) 0)=false:=λy hy=>by
  have u:=(wX (an:=an) (xs:=arr) (lo:=sa+na) (n:=nb) (by lia)).mpr (by rw[eB,xd];exact ub)
  obtain⟨i,hi,ei⟩:=uA.mp hy;rw[pC,uF,pL] at hi;rw[<-ei,gD,Ug,UW,<-yD (by lia)]
  by_cases z:i=0
  ·rw[z];exact T.irr _
  ·exact u 0 i (by lia) (by lia)
 have mB:∀y,y∈((arr.toList.drop (sa+na)).take nb).drop n->an y (gK arr sa (na-1))=false:=λy hy=>by
  obtain⟨i,hi,ei⟩:=uA.mp hy;rw[uF,pC,uF,pL] at hi;rw[<-ei,Ug,gD,Ug,UW,<-yD (by lia)]
  exact h2 (n+i) (by lia) (by lia)
 have al:∀x,x∈(arr.extract (sa+k) (sa+na)).toList->an (gK arr sa (na-1)) x=false:=λx hx=>by
  have u:=(wX (an:=an) (xs:=arr) (lo:=sa) (n:=na) (by lia)).mpr (by rw[eA,xd];exact ua)
  rw[yW] at hx;obtain⟨i,hi,ei⟩:=uA.mp hx;rw[pC,uF,pL] at hi;rw[<-ei,gD,Ug,UW];have ge:arr[sa+k+i]'(by lia)=gK arr sa (k+i):=by rw[yD (by lia)];congr 1;lia
  rw[ge]
  by_cases z:k+i=na-1
  ·rw[z];exact T.irr _
  ·exact u (k+i) (na-1) (by lia) (by lia)
 have mm:∀x,x∈m.toList->x∈(arr.extract (sa+k) (sa+na)).toList\/x∈(arr.extract (sa+na) (sa+na+n)).toList:=λx hx=>pD.mp (hm.mem_iff.mp hx);have inB:∀x,x∈(arr.extract (sa+na) (sa+na+n)).toList->x∈(arr.toList.drop (sa+na)).take nb:=λx hx=>by rw[eB];exact uO _ hx
 have inB2:∀x,x∈((arr.toList.drop (sa+na)).take nb).drop n->x∈(arr.toList.drop (sa+na)).take nb:=λx hx=>by rw[eB];exact uQ _ hx
 refine⟨(wX (by lia)).mpr ?_,λj hj=>?_⟩
 ·rw[ey,xd,xd];refine⟨⟨ua.1,um,λx hx y hy=>?_⟩,ub.2.1,λx hx y hy=>?_⟩
  ·rcases mm y hy with z|z
   ·exact ua.2.2 x hx y z
   ·exact T.cut _ _ _ (b0 y (inB y z)) (mA x hx)
  ·rcases pD.mp hx with hx|hx
   ·exact T.cut _ _ _ (b0 y (inB2 y hy)) (mA x hx)
   ·rcases mm x hx with z|z
    ·exact T.cut _ _ _ (mB y hy) (al x z)
    ·exact ub.2.2 x z y hy
 ·rw[<-uh,e,<-uh];rcases hj with hj|hj
  ·rw[ui,UC (by rw[pC,pL];lia),Uw,θ (by lia)]
  ·rw[QH (by rw[kW,pC,pL,lm];lia),kW,pC,pL,lm,Uu]
   congr 1
   lia
def qG(xs:Array pS)(a n j:Nat):gK xs a (n+j)=gK xs (a+n) j:=by unfold gK;rw[CI]
theorem KE(T:cG an){arr:Array pS}(ua:bB an (gK arr sa) na)(ub:bB an (gK arr (sa+na)) nb)(h:∀i,i<na->an (gK arr (sa+na) 0) (gK arr sa i)=false):bB an (gK arr sa) (na+nb):=λi j ci hj=>by
 by_cases c1:j<na
 ·exact ua i j ci c1
 ·have ej:j=na+(j-na):=by lia
  have bj:∀x,x<nb->an (gK arr (sa+na) x) (gK arr (sa+na) 0)=false:=λx hx=>by
   by_cases z:x=0
   ·rw[z];exact T.irr _
   ·exact ub 0 x (by lia) hx
  by_cases c2:i<na
  ·rw[ej,qG];exact T.cut _ _ _ (bj _ (by lia)) (h i c2)
  ·have ei:i=na+(i-na):=by lia
   rw[ej,ei,qG,qG];exact ub _ _ (by lia) (by lia)
theorem OT(T:cG an)(hq:QR prog w A E s κ ag an){p1 p2:Nat}(hp:(a0 st).Perm ag)(cO:kindOf st=κ)(hf:Bi st=none)(e1:(uC st)[i]?=some (sa,na,p1))(e2:(uC st)[i+1]?=some (sa+na,nb,p2))(n1:0<na)(n2:0<nb)(hz:sa+na+nb<=ag.size)
  (ua:bB an (gK (a0 st) sa) na)(ub:bB an (gK (a0 st) (sa+na)) nb)
  (h:∀xs g,xs.Perm ag->FrO xs (a0 st) sa (sa+na+nb)->bB an (gK xs sa) (na+nb)->Q true (pSt st xs (((uC st).setIfInBounds i (sa,na+nb,p1)).eraseIdxIfInBounds (i+1)) g)):wpS (ο prog w) A E s (mergeAt' i) Q st:=by
 have sz:(a0 st).size=ag.size:=hp.size_eq;have mem:∀x,x∈a0 st->x∈ag:=λx hx=>hp.mem_iff.mp hx;refine kn (CJ ?_);show wpS _ _ _ _ (match((uC st)[i]?,(uC st)[i+1]?) with|_=>_) _ _
 rw[e1,e2];dsimp only;refine kn (Kx ?_);refine kn (ye (show sa+na<(a0 st).size by lia) ?_)
 refine kn (OM T hq (mem _ (UK _)) mem (by show sa+na<=(a0 st).size;lia) n1 cO (Vm ua) λk hk t1 t2=>?_)
 dsimp only;have g0:gK (a0 st) (sa+na) 0=(a0 st)[sa+na]:=yD (by lia)
 have r1:∀j,j<k->an (gK (a0 st) (sa+na) 0) (gK (a0 st) sa j)=false:=λj hj=>by
  rw[g0,yD (by lia)]
  exact t1 j hj (show sa+j<(a0 st).size by lia)
 have r2:∀j,k<=j->j<na->an (gK (a0 st) (sa+na) 0) (gK (a0 st) sa j)=true:=λj hj cS=>by
  rw[g0,yD (by lia)]
  exact t2 j hj cS (show sa+j<(a0 st).size by lia)
 by_cases c1:(na-k==0)=true
 ·rw[θ c1];have z:na-k=0:=Hu c1;exact pP (h _ _ hp (λ_ _=>rfl) (KE T ua ub λj hj=>r1 j (by lia)))
 rw[η c1];have c1':na-k≠0:=λz=>c1 (by rw[z];rfl)
 refine kn (ye (show sa+k+(na-k)-1<(a0 st).size by lia) ?_)
 refine kn (ON T hq (mem _ (UK _)) mem (by show sa+na+nb<=(a0 st).size;lia) (by lia) cO (Vm ub) λm hm u1 u2=>?_)
 dsimp only;have gl:(a0 st)[sa+k+(na-k)-1]'(by lia)=gK (a0 st) sa (na-1):=by
  rw[yD (by lia)]
  congr 1
  lia
 have v1:∀j,j<m->an (gK (a0 st) (sa+na) j) (gK (a0 st) sa (na-1))=true:=λj hj=>by
  rw[yD (by lia),<-gl]
  exact u1 j hj (show sa+na+j<(a0 st).size by lia)
 have v2:∀j,m<=j->j<nb->an (gK (a0 st) (sa+na) j) (gK (a0 st) sa (na-1))=false:=λj hj cS=>by
  rw[yD (by lia),<-gl]
  exact u2 j hj cS (show sa+na+j<(a0 st).size by lia)
 by_cases c2:(m==0)=true
 ·exfalso
  have z:m=0:=Hu c2;have x1:=v2 0 (by lia) n2
  rw[r2 (na-1) (by lia) (by lia)] at x1
  cases x1
 rw[η c2];have c2':m≠0:=λz=>c2 (by rw[z];rfl)
 have s1:0<((a0 st).extract (sa+k) (sa+na)).size:=by rw[BR];lia
 have s2:0<((a0 st).extract (sa+na) (sa+na+m)).size:=by rw[BR];lia
 have z1:((a0 st).extract (sa+k) (sa+na)).size=na-k:=by rw[BR];lia
 have z2:((a0 st).extract (sa+na) (sa+na+m)).size=m:=by rw[BR];lia
 have inX:∀y,y∈((a0 st).extract (sa+k) (sa+na)).toList->∃j,k<=j/\j<na/\y=gK (a0 st) sa j:=λy hy=>by
  rw[yW] at hy;obtain⟨j,hj,ej⟩:=uA.mp hy;rw[pC,uF,pL] at hj;refine⟨k+j,by lia,by lia,?_⟩
  rw[<-ej,gD,Ug,UW,yD (by lia)]
  congr 1
  lia
 have inY:∀y,y∈((a0 st).extract (sa+na) (sa+na+m)).toList->∃j,j<m/\y=gK (a0 st) (sa+na) j:=λy hy=>by
  rw[vJ] at hy;obtain⟨j,hj,ej⟩:=uA.mp hy;rw[pC,uF,pL] at hj;exact⟨j,by lia,by rw[<-ej,gD,Ug,UW,yD (by lia)]⟩
 have ux:dm an ((a0 st).extract (sa+k) (sa+na)).toList:=by
  have:bB an (gK (a0 st) (sa+k)) (na-k):=λa b hab hb=>by
   rw[<-qG,<-qG];exact ua _ _ (by lia) (by lia)
  rw[wX (by lia)] at this
  rw[yW,show sa+na-(sa+k)=na-k by lia]
  exact this
 have uy:dm an ((a0 st).extract (sa+na) (sa+na+m)).toList:=by
  have:bB an (gK (a0 st) (sa+na)) m:=λa b hab hb=>ub a b hab (by lia)
  rw[wX (by lia)] at this
  rw[vJ];exact this
 have hz':∀y,y∈((a0 st).extract (sa+k) (sa+na)).toList->an y ((a0 st).extract (sa+na) (sa+na+m))[0]=false:=λy hy=>by
  obtain⟨j,hj,cS,ey⟩:=inX y hy;have e0:((a0 st).extract (sa+na) (sa+na+m))[0]=gK (a0 st) (sa+na) 0:=by rw[Eh,yD (by lia)]
  rw[e0,ey];exact T.asymm (r2 j hj cS)
 have Ma:∀y,y∈((a0 st).extract (sa+na) (sa+na+m)).toList->an (((a0 st).extract (sa+k) (sa+na))[((a0 st).extract (sa+k) (sa+na)).size-1]'(by lia)) y=false:=λy hy=>by
  obtain⟨j,hj,ey⟩:=inY y hy;have e0:((a0 st).extract (sa+k) (sa+na))[((a0 st).extract (sa+k) (sa+na)).size-1]'(by lia)=gK (a0 st) sa (na-1):=by
   rw[Eh,yD (by lia)]
   congr 1
   lia
  rw[e0,ey];exact T.asymm (v1 j hj)
 have fin:∀(r:Array pS)(g:Nat),OQ an ((a0 st).extract (sa+k) (sa+na)) ((a0 st).extract (sa+na) (sa+na+m)) r->Q true (pSt st (r.toList.zipIdx.foldl (λa(x:pS×Nat)=>match x with|(p,j)=>a.setIfInBounds (sa+k+j) p) (a0 st)) (((uC st).setIfInBounds i (sa,na+nb,p1)).eraseIdxIfInBounds (i+1)) g):=λr g hr=>by
  have ms:=KD T (by lia) (show k<na by lia) hm ua ub r1 n2 v2 hr.1 hr.2
  exact h _ g ((VV (by lia) (show sa+na+m<=(a0 st).size by lia) hr.1).trans hp) ms.2 ms.1
 by_cases c3:na-k<=m
 ·rw[θ c3];refine kn (loG T hq (λx hx=>mem x (Yn hx)) (λx hx=>mem x (Yn hx)) s1 s2 cO (loIv T ux uy s1 s2 hz' Ma) (YG ux) (YG uy) λr g hr=>?_);refine kn (Uv (kn (CJ (pP ?_))));show Q (Bi st).isNone _;rw[hf];exact fin r g hr
 ·rw[η c3];refine kn (hiG T hq (λx hx=>mem x (Yn hx)) (λx hx=>mem x (Yn hx)) s1 s2 cO (hiIv T ux uy s1 s2 hz' Ma) (YG ux) (YG uy) λr g hr=>?_);refine kn (Uv (kn (CJ (pP ?_))));show Q (Bi st).isNone _;rw[hf];exact fin r g hr
theorem cp.in_:∀{l:List (Nat×Nat×Nat)}{b e j a n p:Nat},cp l b e->l[j]?=some (a,n,p)->b<=a/\a+n<=e
 |(x,m,q)::r,b,e,0,a,n,p,h,e1=>by
  cases e1;obtain⟨h1,h2,h3⟩:=h;have:=cp.le h3;exact⟨by lia,by lia⟩
 |(x,m,q)::r,b,e,j+1,a,n,p,h,e1=>by
  obtain⟨h1,h2,h3⟩:=h;have:=cp.in_ h3 (show r[j]?=some (a,n,p) by simpa using e1)
  exact⟨by lia,this.2⟩
 |[],b,e,j,a,n,p,h,e1=>by cases j<;>cases e1
theorem cp.lt_:∀{l:List (Nat×Nat×Nat)}{b e i j a n p a' n' p':Nat},cp l b e->l[i]?=some (a,n,p)->l[j]?=some (a',n',p')->i<j->a+n<=a'
 |(x,m,q)::r,b,e,0,j+1,a,n,p,a',n',p',h,e1,e2,ci=>by
  cases e1;obtain⟨h1,h2,h3⟩:=h;have:=cp.in_ h3 (show r[j]?=some (a',n',p') by simpa using e2)
  lia
 |(x,m,q)::r,b,e,i+1,j+1,a,n,p,a',n',p',h,e1,e2,ci=>cp.lt_ h.2.2 (show r[i]?=some (a,n,p) by simpa using e1) (show r[j]?=some (a',n',p') by simpa using e2) (by lia)
 |[],b,e,i,j,a,n,p,a',n',p',h,e1,e2,ci=>by cases i<;>cases e1
 |_::_,b,e,i,0,a,n,p,a',n',p',h,e1,e2,ci=>by lia
theorem cp.len:∀{l:List (Nat×Nat×Nat)}{b e:Nat},cp l b e->l.length+b<=e
 |[],b,e,h=>by
  have h:b=e:=h
  simp[h]
 |(x,m,q)::r,b,e,h=>by
  obtain⟨h1,h2,h3⟩:=h;have:=cp.len h3;rw[kZ];lia
theorem zd6{l:List α}{x y:α}(h:y∈(l.set i x).eraseIdx (i+1)):y=x\/∃j,j≠i/\j≠i+1/\l[j]?=some y:=by
 obtain⟨j,hj⟩:=pJ.mp h;rw[List.getElem?_eraseIdx] at hj
 by_cases c:j<i+1
 ·rw[θ c] at hj
  by_cases e:i=j
  ·subst e
   by_cases c2:i<l.length
   ·rw[gJ c2] at hj;exact .inl (uD hj).symm
   ·rw[uE (by rw[Qv];lia)] at hj
    cases hj
  ·rw[hZ e] at hj;exact .inr ⟨j,λz=>e z.symm,by lia,hj⟩
 ·rw[η c,hZ (by lia)] at hj
  exact .inr ⟨j+1,by omega,by lia,hj⟩
theorem Xp{a:Nat}(h:∀k,a<=k->k<a+n->xs[k]?=ys[k]?)(u:bB an (gK ys a) n):bB an (gK xs a) n:=λi j ci hj=>by
 have e:∀k,k<n->gK xs a k=gK ys a k:=λk hk=>by
  unfold gK;rw[QE,QE,h (a+k) (by lia) (by lia)]
 rw[e i (by lia),e j hj]
 exact u i j ci hj
def yu(an:pS->pS->Bool)(ag:Array pS)(κ:gu)(lo:Nat)(st:uV):Prop:=TH ag κ lo st/\∀a n p,(a,n,p)∈(uC st).toList->bB an (gK (a0 st) a) n
theorem ZN(T:cG an)(hq:QR prog w A E s κ ag an)(iv:yu an ag κ lo st)(hi:i+1<(uC st).size)(h:∀aH,yu an ag κ lo aH->(uC aH).size+1=(uC st).size->(∀k,lo<=k->(a0 aH)[k]?=(a0 st)[k]?)->Q true aH):wpS (ο prog w) A E s (mergeAt' i) Q st:=by
 obtain⟨⟨h1,h2,h3,h4,h5⟩,hr⟩:=iv;have e1:(uC st)[i]?=some (uC st)[i]:=uG (by lia)
 have e2:(uC st)[i+1]?=some (uC st)[i+1]:=uG hi;generalize (uC st)[i]=u1 at e1;generalize (uC st)[i+1]=u2 at e2;obtain⟨sa,na,p1⟩:=u1;obtain⟨sb,nb,p2⟩:=u2;have l1:(uC st).toList[i]?=some (sa,na,p1):=by rw[uh];exact e1
 have l2:(uC st).toList[i+1]?=some (sb,nb,p2):=by rw[uh];exact e2
 obtain⟨g1,g2,g3,g4,g5⟩:=h4.at l1 l2;subst g1;have ee:(((uC st).setIfInBounds i (sa,na+nb,p1)).eraseIdxIfInBounds (i+1)).toList=((uC st).toList.set i (sa,na+nb,p1)).eraseIdx (i+1):=by simp
 refine OT T hq h1 h2 h3 e1 e2 g2 g3 (by lia) (hr _ _ _ (kT l1)) (hr _ _ _ (kT l2)) λxs g px fo uo=>h _ ⟨⟨px,h2,h3,?_,h5⟩,λa n p hm=>?_⟩ ?_ λk hk=>fo k (.inr (by lia))
 ·show cp (((uC st).setIfInBounds i (sa,na+nb,p1)).eraseIdxIfInBounds (i+1)).toList 0 lo
  rw[ee];exact g5
 ·have dW:(a,n,p)∈(((uC st).setIfInBounds i (sa,na+nb,p1)).eraseIdxIfInBounds (i+1)).toList:=hm;rw[ee] at dW;rcases zd6 dW with z|⟨j,j1,j2,j3⟩
  ·cases z;exact uo
  ·refine Xp (λk k1 k2=>fo k ?_) (hr a n p (kT j3));rcases IB j i with z|z
   ·have:=cp.lt_ h4 j3 l1 z;exact .inl (by lia)
   ·have:=cp.lt_ h4 l2 j3 (by lia)
    exact .inr (by lia)
 ·show(((uC st).setIfInBounds i (sa,na+nb,p1)).eraseIdxIfInBounds (i+1)).size+1=_
  have:=υ DJ ee;rw[pL,List.length_eraseIdx,Qv,pL,θ hi] at this;lia
def VL(iv:yu an ag κ lo st)(hn:0<n)(hz:lo+n<=ag.size)(u:bB an (gK (a0 st) lo) n):yu an ag κ (lo+n) (Ft st ((uC st).push (lo,n,0))):=by
 refine⟨Ky iv.1 hn hz,λa m p hm=>?_⟩;have dW:(a,m,p)∈((uC st).push (lo,n,0)).toList:=hm;rw[Bk] at dW;rcases pD.mp dW with z|z
 ·exact iv.2 a m p z
 ·cases ki.mp z;exact u
theorem zbw{j w:Nat}(iv:yu an ag κ lo st):yu an ag κ lo (Ft st ((uC st).modify j λx=>(x.1,x.2.1,w))):=by
 refine⟨zb1 iv.1,λa m p hm=>?_⟩;have dW:(a,m,p)∈((uC st).modify j λx=>(x.1,x.2.1,w)).toList:=hm;rw[FY] at dW;obtain⟨k,hk⟩:=pJ.mp dW;rw[CM] at hk
 cases e:(uC st).toList[k]? with
 |none=>rw[e] at hk;cases hk
 |some y=>
  rw[e] at hk;obtain⟨y1,y2,y3⟩:=y
  by_cases c:j=k
  ·simp only[c,if_true,Um,Ba,Hl] at hk;obtain⟨rfl,rfl,_⟩:=hk;exact iv.2 _ _ _ (kT e)
  ·simp only[c,if_false,Um,Ba,Hl] at hk;have dw:(y1,y2,y3)=(a,m,p):=by simpa using hk
   cases dw;exact iv.2 _ _ _ (kT e)
theorem yu.arr(iv:yu an ag κ lo st)(px:xs.Perm ag)(fx:Kz xs (a0 st) lo):yu an ag κ lo (BE st xs):=by
 refine⟨⟨px,iv.1.2.1,iv.1.2.2.1,iv.1.2.2.2.1,iv.1.2.2.2.2⟩,λa n p hm=>?_⟩;have dW:(a,n,p)∈(uC st).toList:=hm;obtain⟨j,hj⟩:=pJ.mp dW;have:=cp.in_ iv.1.2.2.2.1 hj;exact Xp (λk k1 k2=>fx k (by lia)) (iv.2 a n p dW)
theorem TQ(T:cG an)(hq:QR prog w A E s κ ag an){Q:Unit->uV->Prop}(iv:yu an ag κ 0 st)(h:∀aH,(a0 aH).Perm ag->Bi aH=none->dm an (a0 aH).toList->Q () aH):wpS (ο prog w) A E s sortRuns' Q st:=by
 have sz:(a0 st).size=ag.size:=iv.1.1.size_eq;rw[sortRuns'_eq];refine kn (CJ ?_);dsimp only;rw[sz];refine kn (gH (QV (I:=λx(c:Option Unit×Nat) aH=>c.1=none/\yu an ag κ c.2 aH/\x<=c.2) (Q:=λc aH=>c.1=none/\yu an ag κ c.2 aH/\ag.size<=c.2) ?_ (λc _ z=>⟨z.1,z.2.1,uK (Gn _ _) z.2.2⟩) ⟨rfl,iv,QB _⟩) ?_)
 ·rintro x ⟨r,lo⟩ aH _ hx ⟨e,iv,xl⟩;dsimp only at e iv xl⊢
  by_cases c1:lo>=ag.size
  ·rw[θ c1];exact pP ⟨rfl,iv,c1⟩
  rw[η c1];refine kn (OR T hq iv.1.1 (by lia) (by lia) iv.1.2.1 λm xs hm1 hm2 px fx ux=>?_)
  dsimp only;have OU:yu an ag κ lo (BE aH xs):=iv.arr px fx
  apply via3 (C:=λn aH=>0<n/\n<=ag.size-lo/\yu an ag κ lo aH/\bB an (gK (a0 aH) lo) n)
  ·intro go;refine wf (λc2=>?_) λ_=>(?_:_->_) (go m _ ⟨hm1,hm2,OU,ux⟩)
   rotate_left
   ·generalize m=k;exact id
   generalize minRun' ag.size ag.size 0=mr at*;refine kn (Dx (Ud ⟨rfl,?_⟩));refine kn (binG T hq (st:=BE aH xs) px (by lia) iv.1.2.1 ux λys py fy uy=>?_)
   rw[η (by simp)]
   refine(?_:_->_) (go _ _ ⟨?_,?_,yu.arr (st:=BE aH xs) OU py fy,uy⟩)
   ·generalize min (ag.size-lo) mr=k;exact id
   ·lia
   ·lia
  rintro n aH ⟨n1,n2,OU,ux⟩;refine kn (CJ ?_)
  cases eb:(uC aH).back? with
  |none=>exact kn (Uv (pP ⟨rfl,VL OU n1 (by lia) ux,(by show x+1<=lo+_;lia)⟩))
  |some q=>
   obtain⟨s1,n1',p1⟩:=q;refine kn (gH (QV (I:=λ_ c cu=>c.1=none/\yu an ag κ lo cu/\bB an (gK (a0 cu) lo) n) (Q:=λc cu=>c.1=none/\yu an ag κ lo cu/\bB an (gK (a0 cu) lo) n) ?_ (λ_ _ z=>z) ⟨rfl,OU,ux⟩) ?_)
   ·rintro y ⟨r2,u⟩ cu _ _ ⟨e2,nJ,uu⟩;refine kn (CJ ?_)
    by_cases c2:(uC cu).size>1
    rotate_left
    ·rw[η c2];exact pP ⟨rfl,nJ,uu⟩
    rw[θ c2,uG (show(uC cu).size-2<(uC cu).size by lia)]
    generalize (uC cu)[(uC cu).size-2]=q3;obtain⟨q31,q32,q33⟩:=q3;exact wf (λ_=>pP ⟨rfl,nJ,uu⟩) λ_=>kn (ZN T hq nJ (by lia) λMo RD _ fr3=>pP ⟨rfl,RD,Xp (λk k1 _=>fr3 k k1) uu⟩)
   ·rintro⟨r2,u⟩ cu ⟨e2,nJ,uu⟩
    cases e2;exact kn (Uv (kn (Uv (pP ⟨rfl,VL (zbw nJ) n1 (by lia) uu,(by show x+1<=lo+_;lia)⟩))))
 ·rintro⟨r,lo⟩ aH ⟨e,iv,xl⟩;dsimp only at e iv xl⊢;subst e;dsimp only;have el:lo=ag.size:=by have:=iv.1.2.2.2.2;lia
  have pl:(uC aH).size<=ag.size:=by
   have:=cp.len iv.1.2.2.2.1;rw[pL] at this;lia
  refine kn (gH (QV (I:=λy(c:Option Unit×Unit) cu=>c.1=none/\yu an ag κ lo cu/\((uC cu).size<=1\/(uC cu).size+y<=ag.size)) (Q:=λc cu=>c.1=none/\yu an ag κ lo cu/\(uC cu).size<=1) ?_ (λc _ z=>⟨z.1,z.2.1,z.2.2.elim id λz=>by have:=Gn 0 ag.size;lia⟩) ⟨rfl,iv,.inr pl⟩) ?_)
  ·rintro y ⟨r2,u⟩ cu _ _ ⟨e2,nJ,ps⟩;dsimp only at e2 nJ ps⊢;refine kn (CJ ?_)
   by_cases c2:(uC cu).size<=1
   ·rw[θ c2];exact pP ⟨rfl,nJ,c2⟩
   ·rw[η c2];exact kn (ZN T hq nJ (OL (by lia) (by lia)) λMo RD z3 _=>pP ⟨rfl,RD,.inr (by lia)⟩)
  ·rintro⟨r2,u⟩ cu ⟨e2,nJ,ps⟩;dsimp only at e2 nJ ps⊢;subst e2;refine pP (h cu nJ.1.1 nJ.1.2.2.1 ?_);have s2:(a0 cu).size=ag.size:=nJ.1.1.size_eq;have all:bB an (gK (a0 cu) 0) ag.size:=by
    have cv:=nJ.1.2.2.2.1;have rr:=nJ.2;rw[el] at cv
    cases ep:(uC cu).toList with
    |nil=>
     rw[ep] at cv;have z:0=ag.size:=cv;exact λi j ci hj=>by lia
    |cons q l=>
     obtain⟨qa,qn,qp⟩:=q;have hl:l=[]:=by
      have:=υ DJ ep;rw[pL,kZ] at this;exact List.length_eq_zero_iff.mp (by lia)
     subst hl;rw[ep] at cv;obtain⟨z1,z2,z3⟩:=cv;have z3':0+qn=ag.size:=z3;have:=rr qa qn qp (by rw[ep];exact ki.mpr rfl)
     rw[z1,show qn=ag.size by lia] at this
     exact this
   rw[wX (by lia),Bj,QT (by rw[pL];lia)] at all
   exact all
theorem zei{g:α->β}:∀{l:List β}{m:List α},l.Perm (m.map g)->∃p:List α,p.Perm m/\l=p.map g:=by
 intro l m h;generalize e:m.map g=r at h
 induction h generalizing m with
 |nil=>
  cases m with
  |nil=>exact⟨[],.refl _,rfl⟩
  |cons x xs=>cases e
 |@cons x l1 l2 _ ih=>
  cases m with
  |nil=>cases e
  |cons y ys=>
   rw[kN] at e
   cases e;obtain⟨p,h1,h2⟩:=ih rfl;exact⟨y::p,h1.cons y,by rw[h2,kN]⟩
 |swap x y l=>
  cases m with
  |nil=>cases e
  |cons a as=>
   cases as with
   |nil=>cases e
   |cons b bs=>
    rw[kN,kN] at e
    cases e;exact⟨b::a::bs,.swap a b bs,rfl⟩
 |trans _ _ i1 i2=>
  obtain⟨p2,h1,h2⟩:=i2 e;obtain⟨p1,h3,h4⟩:=i1 h2.symm;exact⟨p1,h3.trans h1,h4⟩
def zef(prog:Qq)(w:World)(A:Qd)(a kS:Addr)(e1:Nat)(vs ks:List kL)(P:BW->kR->Prop)(s:kR):Prop:=
 s.heap.get? a=some (QA "list" #[] e1)/\∃(κ:gu)(aE:Nat->Nat->Bool),A9 aE/\(∀i j,i<ks.length->j<ks.length->ks[i]?=ks[j]?->∀k,aE i k=aE j k/\aE k i=aE k j)/\
  (2<=vs.length->∀Q':gu->kR->Prop,Q' κ s->ν (ο prog w) A (FG ks.toArray) Q' (λ_ _=>False) s)/\
  (2<=vs.length->∀i j,i<ks.length->j<ks.length->∀C,C (aE i j) s->ν (ο prog w) A (Gj κ (ks.getD i .none) (ks.getD j .none)) C (λ_ _=>False) s)/\
  ∀p:List Nat,p.Perm (kM vs.length)->p.Pairwise (λi j=>aE j i=false)->P (.done (.ret .none)) {s with heap:=(s.heap.update kS (pW λ_=>(#[]:Array kL))).update a (pW λ_=>(p.map λi=>vs.getD i .none).toArray)}
open Classical in
noncomputable def yX(ks:List kL)(u:kL):Nat:=if h:∃i,i<ks.length/\ks[i]?=some u then Classical.choose h else 0
def Y9{ks:List kL}{u:kL}(h:ks[i]?=some u):yX ks u<ks.length/\ks[yX ks u]?=some u:=by
 have ex:∃i,i<ks.length/\ks[i]?=some u:=⟨i,(kE.mp h).1,h⟩;unfold yX;rw[dif_pos ex];exact Classical.choose_spec ex
def OV{κ:gu}{aE:Nat->Nat->Bool}(hc:∀i j,i<ks.length->j<ks.length->∀C,C (aE i j) s->ν (ο prog w) A (Gj κ (ks.getD i .none) (ks.getD j .none)) C (λ_ _=>False) s):QR prog w A E s κ (ks.toArray.zip vs.toArray) (λx y=>aE (yX ks x.1) (yX ks y.1)):=by
 intro x y st Q hx hy cO h;rw[lt'_eq];refine kn (CJ ?_);rw[cO];obtain⟨i,hi⟩:=pJ.mp (VH hx);obtain⟨j,hj⟩:=pJ.mp (VH hy);obtain⟨i1,i2⟩:=Y9 hi;obtain⟨j1,j2⟩:=Y9 hj;have z:=hc _ _ i1 j1 (λb s'=>b=aE (yX ks x.1) (yX ks y.1)/\s'=s) ⟨rfl,rfl⟩;rw[kG,kG,i2,j2] at z;refine kn (Dx (AC (Qr z (λb s' e=>?_) λ_ _ z=>z.elim)));obtain⟨e1,e2⟩:=e;subst e1 e2;exact⟨rfl,pP h⟩
theorem zcb{P:BW->kR->Prop}(hl:ks.length=vs.length)(zl:vs.length<=μ)(C4:a≠kS)(hk:s.heap.get? kS=some (QA "list" ks.toArray e))(h:zef prog w A a kS e1 vs ks P s):
  ν (ο prog w) A (GP a false vs.toArray e1 (.ref kS) ks.toArray) P E s:=by
 obtain⟨ha,κ,aE,wk,cons,sK,OI,q⟩:=h;have z0:vs.toArray.size=vs.length:=rfl;have zz:(ks.toArray.zip vs.toArray).toList=(kM vs.length).map λi=>(ks.getD i .none,vs.getD i .none):=by
  rw[Gk];refine UH λi=>?_;rw[kX]
  by_cases c:i<vs.length
  ·rw[uM c,kH (by simp[hl,c])]
   simp[List.getElem_zip,kG,c,hl]
  ·rw[uE (by simp;lia),uE (by simp;lia)]
   rfl
 have tk:cG (λx y:pS=>aE (yX ks x.1) (yX ks y.1)):=⟨λ_=>wk.irr _,λ_ _ _ h1 h2=>wk.tr _ _ _ h1 h2,λ_ _ _ h1 h2=>wk.cut _ _ _ h1 h2⟩;have fin:∀st:uV,(a0 st).Perm (ks.toArray.zip vs.toArray)->dm (λx y:pS=>aE (yX ks x.1) (yX ks y.1)) (a0 st).toList->∃p:List Nat,p.Perm (kM vs.length)/\p.Pairwise (λi j=>aE j i=false)/\(a0 st).map (·.2)=(p.map λi=>vs.getD i .none).toArray:=λst hp hu=>by
  have h1:=Co.mp hp;rw[zz] at h1;obtain⟨p,p1,p2⟩:=zei h1;refine⟨p,p1,?_,?_⟩
  ·rw[p2] at hu;have Nf:=List.pairwise_map.mp hu;refine AG (λ{i j} hi hj z=>?_) Nf;have bi:i<ks.length:=by rw[hl];exact pe.mp (p1.mem_iff.mp hi)
   have bj:j<ks.length:=by rw[hl];exact pe.mp (p1.mem_iff.mp hj)
   have gi:ks[i]?=some (ks.getD i .none):=by rw[kG,kH bi];rfl
   have gj:ks[j]?=some (ks.getD j .none):=by rw[kG,kH bj];rfl
   obtain⟨k1,k2⟩:=Y9 gi;obtain⟨l1,l2⟩:=Y9 gj;have c1:=(cons _ _ l1 bj (l2.trans gj.symm) (yX ks (ks.getD i .none))).1;have c2:=(cons _ _ k1 bi (k2.trans gi.symm) j).2;rw[<-c2,<-c1];exact z
  ·apply CG.mp
   rw[Array.toList_map,p2,uc];rfl
 unfold GP;dsimp only;simp only[uk,if_false]
 by_cases h2:vs.length<2
 ·rw[z0,θ h2,θ h2,Ht];rw[HJ];refine kC (kO ?_);obtain⟨p,p1,p2,p3⟩:=fin (Fq general' (ks.toArray.zip vs.toArray) #[] 7 none) (HL _) (by
   show dm _ (ks.toArray.zip vs.toArray).toList
   have ll:(ks.toArray.zip vs.toArray).toList.length<2:=by rw[zz,kJ,pE];exact h2
   generalize (ks.toArray.zip vs.toArray).toList=l at ll
   cases l with
   |nil=>exact .nil
   |cons x l=>cases l with
    |nil=>exact QK _ _
    |cons y l=>exact absurd ll (by simp only[kZ];lia))
  exact YU (ys:=p.map λi=>vs.getD i .none) p3 rfl (by rw[kJ,p1.length_eq,pE]) zl (by lia) C4 hk ha (q p p1 p2)
 ·have MD:2<=vs.length:=by lia
  rw[z0,η h2,η h2];refine kC (Qr (sK MD (λOJ s'=>OJ=κ/\s'=s) ⟨rfl,rfl⟩) (λOJ s' hs=>?_) λ_ _ z=>z.elim);obtain⟨rfl,rfl⟩:=hs;have run:=TQ (E:=E) tk (OV (vs:=vs) (OI MD)) (st:=Fq OJ (ks.toArray.zip vs.toArray) #[] 7 none) (Q:=λ_ aH=>(a0 aH).Perm (ks.toArray.zip vs.toArray)/\Bi aH=none/\dm (λx y:pS=>aE (yX ks x.1) (yX ks y.1)) (a0 aH).toList) ⟨⟨HL _,rfl,rfl,rfl,QB _⟩,λa n p hm=>by cases hm⟩ λaH x y z=>⟨x,y,z⟩
  refine kC (Qr run ?_ λ_ _ e=>e);rintro⟨⟨⟩,st⟩ fU ⟨rfl,hp,hf,hu⟩;dsimp only at hp hf hu⊢;obtain⟨p,p1,p2,p3⟩:=fin st hp hu;exact YU (ys:=p.map λi=>vs.getD i .none) p3 hf (by rw[kJ,p1.length_eq,pE]) zl (by lia) C4 hk ha (q p p1 p2)
end
section
noncomputable def KG(g h:Heap)(L:Addr):List (Addr×Obj):=(kM h.objs.size).filterMap λa=>if a=L\/(g.get? a).isSome=true then none else(h.get? a).map λo=>(a,o)
noncomputable def bZ(g h:Heap)(L d:Addr):List (Addr×Obj):=(KG g h L).filter λp=>decide (p.1≠d)
end
end L2
namespace HT
open PySem PyProof.Rows
section
noncomputable def lexLt:List Int->List Int->Bool
 |[],[]=>false
 |[],_::_=>true
 |_::_,[]=>false
 |x::xs,y::ys=>if x=y then lexLt xs ys else decide (x<y)
def lexLt_cons(x y:Int)(xs ys:List Int):lexLt (x::xs) (y::ys)=if x=y then lexLt xs ys else decide (x<y):=rfl
def lexLt_nil_nil:lexLt [] []=false:=rfl
def eqAt_int(A:Qd)(s:kR)(a:Int)(t:Tok)(c:Int)(u:Tok):∃e,SeqAt.EqAt A s (.int a t) (.int c u) e/\(e=true↔a=c):=
 ⟨(a==c),SeqAt.EqAt.int_int a t c u,by simp⟩
end
end HT
namespace L2
open PySem PySem.Spec PyProof.Rows
open PySem.SeqAt
open PySem.AutoSeq1 (wpAny_loadPart')
open PySem.MeetsSeq PySem.MeetsSeq2 PySem.MeetsSeq3
open PySem.W (KasT kas_sort kas_ask kla_fn kla_obj envX tabObj CodeHd kas_asc kas_desc kas_rev kas_tail3 kas_descPart kas_count kas_place kas_bin)
variable{ns:List Int}{ms:List (Int×Int)}{t:Tok}{Q:gu->kR->Prop}{β:Type}
section
variable{prog:Qq}{w:World}{A:Qd}{E:kL->kR->Prop}{s:kR}{C:Bool->kR->Prop}
def rcI(ng:Bool)(A:Qd)(s:kR)(a c:Int)(t u:Tok)(prog:Qq)(w:World)(E:kL->kR->Prop)(Q:kL->kR->Prop)(h:Q (.bool (ng^^decide (a<c))) s):ν (ο prog w) A (HA (cond ng .GtE .Lt) (.int a t) (.int c u)) Q E s:=by
 cases ng
 ·exact(Df (by simpa using h):ν (ο prog w) A (Qp .Lt (.int a t) (.int c u)) Q E s)
 ·exact(PyProof.Rows.ge_int (by rw[show decide (c<=a)=(true^^decide (a<c)) by rw[EX];simp];exact h):ν (ο prog w) A (Qp .GtE (.int a t) (.int c u)) Q E s)
theorem Zv(ng:Bool)(l b:Addr)(items bT:Array kL)(n n2:Nat)(dd Ro:Option Addr)(sl Rp:Array (Option kL))(ns ms:List Int)(cB:ns.length=ms.length)(hi:An items.toList ns)(hj:An bT.toList ms):
  Meets (cond ng Am.«tuple.__ge__» Am.«tuple.__lt__» ⟨[.ref l,.ref b],[]⟩)
   (λ_ R s=>s.heap.get? l=some {cls:=.type "tuple",dict:=dd,data:=.seq items n,slots:=sl}/\s.heap.get? b=some {cls:=.type "tuple",dict:=Ro,data:=.seq bT n2,slots:=Rp}/\R (.ok (.ret (.bool (ng^^HT.lexLt ns ms)))) s):=by
 have rc:=rcI ng;obtain⟨m,hm⟩:∃m,m=ng:=⟨_,rfl⟩
 cases ng<;>dsimp only[cond] at rc⊢<;>refine .of_wp λprog w A R s h=>?_
 all_goals
  obtain⟨hp,g,d,tk,os⟩:=s;obtain⟨hl,hb,h⟩:=h;have f2:=AutoSeq1.sub_tuple_tuple;have z:items.size=bT.size:=by rw[<-pL,hi.length,cB,<-hj.length,pL]
  wp_walk using Ab hl,Ab hb,De _ (λbZ b s'=>b.1=none/\s'=⟨hp,g,d,tk,os⟩/\∃(vs ws:List kL)(OE RE:List Int),bZ=vs.zip ws/\An vs OE/\An ws RE/\OE.length=RE.length/\R (.ok (.ret (.bool (m^^HT.lexLt OE RE)))) ⟨hp,g,d,tk,os⟩) _
  case turn=>
   rintro⟨y,x⟩ bZ b s' ⟨tE,rfl,vs,ws,OE,RE,hz,hvi,hwi,hln,hR⟩
   cases hvi with
   |nil=>rw[GL] at hz;cases hz
   |cons a t hv=>
    cases hwi with
    |nil=>rw[List.zip_nil_right] at hz;cases hz
    |cons c u hw=>
     rw[Us] at hz
     injection hz with q1 q2
     injection q1 with q3 q4
     subst q3 q4;rw[HT.lexLt_cons] at hR;simp only[kZ] at hln;obtain⟨e,he,TR⟩:=HT.eqAt_int A.in1 ⟨hp,g,d,tk,os⟩ a t c u;refine kC (he prog w _ _ ?_)
     cases e with
     |true=>
      rw[θ (TR.mp rfl)] at hR
      wp_walk
      exact⟨rfl,rfl,_,_,_,_,q2,hv,hw,by lia,hR⟩
     |false=>
      rw[η (λq=>absurd (TR.mpr q) pF)] at hR;have hri:=rc A.in1 ⟨hp,g,d,tk,os⟩ a c t u prog w
      wp_walk using hri
      exact⟨_,rfl,by simpa[hm] using hR⟩
  case fin=>
   rintro⟨b1,b2⟩ s' ⟨tE,rfl,vs,ws,OE,RE,hz,hvi,hwi,hln,hR⟩
   cases tE;have hv:HT.lexLt OE RE=false:=by
    cases hvi with
    |nil=>
     cases hwi with
     |nil=>rfl
     |cons c u hw=>cases hln
    |cons a t hv=>
     cases hwi with
     |nil=>cases hln
     |cons c u hw=>rw[Us] at hz;cases hz
   rw[hv] at hR
   wp_walk
   exact⟨_,rfl,by simpa[Builtin.Tuple.tupleCompareSizes,z,hm] using hR⟩
  case h=>
   exact⟨rfl,rfl,items.toList,bT.toList,ns,ms,rfl,hi,hj,cB,by rw[hm];exact h⟩
def yq(h:Heap)(v:kL)(ns:List Int):Prop:=∃(a:Addr)(bE:Array kL)(n:Nat)(dd:Option Addr)(sl:Array (Option kL)),v=.ref a/\h.get? a=some {cls:=.type "tuple",dict:=dd,data:=.seq bE n,slots:=sl}/\An bE.toList ns
theorem zds{h:Heap}{us:List kL}(x:An us ns):∃as,HU h us (ns.map AY) as:=by
 induction x with
 |nil=>exact⟨_,.nil⟩
 |cons n t r ih=>obtain⟨_,q⟩:=ih;exact⟨_,.cons (.int n t) q⟩
def yq.reads{h:Heap}{v:kL}(t:yq h v ns):∃as,Reads h v (.tuple (ns.map AY)) as:=by
 obtain⟨a,bE,n,dd,sl,rfl,o,i⟩:=t;obtain⟨as,r⟩:=zds (h:=h) i;exact⟨_,reads_tuple_at o rfl rfl (by simpa using r)⟩
theorem Jn:∀ns:List Int,uz (ns.map AY)=true
 |[]=>rfl
 |n::ns=>by simp only[kN,uz,Jn ns,UY,Bool.and_self]
def JC(ns:List Int):UY (.tuple (ns.map AY))=true:=by
 simp only[UY,Jn ns]
theorem ZI:∀ns:List Int,QY (ns.map AY)<=1
 |[]=>by simp[QY]
 |n::ns=>by
  have:=ZI ns;simp only[kN,QY,UZ];lia
theorem Zr:∀{ns ms:List Int},Uz (ns.map AY) (ms.map AY)=decide (ns=ms)
 |[],[]=>rfl
 |[],m::ms=>rfl
 |n::ns,[]=>rfl
 |n::ns,m::ms=>by
  simp only[kN,Uz,Uo,Zr]
  by_cases h1:n=m<;>by_cases h2:ns=ms<;>simp[h1,h2]
variable{x y:kL}
theorem KH{ms:List Int}(hx:yq s.heap x ns)(hy:yq s.heap y ms)(hu:A.units+64<a7)(q:C (decide (ns=ms)) s):ν (ο prog w) A (eqBool x y) C E s:=by
 obtain⟨as,ra⟩:=hx.reads;obtain⟨bs,rb⟩:=hy.reads;refine Cr prog w A E s x y _ _ as bs C ra rb (JC ns) (JC ms) ?_ ?_
 ·have:=ZI ns;have:(GQ (ns.map AY)).depth<=2:=by simp only[UZ];lia
  have:=HM (GQ (ns.map AY)).depth (GQ (ms.map AY)).depth;lia
 ·simp only[Uo];rw[Zr];exact q
noncomputable def sQ(a b:Int×Int):Bool:=if a.1=b.1 then(if a.2=b.2 then false else decide (a.2<b.2)) else decide (a.1<b.1)
theorem MG{a b:Int}{u:Tok}(hu:A.units+64<a7)(q:C (decide (a=b)) s):ν (ο prog w) A (eqBool (.int a t) (.int b u)) C E s:=by
 refine Cr prog w A E s _ _ (.int a) (.int b) _ _ C (.int a t) (.int b u) rfl rfl ?_ ?_
 ·have:UZ (.int a)<=1:=by simp[UZ]
  have:=HM (UZ (.int a)) (UZ (.int b));lia
 ·simp only[Uo]
  by_cases h:a=b
  ·rw[ζ h] at q
   simpa[h] using q
  ·rw[ι h] at q;have:(a==b)=false:=beq_eq_false_iff_ne.mpr h;rw[this];exact q
theorem zar{a b:Int×Int}(hx:yq s.heap x [a.1,a.2])(hy:yq s.heap y [b.1,b.2])(hu:A.units+64<a7)(q:C (sQ a b) s):ν (ο prog w) A (Gj (tuples' true) x y) C E s:=by
 obtain⟨p,bE,n,dd,sl,rfl,o,i⟩:=hx;obtain⟨p',eZ,n',A4,D2,rfl,o',i'⟩:=hy;obtain⟨u1,u2,e,t1,t2⟩:∃u1 u2,bE.toList=[u1,u2]/\(∃t,u1=.int a.1 t)/\∃t,u2=.int a.2 t:=by
  revert i
  generalize bE.toList=l;intro i
  cases i with
  |cons k t r=>
   cases r with
   |cons k2 t2 r2=>
    cases r2;exact⟨_,_,rfl,⟨_,rfl⟩,⟨_,rfl⟩⟩
 obtain⟨u1',u2',e',t1',t2'⟩:∃u1 u2,eZ.toList=[u1,u2]/\(∃t,u1=.int b.1 t)/\∃t,u2=.int b.2 t:=by
  revert i'
  generalize eZ.toList=l;intro i
  cases i with
  |cons k t r=>
   cases r with
   |cons k2 t2 r2=>
    cases r2;exact⟨_,_,rfl,⟨_,rfl⟩,⟨_,rfl⟩⟩
 obtain⟨t1,rfl⟩:=t1;obtain⟨t2,rfl⟩:=t2;obtain⟨t1',rfl⟩:=t1';obtain⟨t2',rfl⟩:=t2';have z:bE.size=2:=by rw[<-pL,e];rfl
 have z':eZ.size=2:=by rw[<-pL,e'];rfl
 refine PySem.W.kat_lt o rfl o' rfl ?_;rw[e,e',z,z',ι (by lia)]
 unfold sQ at q;refine Go (MG hu ?_)
 by_cases c:a.1=b.1
 ·rw[θ c] at q;rw[ζ c];refine HN (Go (MG hu ?_))
  by_cases c2:a.2=b.2
  ·rw[θ c2] at q;rw[ζ c2];exact HN (PySem.W.kat_nil q)
  ·rw[η c2] at q;rw[ι c2];exact He (PySem.W.kat_one _ _ (Df q))
 ·rw[η c] at q;rw[ι c];exact He (oneLt_int q)
open PySem.W (KatTups) in
theorem ZT{h:Heap}:∀vs:List kL,(∀v,v∈vs->∃a:Int×Int,yq h v [a.1,a.2])->∃fs,fs.length=vs.length/\KatTups h vs fs/\∀f,f∈fs->∃n t,f=.int n t
 |[],_=>⟨[],rfl,.nil,λf hf=>by cases hf⟩
 |v::vs,hv=>by
  obtain⟨fs,l,t,r⟩:=ZT vs λu hu=>hv u (pT _ hu);obtain⟨a,p,bE,n,dd,sl,rfl,o,i⟩:=hv v (pH ..);obtain⟨u1,t1,e⟩:∃u1 t,bE[0]?=some u1/\u1=.int a.1 t:=by
   rw[<-uh]
   revert i
   generalize bE.toList=l;intro i
   cases i with
   |cons k t r=>exact⟨_,t,rfl,rfl⟩
  refine⟨u1::fs,by simp[l],.cons o rfl rfl e.1 t,λf hf=>?_⟩
  rcases kg.mp hf with rfl|hf
  ·exact⟨_,t1,e.2⟩
  ·exact r f hf
variable{vs:List kL}
theorem zcu{M:Model}{A:Qd}{E:kL->kR->Prop}{s:kR}(hn:0<vs.length)(hv:∀v,v∈vs->∃a:Int×Int,yq s.heap v [a.1,a.2])(q:Q (tuples' true) s):ν M A (FG vs.toArray) Q E s:=by
 obtain⟨fs,l,t,r⟩:=ZT vs hv;refine PySem.W.kat_kind (T:=.type "int") t (by lia) (λf hf=>?_) (by decide) ?_
 ·obtain⟨n,t,rfl⟩:=r f hf;exact .now
 ·rw[show(UR "int"!=UR "tuple")=true from by decide]
  exact q
noncomputable def cV:List (Int×Int)->List (Int×Int)->Bool
 |[],ys=>decide (0<ys.length)
 |_::_,[]=>false
 |x::xs,y::ys=>if x=y then cV xs ys else HT.lexLt [x.1,x.2] [y.1,y.2]
def jc(h:Heap)(v:kL)(ns:List (Int×Int)):Prop:=∃(a:Addr)(bE:List kL)(n:Nat),v=.ref a/\h.get? a=some (QA "list" bE.toArray n)/\bE.length=ns.length/\∀(i:Nat)(u:kL)(k:Int×Int),bE[i]?=some u->ns[i]?=some k->yq h u [k.1,k.2]
variable{ns:List (Int×Int)}
section
variable{R:Fl->kR->Prop}
theorem KJ{k l:Int×Int}{Q:kL->kR->Prop}(hx:yq s.heap x [k.1,k.2])(hy:yq s.heap y [l.1,l.2])(hu:A.units+64<a7)(q:Q (.bool (HT.lexLt [k.1,k.2] [l.1,l.2])) s):ν (ο prog w) A (HA .Lt x y) Q E s:=by
 obtain⟨a,bE,n,dd,sl,rfl,o,i⟩:=hx;obtain⟨b,its2,n2,Ro,Rp,rfl,o2,i2⟩:=hy;exact EQ (op:=.Lt) ⟨_,o,rfl⟩ ⟨_,o2,rfl⟩ PySem.F.slot_tuple_lt PySem.F.entry_tuple_lt (PySem.F.args_tuple_lt_2 _ _) (Zv false a b bE its2 n n2 dd Ro sl Rp [k.1,k.2] [l.1,l.2] rfl i i2) ⟨o,o2,(λz=>nomatch z),by rw[Bn];exact q⟩ (by lia)
theorem KL{a b:Addr}{xs ys:List kL}{n m:Nat}(hu:A.units+70<a7)(ha:s.heap.get? a=some (QA "list" xs.toArray n))(hb:s.heap.get? b=some (QA "list" ys.toArray m))(lx:xs.length=ns.length)(ly:ys.length=ms.length)
  (tx:∀(i:Nat)(u:kL)(k:Int×Int),xs[i]?=some u->ns[i]?=some k->yq s.heap u [k.1,k.2])(ty:∀(i:Nat)(u:kL)(k:Int×Int),ys[i]?=some u->ms[i]?=some k->yq s.heap u [k.1,k.2]):
  ∀(f i:Nat),ns.length-i=f->i<=ns.length->i<=ms.length->R (.ok (.ret (.bool (cV (ns.drop i) (ms.drop i))))) s->Ak (ο prog w) A (.builtin "list.__eq__.loop" ⟨[.ref a,.ref b,AI (i:Int),AI 0],[]⟩) R s:=by
 have fin:∀i:Nat,i<=ns.length->i<=ms.length->(ns.length=i\/ms.length=i)->cV (ns.drop i) (ms.drop i)=decide (xs.length<ys.length):=λi h1 h2 h3=>by
  rcases h3 with h3|h3
  ·rw[Bo (by lia),cV,uF]
   exact ω.mpr (by lia)
  ·rw[Bo (l:=ms) (by lia)]
   cases e:ns.drop i with
   |nil=>
    have:=FF.mp e;rw[cV];exact ω.mpr (by simp;lia)
   |cons k r=>
    rw[cV];have:i<ns.length:=by
     rcases IB i ns.length with z|z
     ·exact z
     ·rw[Bo z] at e;cases e
    exact(ι (by lia)).symm
 intro f
 induction f with
 |zero=>
  intro i hf h1 h2 q;have e:ns.length=i:=by lia
  refine Un Dy ?_;rw[UU AM _];rw[fin i h1 h2 (.inl e)] at q;have gx:xs[i]?=none:=uE (by lia)
  refine kC (Ue ha rfl (kC (Ue hb rfl ?_)));simp only[AI,QS,Ag,gx];exact kC (Ue ha rfl (kC (Ue hb rfl (kO q))))
 |succ f ih=>
  intro i hf h1 h2 q;refine Un Dy ?_;rw[UU AM _];have li:i<xs.length:=by lia
  have gx:xs[i]?=some xs[i]:=kH li;refine kC (Ue ha rfl (kC (Ue hb rfl ?_)))
  by_cases hy:ms.length=i
  ·rw[fin i h1 h2 (.inr hy)] at q;have gy:ys[i]?=none:=uE (by lia)
   simp only[AI,QS,Ag,gx,gy];exact kC (Ue ha rfl (kC (Ue hb rfl (kO q))))
  ·have lj:i<ys.length:=by lia
   have gy:ys[i]?=some ys[i]:=kH lj;have gn:ns[i]?=some ns[i]:=kH (by lia)
   have gm:ms[i]?=some ms[i]:=kH (by lia)
   have dx:ns.drop i=ns[i]::ns.drop (i+1):=Qf (by lia)
   have dy:ms.drop i=ms[i]::ms.drop (i+1):=Qf (by lia)
   rw[dx,dy,cV] at q;have t1:=tx i _ _ gx gn;have t2:=ty i _ _ gy gm;simp only[AI,QS,Ag,gx,gy];refine kC (KH t1 t2 (by show A.units+1+64<_;lia) ?_)
   by_cases e:ns[i]=ms[i]
   ·rw[θ e] at q;rw[ζ (by rw[e])]
    simp only[if_true];have z:=ih (i+1) (by lia) (by lia) (by lia) q
    exact kO ⟨gO AM _,by simpa[AI] using z⟩
   ·rw[η e] at q;have ne:¬[ns[i].1,ns[i].2]=[ms[i].1,ms[i].2]:=λz=>by
     simp only[List.cons.injEq,and_true] at z;exact e (Qo z.1 z.2)
    rw[ι ne];simp only[uk,if_false];refine kC (Ue ha rfl (kC (Ue hb rfl ?_)));simp only[Ag,gx,gy];exact kC (KJ t1 t2 (by show A.units+1+64<_;lia) (kO q))
end
def OW(a b:Addr):Meets (Am.«list.__lt__» ⟨[.ref a,.ref b],[]⟩) (λA R s=>A.units+70<a7/\∃(xs ys:List kL)(n m:Nat)(ns ms:List (Int×Int)),s.heap.get? a=some (QA "list" xs.toArray n)/\s.heap.get? b=some (QA "list" ys.toArray m)/\xs.length=ns.length/\ys.length=ms.length/\
  (∀(i:Nat)(u:kL)(k:Int×Int),xs[i]?=some u->ns[i]?=some k->yq s.heap u [k.1,k.2])/\(∀(i:Nat)(u:kL)(k:Int×Int),ys[i]?=some u->ms[i]?=some k->yq s.heap u [k.1,k.2])/\R (.ok (.ret (.bool (cV ns ms)))) s):=by
 intro prog w A R s h;obtain⟨hu,xs,ys,n,m,ns,ms,ha,hb,lx,ly,tx,ty,q⟩:=h;refine kC (m:=isInstance (.ref b) (.type "list")) (gP (T:="list") (b:=true) ⟨_,hb,rfl⟩ EK ?_);exact kO ⟨gO AM _,KL (i:=0) hu ha hb lx ly tx ty _ rfl (QB _) (QB _) q⟩
theorem OX(hx:jc s.heap x ns)(hy:jc s.heap y ms)(hu:A.units+70<a7)(q:C (cV ns ms) s):ν (ο prog w) A (Gj oneType' x y) C E s:=by
 obtain⟨a,xs,n,rfl,ha,lx,tx⟩:=hx;obtain⟨b,ys,m,rfl,hb,ly,ty⟩:=hy;rw[keyLt'_oneType,oneLt'_eq];simp only[if_true];refine kC (wpAny_cRoomFor (by lia) (kC (wpAny_callSpecialIfBound?_slot ⟨_,ha,rfl⟩ FK (CE FK ⟨_,ha,rfl⟩ PySem.F.entry_list_lt (PySem.F.args_list_lt_2 _ _) (OW a b) ⟨hu,xs,ys,n,m,ns,ms,ha,hb,lx,ly,tx,ty,?_⟩))))
 exact UG q
def zdc{M:Model}(h2:2<=vs.length)(hv:∀v,v∈vs->∃ns,jc s.heap v ns)(q:Q oneType' s):ν M A (FG vs.toArray) Q E s:=by
 refine PySem.W.kas_kind (T:=.type "list") h2 (λv h=>?_) (by decide) (by decide) q
 obtain⟨ns,a,bE,n,rfl,o,_⟩:=hv v h;exact(PySem.W.Looks.ld o).andThen .now
structure C5{α:Type}(lt:α->α->Bool):Prop where
 irr:∀a,lt a a=false
 tr:∀a b c,lt a b=true->lt b c=true->lt a c=true
 tot:∀a b,a≠b->lt a b=true\/lt b a=true
noncomputable def lexB{α:Type}[DecidableEq α](r:α->α->Bool)(s:β->β->Bool)(a b:α×β):Bool:=if a.1=b.1 then s a.2 b.2 else r a.1 b.1
def C5.lex{α:Type}[DecidableEq α]{r:α->α->Bool}{s:β->β->Bool}(R:C5 r)(S:C5 s):C5 (lexB r s) where
 irr a:=by unfold lexB;rw[θ rfl];exact S.irr _
 tr a b c h1 h2:=by
  unfold lexB at*
  by_cases e1:a.1=b.1
  ·rw[θ e1] at h1
   by_cases e2:b.1=c.1
   ·rw[θ e2] at h2;rw[θ (e1.trans e2)];exact S.tr _ _ _ h1 h2
   ·rw[η e2] at h2;rw[η (λz=>e2 (e1.symm.trans z)),e1];exact h2
  ·rw[η e1] at h1
   by_cases e2:b.1=c.1
   ·rw[η (λz=>e1 (z.trans e2.symm)),<-e2];exact h1
   ·rw[η e2] at h2;have n:a.1≠c.1:=λz=>by
     rw[<-z] at h2;have:=R.tr _ _ _ h1 h2;rw[R.irr] at this
     cases this
    rw[η n];exact R.tr _ _ _ h1 h2
 tot a b h:=by
  unfold lexB
  by_cases e:a.1=b.1
  ·rw[θ e,θ e.symm];exact S.tot _ _ λz=>h (Qo e z)
  ·rw[η e,η λz=>e z.symm];exact R.tot _ _ e
theorem C5.int:C5 (λa b:Int=>decide (a<b)) where
 irr a:=ι (by lia)
 tr a b c h1 h2:=ζ (by have:=ξ h1;have:=ξ h2;omega)
 tot a b h:=by
  rcases Int.lt_or_gt_of_ne h with h|h
  ·exact .inl (ζ h)
  ·exact .inr (ζ h)
abbrev lt2:Int×Int->Int×Int->Bool:=lexB (λa b=>decide (a<b)) (λa b=>decide (a<b))
def e8:C5 lt2:=C5.int.lex C5.int
theorem lex1(a b:Int):HT.lexLt [a] [b]=decide (a<b):=by
 rw[HT.lexLt_cons,HT.lexLt_nil_nil]
 by_cases e:a=b
 ·rw[θ e];exact(ι (by lia)).symm
 ·rw[η e]
def TS(a b c d:Int):HT.lexLt [a,b] [c,d]=lt2 (a,b) (c,d):=by
 rw[HT.lexLt_cons,lex1];rfl
section
variable{n:Nat}{aE:Nat->Nat->Bool}
theorem A9.of{lt:β->β->Bool}(S:C5 lt)(r:Nat->β):A9 λi j=>lt (r i) (r j) where
 irr i:=S.irr _
 tr i j k:=S.tr _ _ _
 cut i j k h1 h2:=by
  cases z:lt (r i) (r k) with
  |false=>rfl
  |true=>
   by_cases e1:r i=r j
   ·rw[e1] at z;rw[z] at h2;cases h2
   ·rcases S.tot _ _ e1 with y|y
    ·rw[y] at h1;cases h1
    ·have:=S.tr _ _ _ y z;rw[this] at h2;cases h2
end
theorem TU:C5 sQ:=by
 have e:sQ=lt2:=by
  funext a b
  unfold sQ lt2 lexB
  by_cases h:a.1=b.1
  ·rw[θ h,θ h]
   by_cases h2:a.2=b.2
   ·rw[θ h2];exact(ι (by lia)).symm
   ·rw[η h2]
  ·rw[η h,η h]
 rw[e];exact e8
def qH(x y:Int×Int)(xs ys:List (Int×Int)):cV (x::xs) (y::ys)=if x=y then cV xs ys else lt2 x y:=by rw[cV,TS]
theorem zab:∀(a b c:List (Int×Int)),cV a b=true->cV b c=true->cV a c=true
 |[],[],[],_,h2=>h2
 |[],_::_,[],_,h2=>by rw[cV] at h2;cases h2
 |[],_,_::_,_,_=>by rw[cV];exact ζ (Bp _)
 |_::_,[],_,h1,_=>by rw[cV] at h1;cases h1
 |_::_,_::_,[],_,h2=>by rw[cV] at h2;cases h2
 |x::xs,y::ys,z::zs,h1,h2=>by
  rw[qH] at*
  by_cases e1:x=y
  ·rw[θ e1] at h1
   by_cases e2:y=z
   ·rw[θ e2] at h2;rw[θ (e1.trans e2)];exact zab xs ys zs h1 h2
   ·rw[η e2] at h2;rw[e1,η e2];exact h2
  ·rw[η e1] at h1
   by_cases e2:y=z
   ·rw[<-e2,η e1];exact h1
   ·rw[η e2] at h2;have t:=e8.tr _ _ _ h1 h2;rw[η (λe=>by rw[e,e8.irr] at t;cases t)]
    exact t
theorem Zg:∀(a b:List (Int×Int)),a≠b->cV a b=true\/cV b a=true
 |[],[],n=>absurd rfl n
 |[],_::_,_=>.inl (by rw[cV];exact ζ (Bp _))
 |_::_,[],_=>.inr (by rw[cV];exact ζ (Bp _))
 |x::xs,y::ys,n=>by
  rw[qH,qH]
  by_cases e:x=y
  ·rw[θ e,θ e.symm];exact Zg xs ys λz=>n (by rw[e,z])
  ·rw[η e,η (λz=>e z.symm)];exact e8.tot _ _ e
theorem Jx:∀a:List (Int×Int),cV a a=false
 |[]=>rfl
 |x::xs=>by rw[qH,θ rfl];exact Jx xs
end
open PySem.W (kla_fn kla_obj envX tabObj CodeHd)
structure TV(X:Cx){κ:Type}(of:Dt->Option κ)(lt:κ->κ->Bool):Prop where
 sto:C5 lt
 kd:∃K:gu,(∀(s:kR)(O:AP)(ks:List kL),2<=ks.length->(∀v∈ks,∃d k,of d=some k/\R X.toGx O s.heap d v)->∀Q':gu->kR->Prop,Q' K s->ν (ο X.P X.w) X.A.in1.in1 (FG ks.toArray) Q' nE s)/\
  ∀(s:kR)(O:AP)(d d':Dt)(k k':κ)(v v':kL)(C:Bool->kR->Prop),of d=some k->of d'=some k'->R X.toGx O s.heap d v->R X.toGx O s.heap d' v'->C (lt k k') s->ν (ο X.P X.w) X.A.in1.in1 (Gj K v v') C nE s
 inj:∀{O h d d' k k' v},of d=some k->of d'=some k'->R X.toGx O h d v->R X.toGx O h d' v->k=k'
section
variable{X:Cx}{G:Gx}{O:AP}{h:Heap}{d:Dt}{v:kL}{k:Int×Int}
def vE(e:tX d=some k)(r:R G O h d v):yq h v [k.1,k.2]:=by
 unfold tX at e
 split at e<;>cases e
 obtain⟨p,vs,rfl,_,⟨⟨cls,dd,data,sl⟩,e,hc,n,hd⟩,_,rs⟩:=RT.tup (.inl r)
 simp only at hc hd
 subst hc hd;exact⟨p,_,n,dd,sl,rfl,e,by simpa using qX (ns:=[_,_]) rfl rs⟩
theorem ZL{vs:List kL}{ms:List Int}(a:An vs ns)(b:An vs ms):ns=ms:=by
 induction a generalizing ms with
 |nil=>cases b;rfl
 |cons n t _ ih=>cases b with|cons m u z=>rw[ih z]
theorem kyP(hu:X.A.units+80<a7):TV X tX sQ:=⟨TU,⟨tuples' true,λs O ks h2 hv Q' q=>zcu (by lia) (λv m=>let⟨d,k,e,r⟩:=hv v m;⟨k,vE e r⟩) q,λs O d d' k k' v v' C e e' r r' c=>zar (vE e r) (vE e' r') (by show X.A.units+1+1+64<_;lia) c⟩,λ{O h d d' k k' v} e e' r r'=>by
 obtain⟨a,bE,n,dd,sl,rfl,o,i⟩:=vE e r;obtain⟨a',eZ,n',A4,D2,e2,o',i'⟩:=vE e' r'
 cases e2;rw[o] at o';cases o';have:=ZL i i'
 simp at this
 exact Qo this.1 this.2⟩
end
theorem JV{α:Type}{R:α->α->Prop}:∀{a b:List α},(∀x∈a,∀y∈a,R x y->R y x->x=y)->a.Perm b->a.Pairwise R->b.Pairwise R->a=b
 |[],b,_,h,_,_=>h.nil_eq
 |x::a,[],_,h,_,_=>by have:=h.length_eq;cases this
 |x::a,y::b,an,h,ha,hb=>by
  obtain⟨a1,a2⟩:=uI.mp ha;obtain⟨b1,b2⟩:=uI.mp hb;have e:x=y:=by
   rcases kg.mp (h.mem_iff.mp (pH (a:=x) (l:=a))) with e|e
   ·exact e
   ·rcases kg.mp (h.mem_iff.mpr (pH (a:=y) (l:=b))) with e'|e'
    ·exact e'.symm
    ·exact an x (by simp) y (by simp[e']) (a1 y e') (b1 x e)
  subst e;rw[JV (λx hx y hy=>an x (by simp[hx]) y (by simp[hy])) h.cons_inv a2 b2]
theorem Vc(lt:Nat->Nat->Bool)(i:Nat):∀l,(jl lt i l).Perm (i::l)
 |[]=>.refl _
 |j::r=>by
  unfold jl
  split
  ·exact((Vc lt i r).cons j).trans (.swap i j r)
  ·exact .refl _
theorem Ys(lt:Nat->Nat->Bool):∀l,(xi lt l).Perm l
 |[]=>.refl _
 |i::r=>(Vc lt i _).trans ((Ys lt r).cons i)
theorem ZZ{lt:Nat->Nat->Bool}:∀{l:List Nat},vH lt l=true->l.Pairwise λi j=>lt i j=true/\lt j i=false
 |[],_=>.nil
 |i::r,h=>by
  unfold vH at h;rw[ue] at h;refine uI.mpr ⟨λj hj=>?_,ZZ h.2⟩;have:=Ut.mp h.1 j hj
  simpa using this
noncomputable def TW(n:Nat)(lt:Nat->Nat->Bool):Option (List Nat):=if vH lt (xi lt (kM n))=true then some (xi lt (kM n)) else none
theorem zaa{n:Nat}{r:List Nat}{lt:Nat->Nat->Bool}(h:TW n lt=some r):r.Perm (kM n)/\∀{p:List Nat},p.Perm (kM n)->p.Pairwise (λi j=>lt j i=false)->p=r:=by
 unfold TW at h
 split at h
 ·rename_i c
  cases h;have pw:=ZZ c;have pm:=Ys lt (kM n);refine⟨pm,λ{p} hp hs=>(JV (R:=λi j=>lt j i=false) (a:=xi lt (kM n)) (b:=p) ?_ (pm.trans hp.symm) (pw.imp λh=>h.2) hs).symm⟩;intro x hx y hy r1 r2
  by_cases e:x=y
  ·exact e
  ·exfalso
   obtain⟨i,hi,ei⟩:=uA.mp hx;obtain⟨j,hj,ej⟩:=uA.mp hy;rcases Aq i j with l|l|l
   ·have:=(po.mp pw i j hi hj l).1;rw[ei,ej,r2] at this;cases this
   ·subst l;exact e (ei.symm.trans ej)
   ·have:=(po.mp pw j i hj hi l).1;rw[ei,ej,r1] at this;cases this
 ·cases h
theorem Zt{G:Gx}{O:AP}{h:Heap}{ds:List Dt}{vs:List kL}(r:Rs G O h ds vs):∀{p:List Nat},(∀i,i∈p->i<ds.length)->Rs G O h (p.map λi=>ds.getD i .none) (p.map λi=>vs.getD i .none)
 |[],_=>.nil
 |i::p,hh=>by
  have hi:=hh i pH;obtain⟨u,hu,ru⟩:=r.get (kH hi);refine .cons ?_ (Zt r λj hj=>hh j (pT _ hj));show R G O h (ds.getD i .none) (vs.getD i .none);rw[kG,kH hi,kG,hu];exact ru
structure OY(X:Cx){κ:Type}(of:Dt->Option κ)(lt:κ->κ->Bool)(df:κ)(pk:Nat->(Nat->Nat->Bool)->Option (List Nat)):Prop where
 perm:∀{n l p},pk n l=some p->p.Perm (kM n)
 run:∀{O:AP}{vs ks:List kL}{eV:List Dt}{kl:List κ}{p:List Nat}{s:kR}{a kS:Addr}{e e1:Nat}{P:BW->kR->Prop},ks.length=vs.length->vs.length<=μ->a≠kS->s.heap.get? kS=some (QA "list" ks.toArray e)->s.heap.get? a=some (QA "list" #[] e1)->Rs X.toGx O s.heap eV ks->zv of eV=some kl->pk vs.length (λi j=>lt (kl.getD i df) (kl.getD j df))=some p->
  P (.done (.ret .none)) {s with heap:=(s.heap.update kS (pW λ_=>(#[]:Array kL))).update a (pW λ_=>(p.map λi=>vs.getD i .none).toArray)}->ν (ο X.P X.w) X.A.in1.in1 (GP a false vs.toArray e1 (.ref kS) ks.toArray) P nE s
def PL(X:Cx)(e:Expr)(g:En->Option (List Dt)):Prop:=∀B π Z ow s ds,Inv X B π Z ow s->g Z=some ds->ν (ο X.P X.w) X.A (eval e X.env) (λv s1=>Sx X B π Z ow s s1/\∀s2,Sx X B π Z ow s1 s2->∀Q,(∀vs h' tk,Keeps s2.heap h'->s2.heap.objs.size<=h'.objs.size->vs.length<=μ->Rs X.toGx (X.O B ow) s1.heap ds vs->Q vs {s2 with heap:=h',toks:=tk})->ν (ο X.P X.w) X.A.in1 (collect v) Q nE s2) nE s
noncomputable def qC{κ:Type}(pk:Nat->(Nat->Nat->Bool)->Option (List Nat))(of:Dt->Option κ)(lt:κ->κ->Bool)(df:κ)(js:List Nat)(f:En->Option Dt)(g:En->Option (List Dt)):En->Option Dt:=λZ=>(g Z).bind λds=>(xS js Z).bind λss=>(zv (λd=>f (.fz d::ss)) ds).bind λeV=>(zv of eV).bind λks=>(pk ds.length λi j=>lt (ks.getD i df) (ks.getD j df)).bind λp=>some (.list (p.map λi=>ds.getD i .none))
section
variable{X:Cx}{κ:Type}{of:Dt->Option κ}{lt:κ->κ->Bool}{df:κ}{pk:Nat->(Nat->Nat->Bool)->Option (List Nat)}{i0:Nat}{js:List Nat}{f g:En->Option Dt}{ga:En->Option (List Dt)}{e a body:Expr}{params:FT}{sc:Scope}{x y:Str}{c c0 P:Addr}{clos:List (Str×Addr)}{p pos sS tS:Pos}
theorem WK{α β:Type}{f:α->Option β}:∀{as:List α}{bs:List β}{i:Nat}{a:α},zv f as=some bs->as[i]?=some a->∃b,f a=some b/\bs[i]?=some b
 |[],_,i,a,_,e=>by simp at e
 |a'::as,_,i,a,h,e=>by
  obtain⟨b,q0,h⟩:=kA.mp h;obtain⟨bs,q,h⟩:=kA.mp h
  cases h
  cases i with
  |zero=>cases e;exact⟨b,q0,rfl⟩
  |succ i=>exact WK (as:=as) (i:=i) (a:=a) q (by simpa using e)
def jZ{O:AP}{h:Heap}{ks:List kL}{eV:List Dt}{kl:List κ}(rk:Rs X.toGx O h eV ks)(q6:zv of eV=some kl){i:Nat}(hi:i<ks.length):∃v kd,ks[i]?=some v/\of kd=some (kl.getD i df)/\R X.toGx O h kd v:=by
 have cq:i<eV.length:=by rw[rk.len];exact hi
 obtain⟨v,hv,rv⟩:=rk.get (kH cq);obtain⟨k',h1,h2⟩:=WK q6 (kH cq);exact⟨v,_,hv,by rw[kG,h2];exact h1,rv⟩
section
variable{O:AP}{s:kR}{ks:List kL}{eV:List Dt}{kl:List κ}(ky:TV X of lt)(rk:Rs X.toGx O s.heap eV ks)(q6:zv of eV=some kl)
include ky rk q6
theorem V7:∃K:gu,(2<=ks.length->∀Q':gu->kR->Prop,Q' K s->ν (ο X.P X.w) X.A.in1.in1 (FG ks.toArray) Q' nE s)/\(∀i j,i<ks.length->j<ks.length->∀C:Bool->kR->Prop,C (lt (kl.getD i df) (kl.getD j df)) s->ν (ο X.P X.w) X.A.in1.in1 (Gj K (ks.getD i .none) (ks.getD j .none)) C nE s):=by
 obtain⟨K,kd1,kd2⟩:=ky.kd;refine⟨K,λh2 Q' q'=>kd1 s O ks h2 (λv m=>?_) Q' q',λi j hi hj C' cc=>?_⟩
 ·obtain⟨i,hi,ei⟩:=uA.mp m;obtain⟨v',kd,a1,a2,a3⟩:=jZ (df:=df) rk q6 hi;rw[kH hi,ei] at a1;cases a1;exact⟨_,_,a2,a3⟩
 ·obtain⟨v,kd,a1,a2,a3⟩:=jZ (df:=df) rk q6 hi;obtain⟨v',kd',b1,b2,b3⟩:=jZ (df:=df) rk q6 hj;rw[kG,a1,kG,b1];exact kd2 s _ _ _ _ _ _ _ _ a2 b2 a3 b3 cc
end
theorem TX(ky:TV X of lt):OY X of lt df TW:=⟨λh=>(zaa h).1,λ{O vs ks eV kl p s a kS e e1 P} hl zl C4 hk ha rk q6 hp hP=>by
 obtain⟨K,k1,k2⟩:=V7 (df:=df) ky rk q6;refine zcb hl zl C4 hk ⟨ha,K,λi j=>lt (kl.getD i df) (kl.getD j df),A9.of ky.sto _,λi j hi hj e k'=>?_,λh2=>k1 (by lia),λ_=>k2,λpp h1 h2=>by rw[(zaa hp).2 h1 h2];exact hP⟩
 obtain⟨v,kd,a1,a2,a3⟩:=jZ (df:=df) rk q6 hi;obtain⟨v',kd',b1,b2,b3⟩:=jZ (df:=df) rk q6 hj;rw[e,b1] at a1;cases a1;have:=ky.inj a2 b2 a3 b3;dsimp only;rw[this];exact⟨rfl,rfl⟩⟩
noncomputable def F5(n:Nat)(lt:Nat->Nat->Bool):Option (List Nat):=if n<64 then some (yP n lt) else none
theorem TY(ky:TV X of lt):OY X of lt df F5:=⟨λ{n l p} h=>by unfold F5 at h;split at h<;>cases h;exact Wh,λ{O vs ks eV kl p s a kS e e1 P} hl zl C4 hk ha rk q6 hp hP=>by
 obtain⟨K,k1,k2⟩:=V7 (df:=df) ky rk q6;unfold F5 at hp
 split at hp<;>cases hp
 exact TG hl ‹_› C4 hk ha (λh2=>k1 (by lia)) (λ_=>k2) hP⟩
theorem ZR(he:PE X true e f):PL X e (iL f):=λB π Z ow s ds I q=>by
 obtain⟨d,q1,q2⟩:=kA.mp q;refine ax (he B π Z ow s d I q1) λv s1⟨t,r⟩=>⟨t,λs2 t2 Q q=>?_⟩
 cases d<;>cases q2
 obtain⟨l,vs,n,rfl,el1,lz,rs⟩:=RT.lst r;have el:=t2.2.kp l _ el1 id (t.1.nt el1 λz h=>nomatch h);have k:Keeps s2.heap ((s2.heap.push (QA "list" #[] 0)).update s2.heap.objs.size (pW (·++vs.toArray))):=(Keeps.push (λ_ _ e=>e) _).upd (pI _);exact collect_list ⟨_,el,rfl,n,rfl⟩ (q vs _ s2.toks k (by rw[Gh,size_push'];lia) lz rs) lz
theorem zbm{prog:Qq}{w:World}{A:Qd}{E:kL->kR->Prop}{s:kR}(hh:A.handled=none){r:Addr}{b:Int}{u v:Tok}{n:Nat}(hr:IsRange s.heap r 0 b 1 t u v)(OZ:Builtin.Range.small 0 b 1=true)(hn:Dv 0 b 1=n)(cB:n<=2^24){Q:List kL->kR->Prop}
  (h:∀vs h' tk,vs.length=n->(∀(i:Nat) v,vs[i]?=some v->∃t,v=.int i t)->Keeps s.heap h'->s.heap.objs.size<=h'.objs.size->Q vs {s with heap:=h',toks:=tk}):ν (ο prog w) A (collect (.ref r)) Q E s:=by
 unfold collect;refine kC (wpAny_runValue (gh (Un (R:=wants (λv s'=>∃h' tk dS c',v=.ref s.heap.objs.size/\s'={s with heap:=h',toks:=tk}/\Keeps s.heap h'/\h'.get? s.heap.objs.size=some {cls:=.type "list",dict:=none,data:=.seq dS c',slots:=#[]}/\GG (λi v=>∃t,v=.int (0+i*1) t) dS n) E) entry_proto_collect' ?_) λr s1 hr=>?_))
 rotate_left
 ·cases r with
  |error e=>exact hr
  |ok fl=>
   cases fl with
   |ret v=>
    obtain⟨h',tk,dS,c',rfl,rfl,k,hS,ea⟩:=hr;show ν (ο prog w) A (load s.heap.objs.size>>=_) Q E _;refine kC (wpAny_load hS ?_);dsimp only;exact kO (h dS.toList h' tk (by rw[pL];exact ea.1) (λi v hv=>by obtain⟨t,e⟩:=ea.2 i v (by rw[<-uh];exact hv);exact⟨t,by simpa using e⟩) k (AR (uU hS)))
   |_=>exact hr.elim
 show ν _ _ (do again (.builtin "list.__iadd__" ⟨[<-newList [],.ref r],[]⟩)) _ _ s
 refine kC (DZ (kO ⟨Fo _ (by decide+kernel),Un entry_list_iadd' ?_⟩))
 show ν _ _ (uj (.ref s.heap.objs.size) (.ref r) (.ref s.heap.objs.size)) _ _ {s with heap:=s.heap.push (QA "list" #[] 0)}
 rw[UU (by decide+kernel) _]
 have hS0:(s.heap.push (QA "list" #[] 0)).get? s.heap.objs.size=some {cls:=.type "list",data:=.seq #[] 0}:=kf _ rfl;refine wpAny_extend_range (s:={s with heap:=s.heap.push (QA "list" #[] 0)}) hh (kK _ hr) OZ hn cB _ _ 0 hS0 (λh' tk dS c' kp hS cA=>?_);have k:Keeps s.heap h':=λb o e=>kp b o (QC (uU e)) (kK _ e);exact⟨h',tk,dS,c',rfl,rfl,k,hS,cA⟩
theorem KN{as ds:List Dt}(q:bG as=some ds):∃j,as=[.int j]/\(-(2^62)<=j/\j<2^62/\j.toNat<=μ)/\ds=(kM j.toNat).map λk:Nat=>.int k:=by
 unfold bG at q
 split at q
 ·split at q<;>cases q
  exact⟨_,rfl,‹_›,rfl⟩
 ·cases q
theorem O0(hg:Gl X "range")(hm:X.mg "range"=none)(ha:PA X true [a] ga)(he:pO [a] X.env=(false,eval a X.env)::pO [] X.env:=by rfl)(hpl:(Qh pos (pO [] X.env)).any (·.1)=false:=by rfl)(hc:eval (.Call (.Name "range" p) [a] [] pos) X.env=(do
     let f <-eval (.Name "range" p) X.env
     Du pos f [] (Qh pos (pO [a] X.env)) (Aa pos (Ul [] X.env))):=by rfl):PL X (.Call (.Name "range" p) [a] [] pos) (iC bG ga):=λB π Z ow s ds I q=>by
 obtain⟨as,q1,q⟩:=kA.mp q;refine Call_ (xm I hg hm bt_range (UX (ax (ha pos B π Z ow s as I q1) λus s1 hw=>?_) he hpl)) hc;obtain⟨t,r⟩:=hw;obtain⟨j,rfl,c,rfl⟩:=KN q
 ·obtain⟨u,rfl,r1⟩:=tY r;obtain⟨tk,rfl⟩:=RT.int r1;have t1:=t.1.kept (t':=s1.toks+1+1) λb o e=>kK {cls:=.type "range",data:=.fields #[.int 0 s1.toks,.int j tk,.int 1 (s1.toks+1)]} e;refine call_range_1 ⟨t.trans t1,λs2 t2 Q q=>?_⟩;have ho:=t2.2.kp _ _ (IJ ..) id λz=>t.1.fresh (.inl (t.1.bt _ z));refine zbm (A:=X.A.in1) (n:=j.toNat) (show X.A.in1.handled=none from I.ok.hd) ho (small_one (by decide) (by decide) c.1 c.2.1) (by rw[rangeSize_one];split<;>lia) c.2.2 λvs h' tk ln hv k sz=>q vs h' tk k sz (by rw[ln];exact c.2.2) (Rs.of (by simp[ln]) λi d v e1 e2=>?_)
  obtain⟨t,rfl⟩:=hv i v e2;rw[kX,uM (by rw[<-ln];exact(kE.mp e2).1)] at e1
  cases e1;exact .int
theorem Wu(sr:OY X of lt df pk)(H5:X.A.depth<Cg)(hg:Gl X "sorted")(hm:X.mg "sorted"=none)(he0:PL X e ga)(S:xL x (clos.map pG) sc)(CA:fT X clos js)(F6:EM sc X.env=pure clos)(E7:Hc params X.env=([],[]))(fE:X.env.code=.ref c0)
  (sT:∀(pm cd fF u:kL),BF (kla_fn "<lambda>" (X.env.qual++"<lambda>") params body sc clos pm cd fF) ⟨[u],[]⟩=pure [(x,u)])(dP:∀fa c' a rb,PE (wK X.toGx x (clos.map pG) (X.env.qual++"<lambda>") sc fa (.ref c') clos X.A.in1.in1 a rb) false body f)(LA:vF X.toGx c0 P sS (X.env.qual++"<lambda>"))(n0:NS e:=by intro _ _;rfl)
  (he:Qh pos (pO [e] X.env)=(false,eval e X.env)::Qh pos (pO [] X.env):=by rfl) (hpl:(Qh pos (pO [e] X.env)).any (·.1)=false:=by rfl):PF X (.Call (.Name "sorted" p) [e] [⟨some "key",.Lambda params body sc sS,tS⟩] pos) (qC pk of lt df js f ga):=λB π Z ow s dd I q=>by
 obtain⟨ds,q1,q⟩:=kA.mp q;obtain⟨ss,A7,q⟩:=kA.mp q;obtain⟨eV,q5,q⟩:=kA.mp q;obtain⟨kl,q6,q⟩:=kA.mp q;obtain⟨pp,q7,q⟩:=kA.mp q
 cases q;refine QI (xm I hg hm bt_sorted (callWith_kw ?_ he hpl rfl rfl));rw[n0];refine uZ (ax (he0 B π Z ow s _ I q1) λv s1⟨t1,col⟩=>Qb ?_);show ν _ _ (evalAll ((do let v <-eval (.Lambda params body sc sS) X.env;standAt pos;pure v)::(Aa pos (Ul [] X.env)).map (·.2))) _ _ s1;refine Fp (kC (za1 t1.1 fE LA.hd LA.bl F6 E7 LA.lm λfa c' fF s2 t2 nfa B0 dN ncc=>kC (DW (kO (GN ?_)))));have lk:=YI q5;refine zbp (C:=λvs _=>Rs X.toGx (X.O B ow) s1.heap ds vs) (col s2 t2) λvs h1 D kS e1 h' tk rs _ zl szD kk ltD hD hkS=>?_;have lv:=rs.len;have t3:Sx X B π Z ow s1 {s2 with heap:=h',toks:=tk}:=t2.trans (t2.1.kept kk);have nD:s2.heap.get? D=none:=uN szD;have nK:s2.heap.get? kS=none:=uN (by lia)
 have faD:fa≠D:=λz=>by rw[z,nD] at B0;cases B0
 have faK:fa≠kS:=λz=>by rw[z,nK] at B0;cases B0
 have DK:D≠kS:=QC ltD;have nB:∀a,(a=fa\/a=D\/a=kS)->s1.heap.get? a=none:=λa z=>by rcases z with rfl|rfl|rfl;exact nfa;exact t2.2.free nD;exact t2.2.free nK
 have K0:=t1.1.newp (B':=λa=>a=fa\/a=D\/a=kS) t3 nB λa z=>by
  rcases z with rfl|rfl|rfl
  ·exact⟨_,kk _ _ B0,λz h=>nomatch h⟩
  ·exact⟨_,hD,λz h=>nomatch h⟩
  ·exact⟨_,hkS,λz h=>nomatch h⟩
 have TZ:=t1.1.nf (F:=λa=>a=fa\/a=D\/a=kS) nB;generalize T0:(λa=>B a\/(a=fa\/a=D\/a=kS))=B1 at K0;have bb:∀a,(a=fa\/a=D\/a=kS)->B1 a:=λa z=>by rw[<-T0];exact .inr z
 have rsB:=Rs.go (λa o e n=>⟨t3.2.kp a o e id λz=>n (.inl (t1.1.bt a z)),λz=>n (z.imp (λz=>by rw[<-T0] at z;exact z.elim id λz=>by rw[nB a z] at e;cases e) id)⟩:Gd (X.O B ow) s1.heap (X.O B1 ow) h') _ _ rs
 have ncc1:¬X.O B1 ow c':=λz=>by
  obtain⟨c2,oc,vf,tk,e2,e3,e4⟩:=_root_.id dN
  cases e2;refine ncc (z.imp (λz=>?_) id);rw[<-T0] at z;rcases z with z|rfl|rfl|rfl
  ·exact z
  ·rw[B0] at e3;cases e3;cases e4.1
  ·rw[nD] at e3;cases e3
  ·rw[nK] at e3;cases e3
 refine⟨λi ks ep s'=>Inv X B1 π Z ow s'/\St X.toGx bL s1 s'/\s'.heap.get? fa=some (kla_obj "<lambda>" (X.env.qual++"<lambda>") params body sc clos ((X.mg "__name__").getD .none) c' fF)/\s'.heap.CodeRec (.ref c') (X.env.qual++"<lambda>")/\s'.heap.get? D=some (QA "list" #[] e1)/\s'.heap.get? kS=some (QA "list" ks.toArray ep)/\ks.length=i/\Rs X.toGx (X.O B1 ow) s'.heap (eV.take i) ks/\Rs X.toGx (X.O B1 ow) s'.heap ds vs,
  ⟨λi ks ep s' J=>⟨J.2.2.2.2.2.1,J.2.2.2.2.2.2.1⟩,λi u ks ep s' hu⟨J,t,o1,hc1,o2,o3,hl,rk,rv⟩=>?_,λks ep s'⟨J,t,o1,hc1,o2,o3,hl,rk,rv⟩=>?_⟩,K0,t3.2,kk _ _ B0,?_,hD,hkS,rfl,by rw[Bq];exact .nil,rsB⟩
 ·have hi:i<ds.length:=by rw[lv];exact(kE.mp hu).1
  obtain⟨u',Nf,ru⟩:=rv.get (kH hi);rw[hu] at Nf;cases Nf;obtain⟨kd,ek,ek2⟩:=WK q5 (kH hi);refine ax (ZO (A:=X.A.in1.in1) J I.ok.hd H5 S CA o1 hc1 (sT _ _ _ _) ru (dP _ _ _ _) A7 ek) λkv fU hw=>?_;obtain⟨t4,r4⟩:=hw;have D5:∀{a o},s'.heap.get? a=some o->(∀z,o.data≠.fields z)->fU.heap.get? a=some o:=λe nf=>t4.2.kp _ _ e id (J.nt e nf);have o3':=D5 o3 λz h=>nomatch h;refine⟨o3',λc2 Oe=>?_⟩;have Mp:∀a o,¬a=kS->fU.heap.get? a=some o->(fU.heap.update kS (pW (·.push kv))).get? a=some o:=λa o n e=>(uH fU.heap _ (gB n)).trans e;have x5:Nx (λa=>a=kS) fU {fU with heap:=fU.heap.update kS (pW (·.push kv)),toks:=fU.toks}:=⟨_,_,rfl,λa o n e=>Mp a o n e⟩;have g4:=J.gd t4.2;have g5:Gd (X.O B1 ow) fU.heap (X.O B1 ow) (fU.heap.update kS (pW (·.push kv))):=λa o e n=>⟨Mp a o (λz=>n (.inl (bb a (.inr (.inr z))))) e,n⟩;have J5:=t4.1.nx (B':=B1) (F:=λa=>a=kS) (λa z=>bb a (.inr (.inr z))) x5 (λa z y=>TZ a z (.inr (.inr y))) (λ_ z=>z) (λa _ e=>by subst e;exact⟨_,Oe⟩) λa z=>z.elim (J.bt a) λz=>(J.rb a z).1
  refine⟨J5,x5.st (t.then t4.2) λa z=>nB a (.inr (.inr z)),Mp _ _ faK (D5 o1 λz h=>nomatch h),?_,Mp _ _ DK (D5 o2 λz h=>nomatch h),Oe,by rw[kW,hl];rfl,?_,Rs.go (g4.trans g5) _ _ rv⟩
  ·obtain⟨c3,oc,vf,tk,e2,e3,e4⟩:=hc1
   cases e2;exact⟨_,oc,vf,tk,rfl,((g4.trans g5) c' oc e3 ncc1).1,e4⟩
  ·rw[pU,ek2];exact(Rs.go (g4.trans g5) _ _ rk).app (.cons (R.go g5 _ _ r4) .nil)
 ·rw[QT (by lia)] at rk
  rw[lv] at q7;refine sr.run hl zl DK o3 o2 rk q6 q7 ?_;have hp:=sr.perm q7;have rp:=Zt rv (p:=pp) λi m=>by rw[lv];exact pe.mp (hp.mem_iff.mp m)
  refine⟨rfl,?_⟩;have o4:(s'.heap.update kS (pW λ_=>(#[]:Array kL))).get? D=some (QA "list" #[] e1):=(uH s'.heap _ (gB DK)).trans o2;have o5:=BN o4 λ_=>(pp.map λi=>vs.getD i .none).toArray;have kpF:∀a o,¬(a=kS\/a=D)->s'.heap.get? a=some o->((s'.heap.update kS (pW λ_=>(#[]:Array kL))).update D (pW λ_=>(pp.map λi=>vs.getD i .none).toArray)).get? a=some o:=λa o n e=>(uH _ _ λz=>n (.inr z.symm)).trans ((uH _ _ λz=>n (.inl z.symm)).trans e);have xF:Nx (λa=>a=kS\/a=D) s' {s' with heap:=(s'.heap.update kS (pW λ_=>(#[]:Array kL))).update D (pW λ_=>(pp.map λi=>vs.getD i .none).toArray),toks:=s'.toks}:=⟨_,_,rfl,λa o n e=>kpF a o n e⟩;have fB:∀a,(a=kS\/a=D)->a=fa\/a=D\/a=kS:=λa z=>z.elim (λz=>.inr (.inr z)) λz=>.inr (.inl z);have JF:=J.nx (B':=B) (λa z=>bb a (fB a z)) xF (λa z y=>TZ a z (fB a y)) (λa z=>by rw[<-T0];exact .inl z) (λa z y=>by obtain⟨o,e⟩:=t1.1.bd a z;rw[nB a (fB a y)] at e;cases e) λa z=>z.elim (I.bt a) λz=>(I.rb a z).1
  have gF:Gd (X.O B1 ow) s'.heap (λa=>X.O B ow a\/a=D) ((s'.heap.update kS (pW λ_=>(#[]:Array kL))).update D (pW λ_=>(pp.map λi=>vs.getD i .none).toArray)):=λa o e n=>⟨kpF a o (λz=>n (.inl (bb a (fB a z)))) e,λz=>n (z.elim (λz=>z.imp (λz=>by rw[<-T0];exact .inl z) id) λz=>.inl (bb a (.inr (.inl z))))⟩
  exact⟨⟨JF,t1.2.then (xF.st t λa z=>nB a (fB a z))⟩,D,rfl,t1.2.free (nB D (.inr (.inl rfl))),_,_,o5,by rw[kJ,hp.length_eq,pE];exact zl,Rs.go gF _ _ rp⟩
 ·obtain⟨c3,oc,vf,tk,e2,e3,e4⟩:=dN
  cases e2;exact⟨_,oc,vf,tk,rfl,kk _ _ e3,e4⟩
end
section
variable{X:Cx}{G:Gx}{O:AP}{h:Heap}{d:Dt}{v:kL}
theorem qu{k:List (Int×Int)}(e:R3 d=some k)(r:R G O h d v):jc h v k:=by
 cases d<;>first|cases e|skip
 rename_i ds
 obtain⟨p,vs,n,rfl,el,_,rs⟩:=RT.lst (.inl r);have lk:k.length=ds.length:=YI e;refine⟨p,vs,n,rfl,el,by rw[<-rs.len,lk],λi u kk hu hk=>?_⟩
 obtain⟨d',h1,h2⟩:=Vn e hk;obtain⟨u',h3,r'⟩:=rs.get h1;rw[hu] at h3;cases h3;exact vE h2 r'
def zb9{a b:Int×Int}(x:yq h v [a.1,a.2])(y:yq h v [b.1,b.2]):a=b:=by
 obtain⟨p,bE,n,dd,sl,rfl,o,i⟩:=x;obtain⟨a',eZ,n',A4,D2,e2,o',i'⟩:=y
 cases e2;rw[o] at o';cases o';have:=ZL i i'
 simp at this
 exact Qo this.1 this.2
theorem zav{a b:List (Int×Int)}(x:jc h v a)(y:jc h v b):a=b:=by
 obtain⟨p,bE,n,rfl,o,l,i⟩:=x;obtain⟨p',eZ,n',e2,o',l',i'⟩:=y
 cases e2;rw[o] at o';have e:bE.toArray=eZ.toArray:=by injection o' with o';injection o' with _ _ o';injection o'
 have e:bE=eZ:=by simpa using e
 subst e;refine Gi (by lia) λj h1 h2=>?_
 have hj:j<bE.length:=by lia
 exact zb9 (i j _ _ (kH hj) (kH h1)) (i' j _ _ (kH hj) (kH h2))
theorem kyL(hu:X.A.units+80<a7):TV X R3 cV:=⟨⟨Jx,zab,Zg⟩,⟨oneType',λs O ks h2 hv Q' q=>zdc h2 (λv m=>let⟨d,k,e,r⟩:=hv v m;⟨k,qu e r⟩) q,λs O d d' k k' v v' C e e' r r' c=>OX (qu e r) (qu e' r') (by show X.A.units+1+1+70<_;lia) c⟩,λe e' r r'=>zav (qu e r) (qu e' r')⟩
end
def vT{A:Qd}{k:Nat}(hr:zK k A):A.units+64<a7:=hr.units
theorem O1{A:Qd}{k:Nat}(hr:zK k A):A.units+80<a7:=by have:=hr.un;lia
open PySem.W (kla_fn kla_obj envX tabObj CodeHd)
section
variable{P:Qq}{w:World}{A:Qd}{env:Env}{Iv:kR->Prop}{fa:Addr}{p:Int->Option Bool}{mm:Str->Option kL}{s:kR}{x:Str}{u:kL}{pos:Pos}
theorem O4{n r:Int}{m:Nat}{j1 j2 j3:Nat}{q1 q2 q3 q4 q5 q6 q7 q8 q9 q10 q11 q12 q13 q14 q15 q16 q17 q18 q19 q20 q21 q22 q23 q24 q25 q26 q27 q28 q29 q30 q31:Pos}(hk:env.scope.kind=.function)(hl:∀y∈(["many","is_past","low","high","middle"]:List Str),env.kindOf y=some .local)
  (kp:∀s h' tk mm,Iv s->UQ env.locals s.heap h'->h'.Ns env.locals mm->Iv {s with heap:=h',toks:=tk})(tk:∀s t,Iv s->Iv {s with toks:=t})
  (ob:∀s,Iv s->∃o fd,s.heap.get? fa=some o/\o.data=.func fd) (ask:∀s i t b,Iv s->p i=some b->ν (ο P w) A (call (.ref fa) [.int i t]) (λv s'=>v=.bool b/\Iv s'/\∀o,s.heap.get? env.locals=some o->s'.heap.get? env.locals=some o) nE s)
  (iv:Iv s) (hn:s.heap.Ns env.locals mm) (h1:mm "many"=some (.int n t)) (h2:mm "is_past"=some (.ref fa)) (hr:Im p m 0 n=some r):
  ν (ο P w) A (execs [.Assign [.Name "low" q1] (.Constant (.int 0) j1 q2) q3,.Assign [.Name "high" q4] (.Name "many" q5) q6,
   .While (.Compare (.Name "low" q7) [.Lt] [.Name "high" q8] q9) [.Assign [.Name "middle" q10] (.BinOp (.BinOp (.Name "low" q11) .Add (.Name "high" q12) q13) .FloorDiv (.Constant (.int 2) j2 q14) q15) q16,
    .If (.Call (.Name "is_past" q17) [.Name "middle" q18] [] q19) [.Assign [.Name "high" q20] (.Name "middle" q21) q22] [.Assign [.Name "low" q23] (.BinOp (.Name "middle" q24) .Add (.Constant (.int 1) j3 q25) q26) q27] q28] [] q29,.Return (some (.Name "low" q30)) q31] env) (λfl s'=>(∃t,fl=.ret (.int r t))/\Iv s') nE s:=by
 have ld:∀{x u pos s mm}{Q:kL->kR->Prop},s.heap.Ns env.locals mm->x∈(["many","is_past","low","high","middle"]:List Str)->(x==("__debug__":Str))=false->mm x=some u->Q u s->ν (ο P w) A (eval (.Name x pos) env) Q nE s:=λhn m d e q=>Cd (Ek hk (hl _ m) hn e q) d;have sv:∀{x u s mm}{Q:Unit->kR->Prop},Iv s->s.heap.Ns env.locals mm->x∈(["many","is_past","low","high","middle"]:List Str)->(∀s',Iv s'->s'.heap.Ns env.locals (λy=>if y=x then some u else mm y)->Q () s')->ν (ο P w) A (GX env x u) Q nE s:=λiv hn m q=>Ea (hl _ m) hn (λh' Ir sb=>q _ (kp _ h' _ _ iv sb Ir) Ir) (by rw[hk];rfl)
 refine Qx (gC (BO (sv (tk _ _ iv) hn (by simp) λs1 OU RC=>?_)) rfl)
 refine Qx (gC (ld RC (by simp) (by decide) (u:=.int n t) ((η (by decide)).trans h1) (sv OU RC (by simp) λs2 nJ KA=>?_)) rfl)
 refine Qx (wpAny_While (Fz (λk s'=>∃lo hi tl th mm,Iv s'/\s'.heap.Ns env.locals mm/\mm "low"=some (.int lo tl)/\mm "high"=some (.int hi th)/\mm "is_past"=some (.ref fa)/\Im p k lo hi=some r) ?_ m ⟨0,n,_,_,_,nJ,KA,(η (by decide)).trans (θ rfl),θ rfl,(η (by decide)).trans ((η (by decide)).trans h2),hr⟩))
 rintro k s3 ⟨lo,hi,tl,th,mm,RD,RF,e1,e2,e3,q⟩
 cases k with
 |zero=>cases q
 |succ k=>
  rw[Im] at q;refine Uk .never (Bv (ld RF (by simp) (by decide) e1 (ld RF (by simp) (by decide) e2 (Df (UG ?_)))) (a9 _))
  by_cases c:lo<hi
  ·rw[θ c] at q;obtain⟨b,q1,q⟩:=kA.mp q;rw[ζ c,θ rfl];refine Uk .never (Qx (gC (DF (DF (ld RF (by simp) (by decide) e1 (ld RF (by simp) (by decide) e2 (add_int (BO ?_)))))) rfl))
   refine floordiv_int (by decide) ?_ (.inl (DR (by decide)))
   rw[Av _ (by decide)]
   refine sv (tk _ _ (tk _ _ (tk _ _ RD))) RF (by simp) λs4 iv4 hn4=>?_
   have hob:=ob s4 iv4;obtain⟨o,fd,ho,hd⟩:=hob;refine Qx (wpAny_If (isTrue_plain (QI (ld hn4 (by simp) (by decide) (u:=.ref fa) ((η (by decide)).trans e3) ?_)) rfl))
   refine Calls.callWith_function (o:=o) (fd:=fd) (Eo ?_);refine uZ (ld hn4 (by simp) (by decide) (θ rfl) (Qb ⟨⟨ho,hd⟩,ax (ask s4 _ _ b iv4 q1) λv s5 hw=>?_⟩))
   obtain⟨e,iv5,k5⟩:=hw;subst e;have RG:=hn4;obtain⟨o4,es,ep,e4,z4⟩:=RG;have RG:s5.heap.Ns env.locals _:=⟨o4,es,ep,k5 _ e4,z4⟩;refine UG ?_
   cases b with
   |true=>exact Qx (gC (ld RG (by simp) (by decide) (θ rfl) (sv iv5 RG (by simp) λs6 iv6 hn6=>Uj (Uj ⟨k,CD k,lo,(lo+hi)/2,_,_,_,iv6,hn6,(η (by decide)).trans ((η (by decide)).trans e1),θ rfl,(η (by decide)).trans ((η (by decide)).trans e3),q⟩))) rfl)
   |false=>exact Qx (gC (DF (ld RG (by simp) (by decide) (θ rfl) (BO (add_int (sv (tk _ _ (tk _ _ iv5)) RG (by simp) λs6 iv6 hn6=>Uj (Uj ⟨k,CD k,(lo+hi)/2+1,hi,_,_,_,iv6,hn6,θ rfl,(η (by decide)).trans ((η (by decide)).trans e2),(η (by decide)).trans ((η (by decide)).trans e3),q⟩)))))) rfl)
  ·rw[η c] at q
   cases q;rw[ι c,η (by decide)]
   exact Uj (Qx (Fx (ld RF (by simp) (by decide) e1 ⟨⟨_,rfl⟩,RD⟩)))
end
def MH{h:Heap}{a:Addr}{mm:Str->Option kL}(n:h.Ns a mm):∃o,h.get? a=some o/\∀z,o.data≠.fields z:=by
 obtain⟨o,es,ep,e,q,_⟩:=n;exact⟨o,e,λz y=>by rw[q] at y;cases y⟩
section
variable{X:Cx}{m:Bool}{a body:Expr}{p pos sS:Pos}{params:FT}{sc:Scope}{f g:En->Option Dt}{k:Nat}{x px:Str}{st:Stmt}{fh:Addr}{fd:Qn}{P c0:Addr}{clos:List (Str×Addr)}{js:List Nat}{j1 j2 j3:Nat}{q1 q2 q3 q4 q5 q6 q7 q8 q9 q10 q11 q12 q13 q14 q15 q16 q17 q18 q19 q20 q21 q22 q23 q24 q25 q26 q27 q28 q29 q30 q31:Pos}
def JP(F:zi X.K X.mg x st ["many","is_past"] fh fd)(SF:zj ["many","is_past","low","high","middle"] ["many","is_past"] (zd st))(hr:zK (k+2) X.A)(ha:PE X true a g)(S:xL px (clos.map pG) sc)(CA:fT X clos js)(F6:EM sc X.env=pure clos)(E7:Hc params X.env=([],[]))(fE:X.env.code=.ref c0)
  (sT:∀(pm cd fF u:kL),BF (kla_fn "<lambda>" (X.env.qual++"<lambda>") params body sc clos pm cd fF) ⟨[u],[]⟩=pure [(px,u)])(dP:∀fa c' A a rb,zK k (wK X.toGx px (clos.map pG) (X.env.qual++"<lambda>") sc fa (.ref c') clos A a rb).A->PE (wK X.toGx px (clos.map pG) (X.env.qual++"<lambda>") sc fa (.ref c') clos A a rb) false body f)(LA:vF X.toGx c0 P sS (X.env.qual++"<lambda>"))
  (hlc:∀y∈(["many","is_past","low","high","middle"]:List Str),(zd st).names.lookup y=some .local:=by decide+kernel)
  (hbd:yK st=[.Assign [.Name "low" q1] (.Constant (.int 0) j1 q2) q3,.Assign [.Name "high" q4] (.Name "many" q5) q6,
   .While (.Compare (.Name "low" q7) [.Lt] [.Name "high" q8] q9) [.Assign [.Name "middle" q10] (.BinOp (.BinOp (.Name "low" q11) .Add (.Name "high" q12) q13) .FloorDiv (.Constant (.int 2) j2 q14) q15) q16,
    .If (.Call (.Name "is_past" q17) [.Name "middle" q18] [] q19) [.Assign [.Name "high" q20] (.Name "middle" q21) q22] [.Assign [.Name "low" q23] (.BinOp (.Name "middle" q24) .Add (.Constant (.int 1) j3 q25) q26) q27] q28] [] q29,.Return (some (.Name "low" q30)) q31]:=by rfl)
  (hg:Gl X x:=by rfl) (tO:(x==("__debug__":Str))=false:=by decide) (he:pO [a,.Lambda params body sc sS] X.env=(false,eval a X.env)::(false,eval (.Lambda params body sc sS) X.env)::[]:=by rfl):
  PE X m (.Call (.Name x p) [a,.Lambda params body sc sS] [] pos) (wu js f g):=λB π Z ow s dd I q=>by
 obtain⟨d0,r1,q⟩:=kA.mp q;obtain⟨n,r2,q⟩:=kA.mp q;obtain⟨ss,r3,q⟩:=kA.mp q;obtain⟨r,r4,q⟩:=kA.mp q
 cases q
 cases d0<;>cases r2
 refine QI (W6 I hg F.mg ?_ tO);refine Ck (h₀:=X.base) I.ok.mod.kin F.kp ?_ (by rw[he];rfl) (by rfl)
 rw[he];refine uZ (ax (ha B π Z ow s _ I r1) λu s1 hw=>?_);obtain⟨t1,ru⟩:=hw;obtain⟨tn,rfl⟩:=RT.int ru;refine uZ (za1 t1.1 fE LA.hd LA.bl F6 E7 LA.lm λfa c' fF s2 t2 nfa B0 dN ncc=>Qb ⟨t2.1.kin,?_⟩);obtain⟨nH,Fn⟩:=F.fn;obtain⟨oc,od,kV,doc,pm,an,ct,NX,rfl,lk,hcdv⟩:=Fn.ex;have SH:s2.heap.NoLimit:=t2.1.ok.mod.nolimit.keeps t2.1.base;refine EJ (Eb hr.depth (t2.1.kin _ _ lk) rfl SF.co SF.gen rfl (Fk t2.1.kin hcdv) (F.bn s2 [.int n tn,.ref fa] t2.1.kin rfl _ _ _ _ ?_));refine Cj SF.kind (λy hy=>.inl (hlc y.1 ?_)) λenv hen s3 x3=>?_
 ·simp at hy;rcases hy with rfl|rfl<;>simp
 subst hen;refine⟨SH.keeps x3.toInCall.keep,codeAny_func ?_⟩;have E8:=x3.toInCall.ns;obtain⟨h3,tk3,rfl,kk⟩:=x3.done;have t3:Sx X B π Z ow s1 {s2 with heap:=h3,toks:=tk3}:=t2.trans (t2.1.kept kk);have nL:s2.heap.get? s2.heap.objs.size=none:=fu;have nB:∀a,(a=fa\/a=s2.heap.objs.size)->s1.heap.get? a=none:=λa z=>by rcases z with rfl|rfl;exact nfa;exact t2.2.free nL
 have faL:fa≠s2.heap.objs.size:=λz=>by rw[z,nL] at B0;cases B0
 have K0:=t1.1.newp (B':=λa=>a=fa\/a=s2.heap.objs.size) t3 nB λa z=>by
  rcases z with rfl|rfl
  ·exact⟨_,kk _ _ B0,λz h=>nomatch h⟩
  ·exact MH E8
 have nfF:=t1.1.nf (F:=λa=>a=fa\/a=s2.heap.objs.size) nB;have hfo3:=kk _ _ B0;have hcd3:h3.CodeRec (.ref c') (X.env.qual++"<lambda>"):=by
  obtain⟨c3,oc3,vf,tk,e2,e3,e4⟩:=dN
  cases e2;exact⟨_,oc3,vf,tk,rfl,kk _ _ e3,e4⟩
 have ncL:¬X.O (λa=>B a\/(a=fa\/a=s2.heap.objs.size)) ow c':=λz=>by
  obtain⟨c2,oc2,vf,tk,e2,e3,e4⟩:=_root_.id dN
  cases e2;refine ncc (z.imp (λz=>?_) id);rcases z with z|rfl|rfl
  ·exact z
  ·rw[B0] at e3;cases e3;cases e4.1
  ·rw[nL] at e3;cases e3
 generalize hL:s2.heap.objs.size=Lo at*;rw[hbd];have kpI:∀(s0:kR)(s':kR),(Inv X (λa=>B a\/(a=fa\/a=Lo)) π Z ow s0/\St X.toGx bL s1 s0/\s0.heap.get? fa=some (kla_obj "<lambda>" (X.env.qual++"<lambda>") params body sc clos ((X.mg "__name__").getD .none) c' fF)/\s0.heap.CodeRec (.ref c') (X.env.qual++"<lambda>"))->Nx (λa=>a=Lo) s0 s'->(∃o,s'.heap.get? Lo=some o)->
   (Inv X (λa=>B a\/(a=fa\/a=Lo)) π Z ow s'/\St X.toGx bL s1 s'/\s'.heap.get? fa=some (kla_obj "<lambda>" (X.env.qual++"<lambda>") params body sc clos ((X.mg "__name__").getD .none) c' fF)/\s'.heap.CodeRec (.ref c') (X.env.qual++"<lambda>")):=λs0 s'⟨J,t,o1,o2⟩ nx ex=>by
  refine⟨J.nx (F:=λa=>a=Lo) (λa z=>.inr (.inr z)) nx (λa z y=>nfF a z (.inr y)) (λ_ z=>z) (λa _ z=>z▸ex) λa z=>z.elim (J.bt a) λz=>(J.rb a z).1,nx.st t λa z=>nB a (.inr z),?_,?_⟩
  ·obtain⟨h',tk,rfl,kp⟩:=nx;exact kp fa _ faL o1
  ·obtain⟨h',tk,rfl,kp⟩:=nx;obtain⟨c2,oc2,vf,tk,e2,e3,e4⟩:=o2
   cases e2;exact⟨_,oc2,vf,tk,rfl,kp c' _ (λz=>ncL (.inl (.inr (.inr z)))) e3,e4⟩
 refine Qr (O4 (env:=CR x (zd st) Lo fh nH) (Iv:=λs'=>Inv X (λa=>B a\/(a=fa\/a=Lo)) π Z ow s'/\St X.toGx bL s1 s'/\s'.heap.get? fa=some (kla_obj "<lambda>" (X.env.qual++"<lambda>") params body sc clos ((X.mg "__name__").getD .none) c' fF)/\s'.heap.CodeRec (.ref c') (X.env.qual++"<lambda>")) (p:=λk=>(f (.fz (.int k)::ss)).bind H1) (show(zd st).kind=_ from SF.kind) (λy hy=>show(zd st).names.lookup y=_ from hlc y hy) (λs0 h' tk mm J sb hn=>?_) (λs0 t J=>?_) (λs0 J=>⟨_,_,J.2.2.1,rfl⟩) (λs0 i t b J hp=>?_) ⟨K0,t3.2,hfo3,hcd3⟩ E8 (YM (i:=0) (by decide) rfl rfl (hlc _ (by simp))) (YM (i:=1) (by decide) rfl rfl (hlc _ (by simp))) r4) (λfl s'⟨⟨t,e⟩,J⟩=>?_) λ_ _ z=>z.elim
 ·exact kpI s0 _ J ⟨h',tk,rfl,λb o n e=>(sb.2 b n).trans e⟩ (let⟨o,e,_⟩:=MH hn;⟨o,e⟩)
 ·obtain⟨o,e⟩:=J.1.bd Lo (.inr (.inr rfl));exact kpI s0 _ J ⟨s0.heap,t,rfl,λb o n e=>e⟩ ⟨o,e⟩
 ·obtain⟨J,t0,o1,o2⟩:=J;obtain⟨x0,e1,e2⟩:=kA.mp hp;refine ax (ZO J hr.hd (hr.deeper _).depth S CA o1 o2 (sT _ _ _ _) (.int (t:=t)) (dP _ _ _ _ _ ((hr.deeper _).deeper _)) r3 e1) λv s' hw=>?_;obtain⟨t4,r4⟩:=hw
  cases x0<;>cases e2
  have D5:∀a o,s0.heap.get? a=some o->¬X.T a->s'.heap.get? a=some o:=λa o e n=>t4.2.kp a o e id n;refine⟨by rw[R] at r4;exact r4,⟨t4.1,t0.then t4.2,D5 _ _ o1 λz=>nfF fa (.inr (.inr (.inl z))) (.inl rfl),?_⟩,λo e=>D5 _ _ e λz=>nfF Lo (.inr (.inr (.inl z))) (.inr rfl)⟩
  obtain⟨c2,oc2,vf,tk,e2,e3,e4⟩:=o2
  cases e2;exact⟨_,oc2,vf,tk,rfl,D5 c' _ e3 λz=>ncL (.inl (J.bt c' z)),e4⟩
 ·subst e;exact⟨t1.trans ⟨J.1.less (λ_=>.inl) t1.1.bt λa z=>(t1.1.rb a z).1,J.2.1⟩,.of .int⟩
end
open PySem.W (kla_fn kla_obj envX tabObj CodeHd)
noncomputable def jJ(a b:Dt):Option Dt:=(tX a).bind λx=>(tX b).bind λy=>some (.bool (!lt2 x y))
section
variable{X:Cx}{m:Bool}{a b:Expr}{f g:En->Option Dt}{pos:Pos}
theorem T1(hu:X.A.units+64<a7):Z2 X (Qp .GtE) jJ:=λB π Z ow s a b d v u I q ra rb=>by
 obtain⟨x,e1,q⟩:=kA.mp q;obtain⟨y,e2,q⟩:=kA.mp q
 cases q
 have tp:∀{d v k},tX d=some k->RT X.toGx (X.O B ow) s.heap d v->yq s.heap v [k.1,k.2]:=λe r=>vE e (r.elim id λ⟨_,_,z⟩=>by unfold tX at e;split at e<;>first|exact z.elim|cases e)
 obtain⟨p,bE,n,dd,sl,rfl,ho,i1⟩:=tp e1 ra;obtain⟨p',eZ,n',A4,D2,rfl,Mf,i2⟩:=tp e2 rb;refine EQ (op:=.GtE) ⟨_,ho,rfl⟩ ⟨_,Mf,rfl⟩ PySem.F.slot_tuple_ge PySem.F.entry_tuple_ge (PySem.F.args_tuple_ge_2 _ _) (Zv true p p' bE eZ n n' dd A4 sl D2 [x.1,x.2] [y.1,y.2] rfl i1 i2) ⟨ho,Mf,(λz=>nomatch z),?_⟩ (by lia)
 rw[Hm,TS];exact⟨I.sx,.bl⟩
def O5(hu:X.A.units+64<a7)(ha:PE X true a f)(hb:PE X true b g):PT X (.Compare a [.GtE] [b] pos) (dB (d2 jJ f g)):=A0 (T1 hu) ha hb (a9 _)
end
section
variable{X:Cx}{κ:Type}{of:Dt->Option κ}{lt:κ->κ->Bool}{df:κ}{i0:Nat}{js:List Nat}{f g:En->Option Dt}{ga:En->Option (List Dt)}{e a:Expr}
def PF.le{f f':En->Option Dt}(h:PF X e f)(l:∀Z d,f' Z=some d->f Z=some d):PF X e f':=λB π Z ow s d I q=>h B π Z ow s d I (l Z d q)
theorem zac(h:PF X e (qC TW of lt df [i0] f (iL g))):PF X e (jN of lt df i0 f g):=h.le λZ d q=>by
 obtain⟨d0,q1,q⟩:=kA.mp q;obtain⟨ds,q2,q⟩:=kA.mp q;obtain⟨s0,q3,q⟩:=kA.mp q;obtain⟨d1,q4,q⟩:=kA.mp q;obtain⟨eV,q5,q⟩:=kA.mp q;obtain⟨kl,q6,q⟩:=kA.mp q;obtain⟨r,q7,q⟩:=kA.mp q;have c:xS [i0] Z=some [tK s0]:=by unfold xS zv zv;rw[q3];simp only[kB];rw[q4];rfl
 unfold Il at q7
 split at q7<;>cases q7
 unfold qC iL;rw[q1,kB,q2,kB,c,kB,q5,kB,q6,kB];unfold TW;rw[θ ‹_›];exact q
noncomputable def Yo{κ:Type}(of:Dt->Option κ)(lt:κ->κ->Bool)(df:κ)(js:List Nat)(f:En->Option Dt)(ga:En->Option (List Dt)):En->Option Dt:=λZ=>(ga Z).bind λds=>match ds with
 |[.int n]=>if 0<=n/\n<64 then(xS js Z).bind λss=>(zv (λi:Nat=>f (.fz (.int i)::ss)) (kM n.toNat)).bind λeV=>(zv of eV).bind λks=>some (.list ((yP n.toNat λi j=>lt (ks.getD i df) (ks.getD j df)).map λi:Nat=>.int i)) else none
 |_=>none
theorem Zl{α β γ:Type}{f:β->Option γ}{g:α->β}:∀{as:List α},zv f (as.map g)=zv (λa=>f (g a)) as
 |[]=>rfl
 |a::as=>by unfold zv;rw[kN];simp only[zv];rw[Zl]
theorem Zp(h:PF X e (qC F5 of lt df js f (iC bG ga))):PF X e (Yo of lt df js f ga):=h.le λZ d q=>by
 obtain⟨ds,q1,q⟩:=kA.mp q
 split at q
 ·rename_i n
  split at q
  ·rename_i c
   obtain⟨ss,q2,q⟩:=kA.mp q;obtain⟨eV,q5,q⟩:=kA.mp q;obtain⟨ks,q6,q⟩:=kA.mp q;have c62:(64:Int)<2^62:=by decide
   have e1:bG [.int n]=some ((kM n.toNat).map λk:Nat=>.int k):=θ ⟨by lia,by omega,uK (by lia:n.toNat<=64) (by decide)⟩
   have e2:F5 n.toNat (λi j=>lt (ks.getD i df) (ks.getD j df))=some (yP n.toNat λi j=>lt (ks.getD i df) (ks.getD j df)):=θ (by omega)
   unfold qC iC;rw[q1,kB,e1,kB,q2,kB,Zl,q5,kB,q6,kB,kJ,pE,e2,<-q];show some _=some _;rw[Ba,Dt.list.injEq];refine UF λi hi=>?_;have hi:=pe.mp (Wh.mem_iff.mp hi);rw[kG,kX,uM hi];rfl
  ·cases q
 ·cases q
end
open PySem.W (kla_fn kla_obj envX tabObj CodeHd)
section
variable{G:Gx}{N ps:List Str}{x:Str}{st:Stmt}{f c:Addr}{fd:Qn}{k:Nat}{fs:En->Option Ou}
def zi.okD(T:zi G.K G.mg x st ps f fd)(Sc:zj N ps (zd st))(hb:∀cd A a,zK k (A.deeper (CR x (zd st) a f cd))->PSs (y5 G N x (zd st) f cd A a) (yK st) fs):zm G (k+1) f fd ps (bx N.length ps.length fs):=let⟨cd,F⟩:=T.fn;F.okD Sc (hb cd)
def zi.okW(T:zi G.K G.mg x st ps f fd)(Sc:zj N ps (zd st))(hb:∀cd A a,zK k (A.deeper (CR x (zd st) a f cd))->PSs (y5 G N x (zd st) f cd A a) (yK st) fs):FnW G (k+1) f fd ps (vg N.length ps.length fs):=let⟨cd,F⟩:=T.fn;F.okW Sc (hb cd)
end
theorem Wf{fg:List Nat}{c:En->Option Bool}{b:En->Option Ou}:∀{n:Nat}{Z:En}{o:Ou},di fg c b n Z=some o->di fg c b (n+1) Z=some o
 |0,Z,o,h=>by cases h
 |n+1,Z,o,h=>by
  rw[di] at h⊢;obtain⟨t,q1,h⟩:=kA.mp h;rw[q1];show(if t=true then _ else _)=_
  cases t with
  |false=>exact h
  |true=>
   rw[θ rfl] at h⊢;obtain⟨o1,q2,h⟩:=kA.mp h;rw[q2]
   cases o1 with
   |nx cQ=>exact Wf h
   |ct cQ=>exact Wf h
   |bk cQ=>exact h
   |rt d _=>exact h
theorem qA{fg:List Nat}{c:En->Option Bool}{b:En->Option Ou}{Z:En}{o:Ou}{n:Nat}(h:di fg c b n Z=some o):∀k,di fg c b (n+k) Z=some o
 |0=>h
 |k+1=>Wf (qA h k)
open Classical in
noncomputable def vh(fg:List Nat)(c:En->Option Bool)(b:En->Option Ou):En->Option Ou:=λZ=>if h:∃n o,di fg c b n Z=some o then some h.choose_spec.choose else none
variable{b:En->Option Ou}{fg:List Nat}
def zcr{c:En->Option Bool}{Z:En}{o:Ou}{n:Nat}(h:di fg c b n Z=some o):vh fg c b Z=some o:=by
 have e:∃n o,di fg c b n Z=some o:=⟨n,o,h⟩;unfold vh;rw[dif_pos e];have h2:=e.choose_spec.choose_spec;have h3:=qA h e.choose;have h4:=qA h2 n;rw[Hy,h3] at h4;exact h4.symm
theorem zce{c:En->Option Bool}{Z:En}{o:Ou}(h:vh fg c b Z=some o):∃n,di fg c b n Z=some o:=by
 unfold vh at h
 split at h
 ·rename_i e;cases h;exact⟨_,e.choose_spec.choose_spec⟩
 ·cases h
variable{pos:Pos}
def B3{X:Cx}{e:Expr}{body:List Stmt}{c:En->Option Bool}{F:En->Option Ou}(fg:List Nat)(hc:PT X e c)(hb:PSs X body F):PS X (.While e body [] pos) (vh fg c F):=λB π Z ow s o I q=>let⟨n,q⟩:=zce q;sJ n fg hc hb B π Z ow s o I q
def qB{x:Str}{ys:List Str}{sc:Scope}(k:sc.kind=.function)(h:sc.isCoroutine=false/\sc.isGenerator=false/\(∀y∈sc.names,y.2≠BI)/\sc.names.lookup x=some .local/\(∀y∈sc.names,y.2=QF->y.1∈ys)/\∀y∈ys,sc.names.lookup y=some .free):xL x ys sc:=⟨k,h.1,h.2.1,h.2.2.1,h.2.2.2.1,h.2.2.2.2.1,h.2.2.2.2.2⟩
section
variable{X:Cx}{clos:List (Str×Addr)}{js:List Nat}{y:Str}{c:Addr}{j:Nat}
def fT.nil:fT X [] []:=⟨rfl,λi _ _ _ h=>by simp at h,(λ_ _ h=>nomatch h),λi _ _ h=>by simp at h⟩
theorem fT.cons(h:fT X clos js)(hN:X.N[j]?=some y)(hk:X.env.scope.names.lookup y=some .cell\/X.env.scope.names.lookup y=some .free)(hc:X.env.cells.lookup y=some c)(nd:(clos.map pG).all (λz=>z !=y)=true:=by rfl):fT X ((y,c)::clos) (j::js):=by
 have nd:∀p∈clos,p.1≠y:=λp m=>by have:=Ut.mp nd p.1 (kh.mpr ⟨p,m,rfl⟩);simpa using this
 refine⟨by rw[kZ,kZ,h.len],λi y' c' j' h1 h2=>?_,λy' c' e=>?_,λi y' c' h1=>?_⟩
 ·cases i with
  |zero=>cases h1;cases h2;exact⟨hN,hk,hc⟩
  |succ i=>exact h.ix i y' c' j' (by simpa using h1) (by simpa using h2)
 ·rw[QZ] at e
  by_cases z:y'=y
  ·subst z;rw[χ] at e;cases e;exact hc
  ·rw[beq_eq_false_iff_ne.mpr z] at e;exact h.sub y' c' e
 ·cases i with
  |zero=>cases h1;rw[QZ,χ]
  |succ i=>
   have h1:clos[i]?=some (y',c'):=by simpa using h1
   rw[QZ,beq_eq_false_iff_ne.mpr (nd _ (kT h1))];exact h.has i y' c' h1
end
def jV{G:Gx}{P:Addr}{q:Str}(nd:(G.tb.map pG).Nodup)(m:(P,pos,q)∈G.tb):OH G P pos q:=⟨m,λt h e=>by
 obtain⟨i,hi,ei⟩:=uA.mp h;obtain⟨j,hj,ej⟩:=uA.mp m;have:i=j:=by
  have e1:(G.tb.map pG)[i]'(by simpa using hi)=(G.tb.map pG)[j]'(by simpa using hj):=by rw[Gp,Gp,ei,ej];exact e
  exact(Dg nd).mp e1
 subst this;rw[<-ei,ej]⟩
theorem RH{A:Qd}{env:Env}{k:Nat}(hr:zK k A):(A.in1.in1.deeper env).units+64<a7:=by
 have:=hr.un;show A.units+1+1+3+64<a7;lia
noncomputable def H9(x:Str)(st:Stmt):Str:=(CR x (zd st) 0 0 .none).qual++"<lambda>"
end L2
namespace Mine
open PySem L2
namespace Nu
noncomputable def top(i:Nat):Stmt:=PySem.Challenge.pw_acre_k27_whole_the_same_land.main.body.getD i (.Pass ⟨0,0,0,0⟩)
abbrev Wl:Stmt:=top 5
def zc1:zj ["thing"] ["thing"] (zd Wl):=zo rfl (by decide+kernel)
abbrev WC:Stmt:=top 6
def zb0:zj ["one","other","great","small","rest"] ["one","other"] (zd WC):=zo rfl (by decide+kernel)
abbrev X8:Stmt:=top 8
def zdz:zj ["x","y","w","factor"] ["x","y","w"] (zd X8):=zo rfl (by decide+kernel)
abbrev XE:Stmt:=top 9
def zco:zj ["P","Q","left","right"] ["P","Q"] (zd XE):=zo rfl (by decide+kernel)
abbrev Ww:Stmt:=top 10
def zd1:zj ["number"] ["number"] (zd Ww):=zo rfl (by decide+kernel)
abbrev Vj:Stmt:=top 11
def zdd:zj ["P","Q"] ["P","Q"] (zd Vj):=zo rfl (by decide+kernel)
abbrev Wy:Stmt:=top 12
def ze9:zj ["line","P"] ["line","P"] (zd Wy):=zo rfl (by decide+kernel)
abbrev Xo:Stmt:=top 13
def KO:zj ["P","Q","R"] ["P","Q","R"] (zd Xo):=zo rfl (by decide+kernel)
abbrev Wx:Stmt:=top 14
def O6:zj ["one","other","w","x","y"] ["one","other"] (zd Wx):=zo rfl (by decide+kernel)
abbrev Wa:Stmt:=top 15
def KP:zj ["P","Q"] ["P","Q"] (zd Wa):=zo rfl (by decide+kernel)
abbrev Vk:Stmt:=top 16
def zci:zj ["points","greatest","scale","keys","P"] ["points"] (zd Vk):=zo rfl (by decide+kernel)
abbrev ju:Stmt:=top 17
def zcq:zj ["points","keys"] ["points"] (zd ju):=zo rfl (by decide+kernel)
abbrev jg:Stmt:=top 18
def zd5:zj ["things","points","thing","keys"] ["things"] (zd jg):=zo rfl (by decide+kernel)
abbrev Vg:Stmt:=top 20
def za9:zj ["many","is_past","low","high","middle"] ["many","is_past"] (zd Vg):=zo rfl (by decide+kernel)
abbrev Vi:Stmt:=top 22
def zcs:zj ["P","Q"] ["P","Q"] (zd Vi):=zo rfl (by decide+kernel)
abbrev WW:Stmt:=top 23
def zcz:zj ["stretches","ends","S"] ["stretches"] (zd WW):=zo rfl (by decide+kernel)
abbrev WH:Stmt:=top 24
def KQ:zj ["one","other","line","sides","other_line","other_sides","end","side"] ["one","other"] (zd WH):=zo rfl (by decide+kernel)
abbrev WE:Stmt:=top 25
def zdy:zj ["one","other","first","second"] ["one","other"] (zd WE):=zo rfl (by decide+kernel)
abbrev W4:Stmt:=top 27
def zat:zj ["S"] ["S"] (zd W4):=zo rfl (by decide+kernel)
abbrev jM:Stmt:=top 28
def zd8:zj ["stretches","masks","lines","fans","told","standing","P","low","high","over","fan","number","level"] ["stretches","masks"] (zd jM):=zo rfl (by decide+kernel)
abbrev Wb:Stmt:=top 29
def zby:zj ["masks","mask","other"] ["masks"] (zd Wb):=zo rfl (by decide+kernel)
abbrev vV:Stmt:=top 30
def zbl:zj ["stretches","fans","number","S","fan","place"] ["stretches"] (zd vV):=zo rfl (by decide+kernel)
abbrev Vo:Stmt:=top 32
def zdl:zj ["stretches","lying"] ["stretches"] (zd Vo):=zo rfl (by decide+kernel)
abbrev WF:Stmt:=top 33
def zct:zj ["P","numbers","stretches","begins","through","ends"] ["P","numbers","stretches"] (zd WF):=zo rfl (by decide+kernel)
abbrev WT:Stmt:=top 34
def zbv:zj ["stretches","lying","number","S","P","one","other"] ["stretches"] (zd WT):=zo rfl (by decide+kernel)
abbrev Xz:Stmt:=top 35
def KR:zj ["lying","P","number"] ["lying","P","number"] (zd Xz):=zo rfl (by decide+kernel)
abbrev XU:Stmt:=top 36
def zbs:zj ["common"] ["common"] (zd XU):=zo rfl (by decide+kernel)
abbrev jB:Stmt:=top 37
def zdn:zj ["stretches","keys","lows","highs","lasts","pairs","standing","number","first","low","high","near"] ["stretches"] (zd jB):=zo rfl (by decide+kernel)
abbrev WR:Stmt:=top 38
def zcp:zj ["stretches","owners","reached","P","begins","through","ends","number"] ["stretches"] (zd WR):=zo rfl (by decide+kernel)
abbrev WA:Stmt:=top 40
def zbn:zj ["rings","sides","ring","P","Q"] ["rings"] (zd WA):=zo rfl (by decide+kernel)
abbrev XB:Stmt:=top 41
def zbe:zj ["rows","fences","S","left","right"] ["rows"] (zd XB):=zo rfl (by decide+kernel)
abbrev XQ:Stmt:=top 42
def zeh:zj ["fences","onward","told","first","second","last"] ["fences"] (zd XQ):=zo rfl (by decide+kernel)
abbrev Ve:Stmt:=top 43
def ze0:zj ["fences","coming","going","P","Q","onward"] ["fences"] (zd Ve):=zo rfl (by decide+kernel)
abbrev WU:Stmt:=top 44
def ze6:zj ["rings","odd"] ["rings"] (zd WU):=zo rfl (by decide+kernel)
abbrev Wq:Stmt:=top 45
def zch:zj ["stretches","told"] ["stretches"] (zd Wq):=zo rfl (by decide+kernel)
abbrev X0:Stmt:=top 47
def zdi:zj ["_law_script","_law_k"] ["_law_script","_law_k"] (zd X0):=zo rfl (by decide+kernel)
abbrev Wj:Stmt:=top 48
def zeg:zj ["_law_found"] ["_law_found"] (zd Wj):=zo rfl (by decide+kernel)
abbrev Xr:Stmt:=top 49
def zas:zj ["_law_x","_law_y","_law_w","_law_d"] ["_law_x","_law_y","_law_w"] (zd Xr):=zo rfl (by decide+kernel)
abbrev XI:Stmt:=top 50
def zdo:zj ["_law_cell","_law_far_here","_law_x","_law_y"] ["_law_cell","_law_far_here"] (zd XI):=zo rfl (by decide+kernel)
abbrev Wr:Stmt:=top 51
def zbj:zj ["_law_script","_law_at","_law_far_here","_law_rings_here","_law_k","_law_size"] ["_law_script","_law_at","_law_far_here"] (zd Wr):=zo rfl (by decide+kernel)
abbrev XW:Stmt:=top 52
def zc2:zj ["_law_cell"] ["_law_cell"] (zd XW):=zo rfl (by decide+kernel)
abbrev Wm:Stmt:=top 53
def zc3:zj ["_law_found","_law_due","_law_k"] ["_law_found","_law_due"] (zd Wm):=zo rfl (by decide+kernel)
abbrev Vb:Stmt:=top 54
def zd9:zj ["_law_script","_law_far_here"] ["_law_script","_law_far_here"] (zd Vb):=zo rfl (by decide+kernel)
abbrev WI:Stmt:=top 55
def zck:zj ["_law_ring","_law_cell","_law_at","_law_made"] ["_law_ring","_law_cell"] (zd WI):=zo rfl (by decide+kernel)
abbrev X4:Stmt:=top 56
def O7:zj ["_law_script","_law_far_here","_law_rings_here","_law_others","_law_k","_law_found"] ["_law_script"] (zd X4):=zo rfl (by decide+kernel)
structure Txt(G:Gx)(ad:Nat->Addr)(fd:Nat->Qn):Prop where
 is_whole:zi G.K G.mg "is_whole" Wl ["thing"] (ad 0) (fd 0)
 divisor:zi G.K G.mg "divisor" WC ["one","other"] (ad 1) (fd 1)
 point:zi G.K G.mg "point" X8 ["x","y","w"] (ad 2) (fd 2)
 before:zi G.K G.mg "before" XE ["P","Q"] (ad 3) (fd 3)
 sign_of:zi G.K G.mg "sign_of" Ww ["number"] (ad 4) (fd 4)
 line_of:zi G.K G.mg "line_of" Vj ["P","Q"] (ad 5) (fd 5)
 side_of:zi G.K G.mg "side_of" Wy ["line","P"] (ad 6) (fd 6)
 turn:zi G.K G.mg "turn" Xo ["P","Q","R"] (ad 7) (fd 7)
 met:zi G.K G.mg "met" Wx ["one","other"] (ad 8) (fd 8)
 amid:zi G.K G.mg "amid" Wa ["P","Q"] (ad 9) (fd 9)
 order_keys:zi G.K G.mg "order_keys" Vk ["points"] (ad 10) (fd 10)
 in_order:zi G.K G.mg "in_order" ju ["points"] (ad 11) (fd 11)
 in_order_c:tC G.K "in_order" "in_order" ju (ad 11) (fd 11) (.ref (ad 45))
 in_order_l:vF G (ad 45) (ad 46) ⟨66,34,66,51⟩ (H9 "in_order" ju)
 by_points:zi G.K G.mg "by_points" jg ["things"] (ad 12) (fd 12)
 by_points_c:tC G.K "by_points" "by_points" jg (ad 12) (fd 12) (.ref (ad 47))
 by_points_l:vF G (ad 47) (ad 48) ⟨72,30,72,68⟩ (H9 "by_points" jg)
 halved:zi G.K G.mg "halved" Vg ["many","is_past"] (ad 13) (fd 13)
 stretch:zi G.K G.mg "stretch" Vi ["P","Q"] (ad 14) (fd 14)
 ends_of:zi G.K G.mg "ends_of" WW ["stretches"] (ad 15) (fd 15)
 meet:zi G.K G.mg "meet" WH ["one","other"] (ad 16) (fd 16)
 meet_on_line:zi G.K G.mg "meet_on_line" WE ["one","other"] (ad 17) (fd 17)
 is_upright:zi G.K G.mg "is_upright" W4 ["S"] (ad 18) (fd 18)
 flanks:zi G.K G.mg "flanks" jM ["stretches","masks"] (ad 19) (fd 19)
 flanks_c:tC G.K "flanks" "flanks" jM (ad 19) (fd 19) (.ref (ad 49))
 flanks_l:vF G (ad 49) (ad 50) ⟨128,36,128,81⟩ (H9 "flanks" jM)
 mixed:zi G.K G.mg "mixed" Wb ["masks"] (ad 20) (fd 20)
 fans_of:zi G.K G.mg "fans_of" vV ["stretches"] (ad 21) (fd 21)
 fans_of_c:tC G.K "fans_of" "fans_of" vV (ad 21) (fd 21) (.ref (ad 51))
 fans_of_l:vF G (ad 51) (ad 52) ⟨149,33,149,85⟩ (H9 "fans_of" vV)
 stops:zi G.K G.mg "stops" Vo ["stretches"] (ad 22) (fd 22)
 stop_at:zi G.K G.mg "stop_at" WF ["P","numbers","stretches"] (ad 23) (fd 23)
 lying_at:zi G.K G.mg "lying_at" WT ["stretches"] (ad 24) (fd 24)
 note:zi G.K G.mg "note" Xz ["lying","P","number"] (ad 25) (fd 25)
 shared_ends:zi G.K G.mg "shared_ends" XU ["common"] (ad 26) (fd 26)
 near_pairs:zi G.K G.mg "near_pairs" jB ["stretches"] (ad 27) (fd 27)
 near_pairs_c:tC G.K "near_pairs" "near_pairs" jB (ad 27) (fd 27) (.ref (ad 53))
 near_pairs_l:vF G (ad 53) (ad 54) ⟨188,52,188,83⟩ (H9 "near_pairs" jB)
 pieces:zi G.K G.mg "pieces" WR ["stretches"] (ad 28) (fd 28)
 sides_of:zi G.K G.mg "sides_of" WA ["rings"] (ad 29) (fd 29)
 fences_of:zi G.K G.mg "fences_of" XB ["rows"] (ad 30) (fd 30)
 straightened:zi G.K G.mg "straightened" XQ ["fences"] (ad 31) (fd 31)
 straight_on:zi G.K G.mg "straight_on" Ve ["fences"] (ad 32) (fd 32)
 land_of:zi G.K G.mg "land_of" WU ["rings"] (ad 33) (fd 33)
 flanked:zi G.K G.mg "flanked" Wq ["stretches"] (ad 34) (fd 34)
 law_cell_at:zi G.K G.mg "_law_cell_at" X0 ["_law_script","_law_k"] (ad 35) (fd 35)
 law_whole:zi G.K G.mg "_law_whole" Wj ["_law_found"] (ad 36) (fd 36)
 law_lowest:zi G.K G.mg "_law_lowest" Xr ["_law_x","_law_y","_law_w"] (ad 37) (fd 37)
 law_point:zi G.K G.mg "_law_point" XI ["_law_cell","_law_far_here"] (ad 38) (fd 38)
 law_rings:zi G.K G.mg "_law_rings" Wr ["_law_script","_law_at","_law_far_here"] (ad 39) (fd 39)
 law_far:zi G.K G.mg "_law_far" XW ["_law_cell"] (ad 40) (fd 40)
 law_alike:zi G.K G.mg "_law_alike" Wm ["_law_found","_law_due"] (ad 41) (fd 41)
 law_far_ring:zi G.K G.mg "_law_far_ring" Vb ["_law_script","_law_far_here"] (ad 42) (fd 42)
 law_otherwise:zi G.K G.mg "_law_otherwise" WI ["_law_ring","_law_cell"] (ad 43) (fd 43)
 law:zi G.K G.mg "law" X4 ["_law_script"] (ad 44) (fd 44)
 b_abs:G.mg "abs"=none
 b_bool:G.mg "bool"=none
 b_enumerate:G.mg "enumerate"=none
 b_int:G.mg "int"=none
 b_isinstance:G.mg "isinstance"=none
 b_len:G.mg "len"=none
 b_list:G.mg "list"=none
 b_max:G.mg "max"=none
 b_min:G.mg "min"=none
 b_range:G.mg "range"=none
 b_reversed:G.mg "reversed"=none
 b_sorted:G.mg "sorted"=none
 b_tuple:G.mg "tuple"=none
 b_zip:G.mg "zip"=none
end Nu
noncomputable section
namespace Nu
noncomputable def qh:List Dt->Option Dt:=bx 1 1
  (aK (eU (d1 (zW "int") (dV 0)) (d1 Ih (d1 (zW "bool") (dV 0)))))
noncomputable def j9:List Dt->Option Dt:=bx 5 2
  (ao (ar 2 (aj vi (aa (dV 0) ae)))
  (ao (ar 3 (aj vi (aa (dV 1) ae)))
  (ao (jo 40000 [4] (dB (d2 wd (dV 3) (dC (.int 0)))) (ao (ar 4 (d2 zx (dV 2) (dV 3)))
  (ao (ar 2 (dV 3))
  (ar 3 (dV 4)))))
  (aK (dV 2)))))
noncomputable def qF:List Dt->Option Dt:=bx 4 3
  (ao (aC (Ri (cJ (dB (aj qh (aa (dV 0) ae)))) (Ri (cJ (dB (aj qh (aa (dV 1) ae)))) (cJ (dB (aj qh (aa (dV 2) ae)))))) qo bI)
  (ao (aC (dB (d2 zr (dV 2) (dC (.int 0)))) qo bI)
  (ao (ar 3 (aj j9 (aa (aj j9 (aa (dV 2) (aa (dV 0) ae))) (aa (dV 1) ae))))
  (ao (aC (dB (d2 nA (dV 2) (dC (.int 0)))) (ar 3 (d1 qc (dV 3))) bI)
  (aK (aN (aa (d2 zO (dV 0) (dV 3)) (aa (d2 zO (dV 1) (dV 3)) (aa (d2 zO (dV 2) (dV 3)) ae)))))))))
noncomputable def vn:List Dt->Option Dt:=bx 4 2
  (ao (ar 2 (d2 zn (d2 af (dV 0) (dC (.int 0))) (d2 af (dV 1) (dC (.int 2)))))
  (ao (ar 3 (d2 zn (d2 af (dV 1) (dC (.int 0))) (d2 af (dV 0) (dC (.int 2)))))
  (ao (aC (dB (d2 wd (dV 2) (dV 3))) (aK (d2 nA (dV 2) (dV 3))) bI)
  (aK (d2 nA (d2 zn (d2 af (dV 0) (dC (.int 1))) (d2 af (dV 1) (dC (.int 2)))) (d2 zn (d2 af (dV 1) (dC (.int 1))) (d2 af (dV 0) (dC (.int 2)))))))))
noncomputable def qU:List Dt->Option Dt:=bx 1 1
  (ao (aC (dB (d2 tW (dV 0) (dC (.int 0)))) (aK (dC (.int 1))) bI)
  (ao (aC (dB (d2 nA (dV 0) (dC (.int 0)))) (aK (d1 qc (dC (.int 1)))) bI)
  (aK (dC (.int 0)))))
noncomputable def vz:List Dt->Option Dt:=bx 2 2
  (aK (aN (aa (d2 yL (d2 zn (d2 af (dV 0) (dC (.int 1))) (d2 af (dV 1) (dC (.int 2)))) (d2 zn (d2 af (dV 0) (dC (.int 2))) (d2 af (dV 1) (dC (.int 1))))) (aa (d2 yL (d2 zn (d2 af (dV 0) (dC (.int 2))) (d2 af (dV 1) (dC (.int 0)))) (d2 zn (d2 af (dV 0) (dC (.int 0))) (d2 af (dV 1) (dC (.int 2))))) (aa (d2 yL (d2 zn (d2 af (dV 0) (dC (.int 0))) (d2 af (dV 1) (dC (.int 1)))) (d2 zn (d2 af (dV 0) (dC (.int 1))) (d2 af (dV 1) (dC (.int 0))))) ae)))))
noncomputable def xD:List Dt->Option Dt:=bx 2 2
  (aK (aj qU (aa (d2 zt (d2 zt (d2 zn (d2 af (dV 0) (dC (.int 0))) (d2 af (dV 1) (dC (.int 0)))) (d2 zn (d2 af (dV 0) (dC (.int 1))) (d2 af (dV 1) (dC (.int 1))))) (d2 zn (d2 af (dV 0) (dC (.int 2))) (d2 af (dV 1) (dC (.int 2))))) ae)))
noncomputable def jO:List Dt->Option Dt:=bx 3 3
  (aK (aj xD (aa (aj vz (aa (dV 0) (aa (dV 1) ae))) (aa (dV 2) ae))))
noncomputable def Yu:List Dt->Option Dt:=bx 5 2
  (ao (ar 2 (d2 yL (d2 zn (d2 af (dV 0) (dC (.int 0))) (d2 af (dV 1) (dC (.int 1)))) (d2 zn (d2 af (dV 0) (dC (.int 1))) (d2 af (dV 1) (dC (.int 0))))))
  (ao (aC (dB (d2 zr (dV 2) (dC (.int 0)))) (aK (dC .none)) bI)
  (ao (ar 3 (d2 yL (d2 zn (d2 af (dV 0) (dC (.int 1))) (d2 af (dV 1) (dC (.int 2)))) (d2 zn (d2 af (dV 0) (dC (.int 2))) (d2 af (dV 1) (dC (.int 1))))))
  (ao (ar 4 (d2 yL (d2 zn (d2 af (dV 0) (dC (.int 2))) (d2 af (dV 1) (dC (.int 0)))) (d2 zn (d2 af (dV 0) (dC (.int 0))) (d2 af (dV 1) (dC (.int 2))))))
  (aK (aj qF (aa (dV 3) (aa (dV 4) (aa (dV 2) ae)))))))))
noncomputable def jz:List Dt->Option Dt:=bx 5 1
  (ao (ar 1 (Ij (au 1 [] (iL (dV 0)) (gN 0) bv (d2 af (dV 0) (dC (.int 2)))) (dC (.int 1))))
  (ao (ar 2 (d2 zn (dV 1) (dV 1)))
  (ao (bK 3 (dC (.dT [] [])))
  (ao (aO [4] (iL (dV 0)) (gN 4)
  (aC (dB (dM true (dV 4) (aY 3))) (sH 3 (dV 4) (aN (aa (d2 zO (d2 zn (d2 af (dV 4) (dC (.int 0))) (dV 2)) (d2 af (dV 4) (dC (.int 2)))) (aa (d2 zO (d2 zn (d2 af (dV 4) (dC (.int 1))) (dV 2)) (d2 af (dV 4) (dC (.int 2)))) ae)))) bI))
  (cL 3 (aK (dV 3)))))))
noncomputable def j7:List Dt->Option Dt:=bx 2 1
  (ao (ar 1 (aj jz (aa (dV 0) ae)))
  (aK (jN tX sQ (0,0) 1 (bz (dV 1) (dV 0)) (aj yl (aa (dV 1) ae)))))
noncomputable def qD:List Dt->Option Dt:=bx 4 1
  (ao (bK 1 (aQ ae))
  (ao (aO [] (iL (dV 0)) (gN 2)
  (B9 1 (iT (dV 2))))
  (ao (cL 1 (ar 3 (aj jz (aa (dV 1) ae))))
  (aK (jN R3 cV [] 3 (au 1 [1] (iT (dV 0)) (gN 0) bv (bz (dV 1) (dV 0))) (dV 0))))))
noncomputable def Yw:List Dt->Option Dt:=bx 2 2
  (ao (aC (dB (d2 sB (dV 0) (dV 1))) qo bI)
  (ao (aC (dB (aj vn (aa (dV 0) (aa (dV 1) ae)))) (aK (aN (aa (dV 0) (aa (dV 1) ae)))) bI)
  (aK (aN (aa (dV 1) (aa (dV 0) ae))))))
noncomputable def jw:List Dt->Option Dt:=bx 3 1
  (ao (bK 1 (aQ ae))
  (ao (aO [2] (iL (dV 0)) (gN 2)
  (B9 1 (iT (dV 2))))
  (cL 1 (aK (dV 1)))))
noncomputable def Yq:List Dt->Option Dt:=bx 4 2
  (ao (ar 2 (Rj (dB (aj vn (aa (d2 af (dV 0) (dC (.int 0))) (aa (d2 af (dV 1) (dC (.int 0))) ae)))) (d2 af (dV 1) (dC (.int 0))) (d2 af (dV 0) (dC (.int 0)))))
  (ao (ar 3 (Rj (dB (aj vn (aa (d2 af (dV 0) (dC (.int 1))) (aa (d2 af (dV 1) (dC (.int 1))) ae)))) (d2 af (dV 0) (dC (.int 1))) (d2 af (dV 1) (dC (.int 1)))))
  (ao (aC (dB (aj vn (aa (dV 3) (aa (dV 2) ae)))) (aK (dC .none)) bI)
  (ao (aC (dB (d2 sB (dV 2) (dV 3))) (aK (aN (aa (dC (.str "spot")) (aa (dV 2) ae)))) bI)
  (aK (aN (aa (dC (.str "part")) (aa (aN (aa (dV 2) (aa (dV 3) ae))) ae))))))))
noncomputable def Yh:List Dt->Option Dt:=bx 8 2
  (ao (ar 2 (aj vz (aa (d2 af (dV 0) (dC (.int 0))) (aa (d2 af (dV 0) (dC (.int 1))) ae))))
  (ao (ar 3 (aN (aa (aj xD (aa (dV 2) (aa (d2 af (dV 1) (dC (.int 0))) ae))) (aa (aj xD (aa (dV 2) (aa (d2 af (dV 1) (dC (.int 1))) ae))) ae))))
  (ao (aC (dB (d2 sB (dV 3) (aN (aa (dC (.int 0)) (aa (dC (.int 0)) ae))))) (aK (aj Yq (aa (dV 0) (aa (dV 1) ae)))) bI)
  (ao (aC (dB (d2 zr (d2 af (dV 3) (dC (.int 0))) (d2 af (dV 3) (dC (.int 1))))) (aK (dC .none)) bI)
  (ao (ar 4 (aj vz (aa (d2 af (dV 1) (dC (.int 0))) (aa (d2 af (dV 1) (dC (.int 1))) ae))))
  (ao (ar 5 (aN (aa (aj xD (aa (dV 4) (aa (d2 af (dV 0) (dC (.int 0))) ae))) (aa (aj xD (aa (dV 4) (aa (d2 af (dV 0) (dC (.int 1))) ae))) ae))))
  (ao (aC (dB (d2 zr (d2 af (dV 5) (dC (.int 0))) (d2 af (dV 5) (dC (.int 1))))) (aK (dC .none)) bI)
  (ao (aO [6,7] (iC sE (aa (d2 xQ (dV 1) (dV 0)) (aa (d2 xQ (dV 3) (dV 5)) ae))) (gT 2 (bM (gN 6) (bM (gN 7) eu)))
  (aC (dB (d2 zr (dV 7) (dC (.int 0)))) (aK (aN (aa (dC (.str "spot")) (aa (dV 6) ae)))) bI))
  (aK (aN (aa (dC (.str "spot")) (aa (aj Yu (aa (dV 2) (aa (dV 4) ae))) ae))))))))))))
noncomputable def qd:List Dt->Option Dt:=bx 1 1
  (ao (aC (dB (d2 vZ (dV 0) (dC .none))) (aK (aN ae)) bI)
  (ao (aC (dB (d2 sB (d2 af (dV 0) (dC (.int 0))) (dC (.str "spot")))) (aK (aN (aa (d2 af (dV 0) (dC (.int 1))) ae))) bI)
  (aK (d2 af (dV 0) (dC (.int 1))))))
noncomputable def Yg:List Dt->Option Dt:=bx 12 1
  (ao (ar 1 (aj jz (aa (aj jw (aa (dV 0) ae)) ae)))
  (ao (bK 2 (au 1 [1] (iL (dV 0)) (gN 0) bv (aj (y8 λi j=>if j<i then j else i) (aa (d2 af (bz (dV 1) (d2 af (dV 0) (dC (.int 0)))) (dC (.int 1))) (aa (d2 af (bz (dV 1) (d2 af (dV 0) (dC (.int 1)))) (dC (.int 1))) ae)))))
  (ao (bK 3 (au 1 [1] (iL (dV 0)) (gN 0) bv (aj (y8 λi j=>if j>i then j else i) (aa (d2 af (bz (dV 1) (d2 af (dV 0) (dC (.int 0)))) (dC (.int 1))) (aa (d2 af (bz (dV 1) (d2 af (dV 0) (dC (.int 1)))) (dC (.int 1))) ae)))))
  (ao (bK 4 (au 1 [1] (iL (dV 0)) (gN 0) bv (bz (dV 1) (d2 af (dV 0) (dC (.int 1))))))
  (ao (bK 5 (aQ ae))
  (ao (bK 6 (aQ ae))
  (ao (aO [7,8,9,10,11] (iL (Yo tX sQ (0,0) [0,1] (bz (dV 2) (d2 af (d2 af (dV 1) (dV 0)) (dC (.int 0)))) (aa (aj zq (aa (dV 0) ae)) ae))) (gN 7)
  (ao (ar 8 (bz (dV 1) (d2 af (d2 af (dV 0) (dV 7)) (dC (.int 0)))))
  (ao (ar 9 (d2 af (aY 2) (dV 7)))
  (ao (ar 10 (d2 af (aY 3) (dV 7)))
  (ao (bK 6 (au 1 [4,8] (iL (aY 6)) (gN 0) (dB (d2 jJ (d2 af (aY 1) (dV 0)) (dV 2))) (dV 0)))
  (ao (bK 11 (au 1 [2,10] (iL (aY 6)) (gN 0) (dB (d2 H2 (d2 af (aY 1) (dV 0)) (dV 2))) (dV 0)))
  (ao (B9 5 (iL (au 1 [3,7,9] (iL (aY 11)) (gN 0) (dB (d2 Rk (d2 af (aY 1) (dV 0)) (dV 3))) (aN (aa (dV 2) (aa (dV 0) ae))))))
  (B8 6 (dV 7)))))))))
  (cL 5 (aK (dV 5))))))))))
noncomputable def Y4:List Dt->Option Dt:=bx 6 3
  (ao (bK 3 (au 1 [0,2] (iL (dV 1)) (gN 0) (dB (d2 sB (d2 af (d2 af (dV 2) (dV 0)) (dC (.int 0))) (dV 1))) (dV 0)))
  (ao (bK 4 (au 1 [0,2] (iL (dV 1)) (gN 0) (dB (d2 (Ni true true) (dV 1) (d2 af (dV 2) (dV 0)))) (dV 0)))
  (ao (bK 5 (au 1 [0,2] (iL (dV 1)) (gN 0) (dB (d2 sB (d2 af (d2 af (dV 2) (dV 0)) (dC (.int 1))) (dV 1))) (dV 0)))
  (cL 3 (cL 4 (cL 5 (aK (aN (aa (dV 0) (aa (dV 3) (aa (dV 4) (aa (dV 5) ae))))))))))))
noncomputable def vM:Dt->List Dt->Option Dt:=vg 3 3
  (ao (aC (dB (qm true (dV 1) 0)) (Yb 0 (dV 1) (dC (.dK [] []))) bI)
  (j8 0 (dV 1) (dV 2) (dC (.bool true))))
noncomputable def Y0:List Dt->Option Dt:=bx 7 1
  (ao (bK 1 (dC (.dT [] [])))
  (ao (aO [2,3,4] (iC xR (aa (dV 0) ae)) (gT 2 (bM (gN 2) (bM (gN 3) eu)))
  (aO [4] (iT (dV 3)) (gN 4)
  (Nh 1 vM (aa (dV 4) (aa (dV 2) ae)))))
  (ao (aO [4,5,6] (iL (aj Yg (aa (dV 0) ae))) (gT 2 (bM (gN 5) (bM (gN 6) eu)))
  (aO [4] (iT (aj qd (aa (aj Yh (aa (d2 af (dV 0) (dV 5)) (aa (d2 af (dV 0) (dV 6)) ae))) ae))) (gN 4)
  (ao (Nh 1 vM (aa (dV 4) (aa (dV 5) ae)))
  (Nh 1 vM (aa (dV 4) (aa (dV 6) ae))))))
  (cL 1 (aK (dV 1))))))
noncomputable def YC:List Dt->Option Dt:=bx 2 1
  (ao (ar 1 (aj Y0 (aa (dV 0) ae)))
  (aK (au 1 [0,1] (iL (aj j7 (aa (aj yl (aa (dV 1) ae)) ae))) (gN 0) bv (aj Y4 (aa (dV 0) (aa (aj ww (aa (aj yl (aa (bz (dV 2) (dV 0)) ae)) ae)) (aa (dV 1) ae)))))))
noncomputable def cC:List Dt->Option Dt:=bx 8 1
  (ao (bK 1 (dC (.dT [] [])))
  (ao (bK 2 (dC (.dK [] [])))
  (ao (aO [3,4,5,6,7] (iL (aj YC (aa (dV 0) ae))) (gT 4 (bM (gN 3) (bM (gN 4) (bM (gN 5) (bM (gN 6) eu)))))
  (ao (aO [7] (iL (aj ww (aa (d2 zM (dV 5) (dV 6)) ae))) (gN 7)
  (vG 1 (aN (aa (bz (aY 2) (dV 7)) (aa (dV 3) ae))) 7))
  (aO [7] (iL (d2 zM (dV 4) (dV 5))) (gN 7)
  (sH 2 (dV 7) (dV 3)))))
  (cL 1 (aK (au 1 [1] (iL (aj qD (aa (aj yl (aa (dV 1) ae)) ae))) (gN 0) bv (aN (aa (dV 0) (aa (bz (dV 1) (dV 0)) ae)))))))))
noncomputable def Yv:List Dt->Option Dt:=bx 1 1
  (aK (d2 zr (d2 zn (d2 af (d2 af (dV 0) (dC (.int 0))) (dC (.int 0))) (d2 af (d2 af (dV 0) (dC (.int 1))) (dC (.int 2)))) (d2 zn (d2 af (d2 af (dV 0) (dC (.int 1))) (dC (.int 0))) (d2 af (d2 af (dV 0) (dC (.int 0))) (dC (.int 2))))))
noncomputable def jX:List Dt->Option Dt:=bx 3 1
  (ao (ar 1 (dC (.int 0)))
  (ao (aO [2] (iL (dV 0)) (gN 2)
  (ar 1 (d2 wI (dV 1) (dV 2))))
  (aK (dV 1))))
noncomputable def YR:List Dt->Option Dt:=bx 6 1
  (ao (bK 1 (dC (.dT [] [])))
  (ao (aO [2,3,4,5] (iC xR (aa (dV 0) ae)) (gT 2 (bM (gN 2) (bM (gN 3) eu)))
  (ao (ar 4 (ft (aY 1) (d2 af (dV 3) (dC (.int 0))) (aQ ae)))
  (ao (ar 5 (wu [0,4,3] (d2 tW (aj jO (aa (d2 af (dV 3) (dC (.int 0))) (aa (d2 af (dV 3) (dC (.int 1))) (aa (d2 af (d2 af (dV 1) (d2 af (dV 2) (dV 0))) (dC (.int 1))) ae)))) (dC (.int 0))) (aj zq (aa (dV 4) ae))))
  (sH 1 (d2 af (dV 3) (dC (.int 0))) (d2 zM (d2 zM (dE (dV 4) oN (oS (dV 5))) (aQ (aa (dV 2) ae))) (dE (dV 4) (oS (dV 5)) oN))))))
  (cL 1 (aK (dV 1)))))
noncomputable def bV:List Dt->Option Dt:=bx 13 2
  (ao (bK 2 (au 1 [] (iL (dV 0)) (gN 0) bv (aj vz (aa (d2 af (dV 0) (dC (.int 0))) (aa (d2 af (dV 0) (dC (.int 1))) ae)))))
  (ao (ar 3 (aj YR (aa (dV 0) ae)))
  (ao (bK 4 (au 1 [] (iL (dV 0)) (gN 0) bv (aN (aa (dC (.int 0)) (aa (dC (.int 0)) ae)))))
  (ao (bK 5 (aQ ae))
  (ao (aO [6,7,8,9,10,12] (iL (aj j7 (aa (aj jw (aa (dV 0) ae)) ae))) (gN 6)
  (ao (ar 7 (wu [5,2,6] (d2 H2 (aj xD (aa (d2 af (aY 2) (d2 af (aY 1) (dV 0))) (aa (dV 3) ae))) (dC (.int 0))) (aj zq (aa (aY 5) ae))))
  (ao (ar 8 (dV 7))
  (ao (jo 2000000 [] (cT (dB (d2 nA (dV 8) (aj zq (aa (aY 5) ae)))) (dB (d2 sB (d2 af (d2 af (dV 0) (d2 af (aY 5) (dV 8))) (dC (.int 1))) (dV 6)))) (tM 8 (Ic λi j=>i+j) (dC (.int 1))))
  (ao (ar 9 (aj jX (aa (au 1 [1] (iL (dE (aY 5) (oS (dV 8)) oN)) (gN 0) bv (d2 af (dV 1) (dV 0))) ae)))
  (ao (ar 10 (ft (dV 3) (dV 6) (aQ ae)))
  (ao (aO [] (iC C8 (aa (dV 10) ae)) (gN 11)
  (ao (qg 4 (dV 11) (aN (aa (dV 9) (aa (d2 wI (dV 9) (d2 af (dV 1) (dV 11))) ae))))
  (ar 9 (d2 wI (dV 9) (d2 af (dV 1) (dV 11))))))
  (ao (bK 12 (au 1 [0] (iL (dV 10)) (gN 0) (cJ (dB (aj Yv (aa (d2 af (dV 1) (dV 0)) ae)))) (dV 0)))
  (bK 5 (d2 zM (d2 zM (dE (aY 5) oN (oS (dV 7))) (aY 12)) (dE (aY 5) (oS (dV 8)) oN)))))))))))
  (cL 4 (aK (dV 4))))))))
noncomputable def bH:List Dt->Option Dt:=bx 5 1
  (ao (bK 1 (aQ ae))
  (ao (aO [2,3,4] (iL (dV 0)) (gN 2)
  (aO [3,4] (iC wF (aa (dV 2) (aa (d2 zM (dE (dV 2) (oS (dC (.int 1))) oN) (dE (dV 2) oN (oS (dC (.int 1))))) ae))) (gT 2 (bM (gN 3) (bM (gN 4) eu)))
  (aC (dB (d2 Ie (dV 3) (dV 4))) (B8 1 (aj Yw (aa (dV 3) (aa (dV 4) ae)))) bI)))
  (cL 1 (aK (dV 1)))))
noncomputable def bW:List Dt->Option Dt:=bx 2 1
  (ao (ar 1 (aj bV (aa (dV 0) (aa (au 1 [] (iL (dV 0)) (gN 0) bv (dC (.int 1))) ae))))
  (aK (au 1 [0,1] (iC bG (aa (aj zq (aa (dV 0) ae)) ae)) (gN 0) bv (aN (aa (d2 af (dV 1) (dV 0)) (aa (d2 af (d2 af (dV 2) (dV 0)) (dC (.int 0))) (aa (d2 af (d2 af (dV 2) (dV 0)) (dC (.int 1))) ae)))))))
noncomputable def Xe:List Dt->Option Dt:=bx 6 1
  (ao (bK 1 (dC (.dT [] [])))
  (ao (bK 2 (dC (.dT [] [])))
  (ao (aO [3,4] (iL (dV 0)) (gT 2 (bM (gN 3) (bM (gN 4) eu)))
  (ao (vG 2 (dV 3) 4)
  (vG 1 (dV 4) 3)))
  (ao (bK 5 (dC (.dT [] [])))
  (ao (cL 2 (aO [3] (iD (dV 2)) (gN 3)
  (cL 1 (aC (cT (dB (d2 zr (aj zq (aa (bz (dV 2) (dV 3)) ae)) (dC (.int 1)))) (dB (d2 zr (aj zq (aa (ft (dV 1) (dV 3) (aQ ae)) ae)) (dC (.int 1))))) (aC (dB (d2 zr (aj jO (aa (d2 af (bz (dV 1) (dV 3)) (dC (.int 0))) (aa (dV 3) (aa (d2 af (bz (dV 2) (dV 3)) (dC (.int 0))) ae)))) (dC (.int 0)))) (sH 5 (dV 3) (d2 af (bz (dV 2) (dV 3)) (dC (.int 0)))) bI) bI))))
  (cL 5 (aK (dV 5))))))))
def qP:List Dt->Option Dt:=bx 6 1
  (ao (ar 1 (aj Xe (aa (dV 0) ae)))
  (ao (bK 2 (aQ ae))
  (ao (aO [3,4,5] (iL (dV 0)) (gT 2 (bM (gN 3) (bM (gN 4) eu)))
  (aC (dB (dM true (dV 3) (dV 1))) (ao (ar 5 (dV 4))
  (ao (vh [] (dB (dM false (dV 5) (dV 1))) (ar 5 (bz (dV 1) (dV 5))))
  (B8 2 (aN (aa (dV 3) (aa (dV 5) ae)))))) bI))
  (cL 2 (aK (dV 2))))))
def bJ:List Dt->Option Dt:=bx 5 1
  (ao (bK 1 (aQ ae))
  (ao (aO [2,3,4] (iL (dV 0)) (gT 3 (bM (gN 2) (bM (gN 3) (bM (gN 4) eu))))
  (ao (aC (cT (dB (dV 3)) (cJ (dB (dV 4)))) (B8 1 (aN (aa (d2 af (dV 2) (dC (.int 0))) (aa (d2 af (dV 2) (dC (.int 1))) ae)))) bI)
  (aC (cT (dB (dV 4)) (cJ (dB (dV 3)))) (B8 1 (aN (aa (d2 af (dV 2) (dC (.int 1))) (aa (d2 af (dV 2) (dC (.int 0))) ae)))) bI)))
  (cL 1 (aK (aj qD (aa (aj qP (aa (dV 1) ae)) ae))))))
def xk:List Dt->Option Dt:=bx 2 1
  (ao (bK 1 (au 2 [] (iL (aj cC (aa (aj bH (aa (dV 0) ae)) ae))) (gT 2 (bM (gN 0) (bM (gN 1) eu))) (dB (d2 zr (d2 zx (aj zq (aa (dV 1) ae)) (dC (.int 2))) (dC (.int 1)))) (dV 0)))
  (cL 1 (aK (aj bJ (aa (au 3 [] (iL (aj bW (aa (dV 1) ae))) (gT 3 (bM (gN 0) (bM (gN 1) (bM (gN 2) eu)))) bv (aN (aa (dV 0) (aa (d2 zr (dV 1) (dC (.int 1))) (aa (d2 zr (dV 2) (dC (.int 1))) ae))))) ae)))))
noncomputable def j6:List Dt->Option Dt:=bx 2 2
  (aK (aj qF (aa (d2 zt (d2 zn (d2 af (dV 0) (dC (.int 0))) (d2 af (dV 1) (dC (.int 2)))) (d2 zn (d2 af (dV 1) (dC (.int 0))) (d2 af (dV 0) (dC (.int 2))))) (aa (d2 zt (d2 zn (d2 af (dV 0) (dC (.int 1))) (d2 af (dV 1) (dC (.int 2)))) (d2 zn (d2 af (dV 1) (dC (.int 1))) (d2 af (dV 0) (dC (.int 2))))) (aa (d2 zn (d2 zn (dC (.int 2)) (d2 af (dV 0) (dC (.int 2)))) (d2 af (dV 1) (dC (.int 2)))) ae)))))
noncomputable def zZ:List Dt->Option Dt:=bx 2 2
  (ao (aC (dB (d2 nA (dV 1) (aj zq (aa (dV 0) ae)))) (aK (d2 af (dV 0) (dV 1))) bI)
  (aK (dC (.int 0))))
noncomputable def ba:List Dt->Option Dt:=bx 1 1
  (aK (eU (d1 (zW "int") (dV 0)) (d1 Ih (d1 (zW "bool") (dV 0)))))
noncomputable def br:List Dt->Option Dt:=bx 4 3
  (ao (aO [3] (iL (aQ (aa (dC (.int 2)) (aa (dC (.int 2)) (aa (dC (.int 3)) ae))))) (gN 3)
  (aC (cT (dB (d2 zr (d2 zx (dV 0) (dV 3)) (dC (.int 0)))) (cT (dB (d2 zr (d2 zx (dV 1) (dV 3)) (dC (.int 0)))) (dB (d2 zr (d2 zx (dV 2) (dV 3)) (dC (.int 0)))))) (ao (ar 0 (d2 zO (dV 0) (dV 3)))
  (ao (ar 1 (d2 zO (dV 1) (dV 3)))
  (ar 2 (d2 zO (dV 2) (dV 3))))) bI))
  (aK (aN (aa (dV 0) (aa (dV 1) (aa (dV 2) ae))))))
noncomputable def wG:List Dt->Option Dt:=bx 4 2
  (ao (ar 2 (d2 yL (d2 zx (dV 0) (dC (.int 7))) (dC (.int 3))))
  (ao (ar 3 (d2 yL (d2 zx (d2 zO (dV 0) (dC (.int 7))) (dC (.int 7))) (dC (.int 3))))
  (ao (aC (dB (d2 tW (dV 1) (dC (.int 1)))) (aK (aN (aa (d2 zt (d2 zn (dV 2) (dV 1)) (dV 3)) (aa (d2 yL (d2 zn (dV 3) (dV 1)) (dV 2)) (aa (dC (.int 1)) ae))))) bI)
  (aK (aj br (aa (dV 2) (aa (dV 3) (aa (d2 af (aQ (aa (dC (.int 1)) (aa (dC (.int 1)) (aa (dC (.int 2)) (aa (dC (.int 3)) (aa (dC (.int 4)) ae)))))) (d2 zx (d2 zO (dV 0) (dC (.int 49))) (dC (.int 5)))) ae))))))))
noncomputable def jx:List Dt->Option Dt:=bx 6 3
  (ao (bK 3 (aQ ae))
  (ao (aO [4,5] (iC bG (aa (d2 zt (dC (.int 1)) (d2 zx (aj zZ (aa (dV 0) (aa (dV 1) ae))) (dC (.int 3)))) ae)) (gN 4)
  (ao (ar 5 (d2 af (aQ (aa (dC (.int 3)) (aa (dC (.int 4)) (aa (dC (.int 3)) (aa (dC (.int 5)) (aa (dC (.int 4)) (aa (dC (.int 2)) (aa (dC (.int 1)) (aa (dC (.int 0)) ae))))))))) (d2 zx (d2 zO (d2 zO (aj zZ (aa (dV 0) (aa (dV 1) ae))) (dC (.int 3))) (d2 zt (dC (.int 1)) (dV 4))) (dC (.int 8)))))
  (ao (aC (dB (d2 zr (aj zq (aa (aY 3) ae)) (dC (.int 2)))) (ar 5 (aj (y8 λi j=>if j<i then j else i) (aa (dV 5) (aa (dC (.int 3)) ae)))) bI)
  (B8 3 (au 1 [0,1,2,4] (iC bG (aa (dV 5) ae)) (gN 0) bv (aj wG (aa (aj zZ (aa (dV 1) (aa (d2 zt (d2 zt (d2 zt (dV 2) (dC (.int 1))) (d2 zn (dC (.int 6)) (dV 4))) (dV 0)) ae))) (aa (dV 3) ae))))))))
  (cL 3 (aK (dV 3)))))
noncomputable def qQ:List Dt->Option Dt:=bx 1 1
  (aK (d2 af (aQ (aa (dC (.int 1)) (aa (dC (.int 1)) (aa (dC (.int 1)) (aa (dC (.int 1)) (aa (dC (.int 1000003)) (aa (d2 zt (d2 qK (dC (.int 10)) (dC (.int 20))) (dC (.int 39))) ae))))))) (d2 zx (dV 0) (dC (.int 6)))))
noncomputable def av:Nat->List Dt->Option Dt
  |0=>λ_=>none
  |n+1=>bx 3 2
    (ao (aC (dB (d1 (zW "bool") (dV 1))) (aK (eU (d1 (zW "bool") (dV 0)) (d2 zr (dV 0) (dV 1)))) bI)
    (ao (aC (dB (d1 (zW "int") (dV 1))) (aK (eU (aj ba (aa (dV 0) ae)) (d2 zr (dV 0) (dV 1)))) bI)
    (ao (aC (dB (d1 (zW "tuple") (dV 1))) (aC (cJ (dB (d1 (zW "tuple") (dV 0)))) (aK (dC (.bool false))) bI) (aC (cJ (dB (d1 (zW "list") (dV 0)))) (aK (dC (.bool false))) bI))
    (ao (aC (dB (d2 wd (aj zq (aa (dV 0) ae)) (aj zq (aa (dV 1) ae)))) (aK (dC (.bool false))) bI)
    (ao (aO [2] (iC bG (aa (aj zq (aa (dV 1) ae)) ae)) (gN 2)
    (aC (cJ (dB (aj (av n) (aa (d2 af (dV 0) (dV 2)) (aa (d2 af (dV 1) (dV 2)) ae))))) (aK (dC (.bool false))) bI))
    (aK (dC (.bool true))))))))
noncomputable def YO:List Dt->Option Dt:=av 4
noncomputable def wz:List Dt->Option Dt:=bx 2 2
  (aK (au 1 [0,1] (iC bG (aa (dC (.int 3)) ae)) (gN 0) bv (aj wG (aa (aj zZ (aa (dV 1) (aa (d2 zt (dC (.int 30)) (dV 0)) ae))) (aa (dV 2) ae)))))
noncomputable def jj:List Dt->Option Dt:=bx 4 2
  (ao (aC (dB (d2 nA (aj zq (aa (dV 0) ae)) (dC (.int 2)))) (aK (aj vY (aa (dV 0) ae))) bI)
  (ao (ar 2 (d2 zx (dV 1) (aj zq (aa (dV 0) ae))))
  (ao (bK 3 (d2 zM (dE (dV 0) (oS (dV 2)) oN) (dE (dV 0) oN (oS (dV 2)))))
  (ao (aC (dB (d2 zr (d2 zx (d2 zO (dV 1) (dC (.int 5))) (dC (.int 2))) (dC (.int 1)))) (bK 3 (d1 qM (aY 3))) bI)
  (ao (aC (cT (dB (d2 tW (d2 zx (d2 zO (dV 1) (dC (.int 10))) (dC (.int 3))) (dC (.int 0)))) (dB (d2 Ie (d2 af (aY 3) (dC (.int 0))) (d2 af (aY 3) (dC (.int 1)))))) (bK 3 (d2 zM (aQ (aa (d2 af (aY 3) (dC (.int 0))) (aa (aj j6 (aa (d2 af (aY 3) (dC (.int 0))) (aa (d2 af (aY 3) (dC (.int 1))) ae))) ae))) (dE (aY 3) (oS (dC (.int 1))) oN))) bI)
  (cL 3 (aK (dV 3))))))))
def F_law:List Dt->Option Dt:=bx 6 1
  (ao (ar 1 (aj qQ (aa (aj zZ (aa (dV 0) (aa (dC (.int 0)) ae))) ae)))
  (ao (ar 2 (aj jx (aa (dV 0) (aa (dC (.int 1)) (aa (dV 1) ae)))))
  (ao (bK 3 (aQ ae))
  (ao (aO [4] (iC bG (aa (aj zq (aa (dV 2) ae)) ae)) (gN 4)
  (Ii 3 (aj jj (aa (d2 af (dV 2) (dV 4)) (aa (aj zZ (aa (dV 0) (aa (d2 zt (dC (.int 21)) (dV 4)) ae))) ae)))))
  (ao (aC (dB (d2 zr (d2 zx (aj zZ (aa (dV 0) (aa (dC (.int 24)) ae))) (dC (.int 3))) (dC (.int 1)))) (bK 3 (d2 zM (d2 zM (aQ (aa (aj wz (aa (dV 0) (aa (dV 1) ae))) ae)) (aY 3)) (aQ (aa (aj wz (aa (dV 0) (aa (dV 1) ae))) ae)))) bI)
  (ao (ar 5 (aj xk (aa (dV 2) ae)))
  (cL 3 (aK (eU (d1 (zW "list") (dV 5)) (aj YO (aa (aj xk (aa (dV 3) ae)) (aa (dV 5) ae))))))))))))
end Nu
end
end Mine
namespace Att
open PySem PySem.W PySem.Calls PyProof.Rows
theorem ze1{P:Params}{h:Heap}:∀(ns:List Int)(vs:List kL),WellAll P h vs (ns.map WData.int)->An vs ns:=by
 intro ns
 induction ns with
 |nil=>
  intro vs w;rw[UA] at w
  cases w;exact .nil
 |cons n ns ih=>
  intro vs w;rw[kN] at w
  cases w with
  |cons a b=>
   cases a;exact .cons _ _ (ih _ b)
theorem zcn{l:OpenLaw}{n:Nat}(hn:l.most=some n){P:Params}{h:Heap}{args:List WData}{O8:List kL}
  (KS:l.row.toRowW.claim.pre args=true)(hwl:WellAll P h O8 args):
  ∃a vs ns,O8=[Ql a]/\args=[WData.list (ns.map WData.int)]/\h.get? a=some {cls:=.type "list",data:=.seq vs.toArray}/\An vs ns/\ns.length<=n:=by
 have hsh:WShape.hasAll [] args [.list .int]=true:=(pre_splitW KS).1;have hc:l.pre.holds [] {args:=args}=true:=(pre_splitW KS).2;obtain⟨d,r,rfl,h1,h2⟩:=hasAllW_cons hsh;obtain rfl:=hasAllW_nil h2;obtain⟨xs,rfl,h3⟩:=hasW_list h1;obtain⟨ns,rfl⟩:=items_int h3;have cB:ns.length<=n:=by
  unfold OpenLaw.pre at hc;have h4:(WTm.not (.lt (.lit (.int (n:Int))) (.len (.arg 0)))).holds [] {args:=[.list (ns.map .int)]}=true:=by
   have h4:=(holds_andW hc).1;rw[hn] at h4;exact h4
  have h5:=condW_of h4 (w_not (w_lt w_lit (w_len_list (w_arg rfl))));rw[kJ] at h5;refine Nat.le_of_not_lt λq=>?_;have q':(n:Int)<((ns.length:Nat):Int):=by omega
  first
   |(rw[ζ q'] at h5;exact absurd h5 (by decide))
   |(simp at h5;omega)
 cases hwl with
 |cons w1 w2=>
  cases w2
  cases w1 with
  |list ho OG=>exact⟨_,_,ns,rfl,rfl,ho,ze1 ns _ OG,cB⟩
def zc8(l:OpenLaw)(args:List WData):l.row.toRowW.claim.post args (.bool true) args=true:=
 postW_of (r:=l.row.toRowW) (X:=(true==true))
  (show WShape.has [] (.bool true) .bool=true by first|rfl|decide|simp[WShape.has,WShape.arms,WShape.armsAll])
  (show(WTm.eq .res (.lit (.bool true))).value [] {args:=args,res:=some (.bool true),after:=args}=some (.bool (true==true)) from w_eq_bool (w_res rfl) w_lit) rfl
def attach_call{l:OpenLaw}{n:Nat}{q:Qq}{u5:List Str}{XP:(Str->Option kL)->Heap->Prop}{YP:World->Heap->Prop}{d:DefRec}
  (hn:l.most=some n)(hdf:d.params.defaults=[])
  (call:∀(w:World)(KU aU:kR)(mg mb:Str->Option kL)(fa:Addr)(o:Obj)(pm cd doc:kL)(a:Addr)(vs:List kL)(ns:List Int),
   Ground q u5 [] XP w KU mg mb aU.heap->YP w aU.heap->
   aU.heap.get? fa=some o->o.data=.func (docDef d.name d.params d.body d.scope pm cd doc)->aU.heap.CodeRec cd d.name->mg d.name=some (.ref fa)->
   aU.heap.get? a=some {cls:=.type "list",data:=.seq vs.toArray}->An vs ns->ns.length<=n->aU.gens=#[]->
   Ak (ο l.prog w) HS (.call (.ref fa) ⟨[.ref a],[]⟩) (λr s'=>r=.ok (.ret (.bool true))/\OldK aU.heap s'.heap/\s'.os=aU.os/\EE s'.gens) aU):
  WalkO q u5 XP YP l.row.toRowW d [] (λf vs=>Hb f vs):=by
 intro w KU aU mg mb G Y fa o pm cd doc dV kV ho hd dN hD T3 hg args O8 as KS hlay hrd hwl hlo;obtain rfl:dV=.none:=Dflts.none hD hdf;obtain rfl:kV=.none:=Dflts.noKw hD;obtain⟨a,vs,ns,rfl,rfl,O9,F7,cB⟩:=zcn hn KS hwl;refine enter_call (gh (call w KU aU mg mb fa o pm cd doc a vs ns G Y ho (fd_plain hd) dN T3 O9 F7 cB hg) λr s' hq=>?_);obtain⟨rfl,h2,h3,h4⟩:=hq;exact⟨.inl ⟨.bool true,.bool true,[],rfl,λ_=>rfl,.bool true,zc8 l _,λ_=>⟨List.Pairwise.nil,λ_ hm=>(nomatch hm)⟩⟩,h2,h3,h4⟩
end Att
namespace L2
open PySem PySem.Spec PyProof.Rows
open PySem.W (tabObj)
variable{x:Str}{F:List Dt->Option Dt}
def zbi{P:Qq}{w:World}{K:Qw}{mg mb:Str->Option kL}{k:Nat}{fa a:Addr}{fd:Qn}{tb:List (Addr×Pos×Str)}{s:kR}{vs:List kL}{ns:List Int}
  (KX:K.In s.heap)(E8:s.heap.Ns uX mg)(hb:s.heap.Ns ED mb)(hbb:∀x:Str,x≠"__name__"->mb x=uw x)(hlim:s.heap.NoLimit)(hg:s.gens=#[])
  (ha:s.heap.get? a=some {cls:=.type "list",data:=.seq vs.toArray})(hi:An vs ns)(hl:ns.length<=μ)(hr:zK k HS)
  (hT:∀t∈tb,s.heap.get? t.1=some (tabObj #[])/\K.lookup t.1=none/\isCodeTable s.heap t.1)
  (hbm:∃bm ob,mg "__builtins__"=some (.ref bm)/\bm≠ED/\s.heap.get? bm=some ob/\ob.cls=.type "module"/\ob.dict=some ED/\ob.data=.plain)
  (hF:∀base:Heap,K.In base->base.Ns uX mg->(∀t∈tb,base.BuiltinsAt mg t.1)->zm ⟨P,w,K,mg,base,tb⟩ k fa fd [x] F) (sT:∀(s:kR)(u:kL),FS s fd ⟨[u],[]⟩ [(x,u)]) (ev:F [.list (ns.map .int)]=some (.bool true)):
  Ak (ο P w) HS (.call (.ref fa) ⟨[.ref a],[]⟩) (λr s'=>r=.ok (.ret (.bool true))/\OldK s.heap s'.heap/\s'.os=s.os/\EE s'.gens) s:=by
 have tn:∀{b o},s.heap.get? b=some o->o.data≠.fields #[]->b∉tb.map pG:=λe n z=>by
  obtain⟨t,m,rfl⟩:=kh.mp z;rw[(hT t m).1] at e;cases e;exact n rfl
 have bo:∀{b o},s.heap.get? b=some o->o.data≠.fields #[]->(Ad s.heap (tb.map pG)).get? b=some o:=λe n=>Fa _ e (tn e n);have nsK:∀{b:Addr}{m:Str->Option kL},s.heap.Ns b m->(Ad s.heap (tb.map pG)).Ns b m:=λ⟨o,es,ep,e,d,r⟩=>⟨o,es,ep,bo e (by rw[d];exact nofun),d,r⟩
 have hK:K.In (Ad s.heap (tb.map pG)):=λb o e=>Fa _ (KX b o e) λz=>by
  obtain⟨t,m,rfl⟩:=kh.mp z;rw[(hT t m).2.1] at e;cases e
 have hM:Mod K mg (Ad s.heap (tb.map pG)):=⟨hK,nsK E8,⟨mb,nsK hb,hbb⟩,let⟨mc,h1,h2⟩:=hlim;⟨mc,nsK h1,h2⟩⟩;have hB:∀t∈tb,(Ad s.heap (tb.map pG)).BuiltinsAt mg t.1:=λt m=>by
  obtain⟨bm,ob,b1,b2,b3,b4,b5,b6⟩:=hbm;refine⟨bm,ob,b1,b2,λq=>?_,λq=>?_,bo b3 (by rw[b6];exact nofun),b4,b5,b6⟩
  ·obtain⟨o,es,ep,e,d,_⟩:=E8;rw[<-q,b3] at e;cases e;rw[b6] at d;cases d
  ·rw[q,(hT t m).1] at b3;cases b3;cases b4
 have e0:E0 ⟨P,w,K,mg,Ad s.heap (tb.map pG),tb⟩ (λa=>a∈tb.map pG) s:=⟨hM,.of_eq hg,λb o e=>PySem.W.of_hideAll _ e,λb z=>PySem.W.hideAll_none _ z,λb⟨t,m,e⟩=>kh.mpr ⟨t,m,e⟩,λt m=>⟨#[],(hT t m).1,trivial,.inl rfl⟩,λb z=>by
  obtain⟨t,m,rfl⟩:=kh.mp z;exact⟨_,(hT t m).1⟩⟩
 refine gh ((hF _ hK (nsK E8) hB).run HS _ s ⟨[.ref a],[]⟩ [.ref a] _ _ hr e0 (sT s (.ref a)) (.cons ?_ .nil) ev) λr s'⟨u,e,t,e1,ru⟩=>?_
 ·rw[R];exact⟨a,vs,0,rfl,tn ha nofun,ha,by rw[hi.length];exact hl,Jl hi⟩
 ·rw[R] at ru;subst e ru;refine⟨rfl,⟨λb o e=>?_,t.ex⟩,t.os,e1.ge⟩
  by_cases z:b∈tb.map pG
  ·obtain⟨y,m,rfl⟩:=kh.mp z;have e1:=(hT y m).1;rw[e] at e1;cases e1;obtain⟨more,e2⟩:=t.tg y.1 #[] ⟨y,m,rfl⟩ e;exact .inr (.inl ⟨(hT y m).2.2,rfl,#[],more,rfl,e2⟩)
  ·exact .inl (t.kp b o e id λ⟨y,m,q⟩=>z (kh.mpr ⟨y,m,q⟩))
def walk_ofN{l:HO}{n k:Nat}{q:Qq}{u5:List Str}{XP:(Str->Option kL)->Heap->Prop}{YP:World->Heap->Prop}{d:DefRec}{K:Params->Qw}{ds:List Str}
  (hn:l.most=some n)(KA:n<=μ)(hdf:d.params.defaults=[])(hr:zK k HS)(hY:∀(w:World)(h:Heap),YP w h->(K w.params).In h)(hD:∀y,y∈ds->∃e,(recsOf q).find? (λe=>e.name==y)=some e)
  (hF:∀(w:World)(mg:Str->Option kL)(fa:Addr)(h:Heap),(K w.params).In h->h.Ns uX mg->mg d.name=some (.ref fa)->
   ∃(fd:Qn)(tb:List (Addr×Pos×Str)),(∀t∈tb,(K w.params).lookup t.1=none/\∃y c,y∈ds/\Db (K w.params) y=some (c,t.1))/\(∀(s:kR)(u:kL),FS s fd ⟨[u],[]⟩ [(x,u)])/\
    ∀base:Heap,(K w.params).In base->base.Ns uX mg->(∀t∈tb,base.BuiltinsAt mg t.1)->zm ⟨l.prog,w,K w.params,mg,base,tb⟩ k fa fd [x] F)
  (ev:∀ns:List Int,ns.length<=n->F [.list (ns.map .int)]=some (.bool true)):PySem.W.WalkO q u5 XP YP l.row.toRowW d [] (λf vs=>Hb f vs):=by
 refine Att.attach_call hn hdf λw KU aU mg mb fa o pm cd doc a vs ns G Y ho hd dN T3 O9 F7 cB hg=>?_;have KX:=hY w _ Y;obtain⟨fd,tb,ht,hb,hF⟩:=hF w mg fa _ KX G.T.g T3;refine zbi (tb:=tb) KX G.T.g G.T.b G.T.builtins G.T.nolimit hg O9 F7 (uK cB KA) hr (λt m=>?_) G.T.bmain hF hb (ev ns cB);obtain⟨hk,y,c,hy,e⟩:=ht t m;obtain⟨r,hr'⟩:=hD y hy;obtain⟨C,hP⟩:=PySem.W.tab_of G.T KX hr' e;exact⟨hP,hk,(C.tab hP).isCodeTable⟩
noncomputable def nmE:Expr->Str
 |.Name x _=>x
 |_=>""
noncomputable def tgN:Expr->List Str
 |.Name x _=>[x]
 |.Tuple es _ _=>es.map nmE
 |_=>[]
section
variable{X:Cx}{scope:Scope}{tg bh fA:Expr}{dI:List Expr}{ix:List Nat}{k:Nat}{it:En->Option (List Dt)}{h:Dt->En->Option En}{c:En->Option Bool}{e f g:En->Option Dt}{pos:Pos}{m:Bool}{js:List Nat}{o:Expr}
noncomputable def csB(nI:Scope)(N:List Str)(scope:Scope)(ix:List Nat):Bool:=scope.kind==.function&&(decide (∀y∈scope.names,y.2≠BI)&&decide (∀y∈scope.names,y.2=NameKind.local->scope.names.lookup y.1=some .local)&&decide (∀y∈scope.names,y.2=QF->nI.names.lookup y.1=some .cell\/nI.names.lookup y.1=some .free)&&decide (∀i∈ix,i<N.length/\scope.names.lookup (N.getD i "")=some .free))
def MI{nI:Scope}{N own:List Str}(k:scope.kind=.function)(h:csB nI N scope ix=true):qf nI N scope own ix:=by
 unfold csB at h;simp only[ue,decide_eq_true_eq] at h;exact⟨k,h.2.1.1.1,h.2.1.1.2,h.2.1.2,h.2.2⟩
def Pa(hi:PI X true tg bh it)(hb:jR X scope (tgN tg) ix tg dI fA h c e)(kk:scope.kind=.function:=by rfl)(S:csB X.env.scope X.N scope ix=true:=by kernel_rfl)(hk:(tgN tg).length=k:=by rfl)(hs:∀x,gY bh X.env x=pure x:=by intro _;rfl):PF X (.ListComp fA [⟨tg,bh,dI,0⟩] scope pos) (au k ix it h c e):=by
 subst hk;exact N8 _ ix hi hb (MI kk S) rfl rfl hs
def Pb(i:Nat){bA D6:Pos}(hi:PI X true tg bh it)(hb:jR X scope (tgN tg) ix tg dI fA h c e)(nd:decide X.N.Nodup=true:=by kernel_rfl)(kk:scope.kind=.function:=by rfl)(S:csB X.env.scope X.N scope ix=true:=by kernel_rfl)(hk:(tgN tg).length=k:=by rfl)(hx0:X.N[i]?=some x:=by rfl)(hx:X.env.scope.names.lookup x=some .local\/(X.fn=true/\X.env.scope.names.lookup x=some .cell):=by first|exact .inl rfl|exact .inr ⟨rfl,rfl⟩)
  (eW:Ur (.ListComp fA [⟨tg,bh,dI,0⟩] scope pos) (some (.Name x bA)) D6.line X.env=pure true:=by rfl) (hs:∀x,gY bh X.env x=pure x:=by intro _;rfl):PS X (.Assign [.Name x bA] (.ListComp fA [⟨tg,bh,dI,0⟩] scope pos) D6) (bK i (au k ix it h c e)):=by
 subst hk;exact N9 i (yJ nd) _ ix hi hb (MI kk S) rfl rfl hx0 hx eW hs
def hvG(h:PE X m o (wu js f g)):PE X m o (wu js f g):=h
end
end L2
namespace Mine
open PySem L2
namespace Nu
section
variable{G:Gx}{ad:Nat->Addr}{fd:Nat->Qn}
seal L2.PE L2.PT L2.PW L2.PA L2.PS L2.PSs L2.PG L2.PGs L2.PI L2.PO L2.PIf L2.PF L2.PL dV aY dC d1 d2 ae aa aN aQ aj dB cT Ri cJ Rj yL zn zO zx qK wI qc nA H2 tW Rk zr wd sB Ie vZ af eU Ih ar bK ao bI aK aC cL qo B8 iL iT bG wF sE xR C8 iC gN eu bM gT aO au bv bx zq vi y8 vY zM xQ oN oS dE jo tM B9 Ii qg dM bz ft sH yl iD Ij j8 Yb vG vg Nh qm tX R3 jN wu Ni ww qM zW jJ Yo vh
local macro_rules
  | `(tactic| trivial) => do
  let I:=λ(x:String)=>GR x.toName
  let f:=λ(s:String) g=>((s.splitOn " ").toArray.mapM g:Lean.MacroM (Array (Lean.TSyntax `tactic)))
    let v0 <- f "D0 cU Su No Np Nq Ip Nr Sg Sh Si Sj Ny Nz NA ND Sp D3 Od NG Sd Se Sf Nw Kb Nt Nv" fun x => `(tactic| (refine $(I x) ?_ ?_ <;> trivial))
    let v1 <- f "Iu NJ NM NE Iq NC NV NW Ts do_s I5 C9 NF NH NI" fun x => `(tactic| (refine $(I x) ?_ <;> trivial))
    let v2 <- f "It dO Nk R7 Nl Nn D1 Iw do_n I3 SO SN" fun x => `(tactic| exact $(I x))
    let v3 <- f "dv dvr" fun x => `(tactic| exact $(I x) _)
    let v4 <- f "Sw Td Sr" fun x => `(tactic| (refine $(I x) ?_ ?_ ?_ <;> trivial))
    let v5 <- f "SA NZ NN N0 IW" fun x => `(tactic| (refine $(I x) _ ?_ <;> trivial))
    let v6 <- f "B3 IX IY" fun x => `(tactic| (refine $(I x) _ ?_ ?_ <;> trivial))
    let v7 <- f "NQ" fun x => `(tactic| (refine $(I x) _ ?_ ?_ ?_ <;> trivial))
    let v8 <- f "sJ" fun x => `(tactic| (refine $(I x) _ _ ?_ ?_ <;> trivial))
    let v9 <- f "Sm Sn O5 N3 N4 OB I0" fun x => `(tactic| (refine $(I x) (by first | exact vT (by assumption) | exact RH (by assumption)) ?_ ?_ <;> trivial))
    let v10 <- f "Kn" fun x => `(tactic| (refine $(I x) _ (by first | exact vT (by assumption) | exact RH (by assumption)) ?_ <;> trivial))
    let v11 <- f "I1 E5" fun x => `(tactic| (refine $(I x) _ (by first | exact vT (by assumption) | exact RH (by assumption)) ?_ ?_ <;> trivial))
    let v12 <- f "E3" fun x => `(tactic| (refine $(I x) _ (by first | exact vT (by assumption) | exact RH (by assumption)) ?_ ?_ ?_ <;> trivial))
    let v13 <- f "Kr" fun x => `(tactic| (refine $(I x) _ _ (by first | exact vT (by assumption) | exact RH (by assumption)) ?_ <;> trivial))
    let v14 <- f "D4" fun x => `(tactic| (refine $(I x) (by first | exact vT (by assumption) | exact RH (by assumption)) ?_ ?_ ?_ <;> trivial))
    let v15 <- f "Sy Sz" fun x => `(tactic| (refine $(I x) _ (yJ (by kernel_rfl)) ?_ <;> trivial))
    let v16 <- f "SD" fun x => `(tactic| exact $(I x) _ (yJ (by kernel_rfl)))
    let v18 <- f "Pb" fun x => `(tactic| (refine $(I x) _ ?_ (fun cl C rb => ⟨?_, ?_, ?_⟩) <;> trivial))
    let v19 <- f "Pa" fun x => `(tactic| (refine $(I x) ?_ (fun cl C rb => ⟨?_, ?_, ?_⟩) <;> trivial))
    let v20 <- f "Kg/range Oq/zip Kk/zip Ow/enumerate Oy/reversed I9/list E2/list E6/sorted Oa/len Ob/abs I8/min I6/max" fun x => `(tactic| (refine $(I ((x.splitOn "/").head!)) rfl ($(I ("Txt.b_" ++ (x.splitOn "/").getLast!)) (by assumption)) ?_ <;> trivial))
    let v21 <- f "Kt/max" fun x => `(tactic| (refine $(I ((x.splitOn "/").head!)) rfl ($(I ("Txt.b_" ++ (x.splitOn "/").getLast!)) (by assumption)) ?_ ?_ <;> trivial))
    let v23 <- f "int bool list tuple" fun x => `(tactic| (refine Oh $(I ("isi_" ++ x)) rfl (Txt.b_isinstance (by assumption)) ?_ rfl ($(I ("Txt.b_" ++ x)) (by assumption)) $(I ("bt_" ++ x)) <;> trivial))
    let cc <- f "is_whole divisor point before sign_of line_of side_of turn met order_keys in_order by_points stretch ends_of meet_on_line meet shared_ends near_pairs stop_at note lying_at stops pieces is_upright mixed fans_of flanks sides_of flanked straight_on straightened fences_of land_of amid law_cell_at law_whole law_lowest law_point law_alike law_far_ring law_otherwise law_rings law_far law" fun x => `(tactic| (refine WJ ($(I ("ok_" ++ x)) (by assumption)) ($(I ("Txt." ++ x)) (by assumption)) (by assumption) ?_ <;> trivial))
    let dd <- f "note" fun x => `(tactic| (refine TC _ ($(I ("ok_" ++ x)) (by assumption)) ($(I ("Txt." ++ x)) (by assumption)) (by assumption) ?_ <;> trivial))
    let ee <- f "law_alike" fun x => `(tactic| (refine WJ (hk := by lia) ($(I ("okr_" ++ x)) $(I "T") $(I "n")) ($(I ("Txt." ++ x)) $(I "T")) $(I "hr") ?_ <;> trivial))
    let ff <- f "law_whole" fun x => `(tactic| (refine WJ (hk := by lia) ($(I ("ok_" ++ x)) $(I "T")) ($(I ("Txt." ++ x)) $(I "T")) $(I "hr") ?_ <;> trivial))
    `(tactic| first | exact Ix (dvr _) $[| $v0:tactic]* $[| $v1:tactic]* $[| $v2:tactic]* $[| $v3:tactic]* $[| $v4:tactic]* $[| $v5:tactic]* $[| $v6:tactic]* $[| $v7:tactic]* $[| $v8:tactic]* $[| $v9:tactic]* $[| $v10:tactic]* $[| $v11:tactic]* $[| $v12:tactic]* $[| $v13:tactic]* $[| $v14:tactic]* $[| $v15:tactic]* $[| $v16:tactic]* | (refine NO _ (yJ (by kernel_rfl)) NP ?_ <;> trivial) $[| $v18:tactic]* $[| $v19:tactic]* $[| $v20:tactic]* $[| $v21:tactic]* $[| $v23:tactic]* | (refine zdq rfl (Txt.b_list (by assumption)) rfl (Txt.b_reversed (by assumption)) ?_ <;> trivial) $[| $cc:tactic]* $[| $dd:tactic]* $[| $ee:tactic]* $[| $ff:tactic]* | (refine PW.pt ?_ <;> trivial) | (refine NB ?_ <;> trivial) | (refine fe ?_ <;> trivial) | refine zac ?_ | refine Zp ?_ | refine fe (zac ?_) | refine fe (Zp ?_) | refine hvG ?_)
def ok_is_whole(T:Txt G ad fd):zm G 1 (ad 0) (fd 0) ["thing"] qh:=T.is_whole.okD zc1 λcd A a hr=>by trivial
def ok_divisor(T:Txt G ad fd):zm G 1 (ad 1) (fd 1) ["one","other"] j9:=T.divisor.okD zb0 λcd A a hr=>by trivial
def ok_point(T:Txt G ad fd):zm G 2 (ad 2) (fd 2) ["x","y","w"] qF:=T.point.okD zdz λcd A a hr=>by trivial
def ok_before(T:Txt G ad fd):zm G 1 (ad 3) (fd 3) ["P","Q"] vn:=T.before.okD zco λcd A a hr=>by trivial
def ok_sign_of(T:Txt G ad fd):zm G 1 (ad 4) (fd 4) ["number"] qU:=T.sign_of.okD zd1 λcd A a hr=>by trivial
def ok_line_of(T:Txt G ad fd):zm G 1 (ad 5) (fd 5) ["P","Q"] vz:=T.line_of.okD zdd λcd A a hr=>by trivial
def ok_side_of(T:Txt G ad fd):zm G 2 (ad 6) (fd 6) ["line","P"] xD:=T.side_of.okD ze9 λcd A a hr=>by trivial
def ok_turn(T:Txt G ad fd):zm G 3 (ad 7) (fd 7) ["P","Q","R"] jO:=T.turn.okD KO λcd A a hr=>by trivial
def ok_met(T:Txt G ad fd):zm G 3 (ad 8) (fd 8) ["one","other"] Yu:=T.met.okD O6 λcd A a hr=>by trivial
def ok_order_keys(T:Txt G ad fd):zm G 1 (ad 10) (fd 10) ["points"] jz:=T.order_keys.okD zci λcd A a hr=>by trivial
def ok_in_order(T:Txt G ad fd):zm G 3 (ad 11) (fd 11) ["points"] j7:=T.in_order_c.okD zcq λA a hr=>by
   trivial
   ·exact Wu (P:=ad 46) (c0:=ad 45) (clos:=[("keys",a+1)]) (js:=[1]) (TX (kyP (O1 hr))) hr.depth rfl T.b_sorted (ZR (by trivial)) (show xL "P" ["keys"] _ from qB rfl (by decide+kernel)) (.cons .nil rfl (by first|exact .inl rfl|exact .inr rfl) rfl) rfl rfl rfl (λ_ _ _ _=>rfl) (λfa c a rb=>by trivial) T.in_order_l
def ok_by_points(T:Txt G ad fd):zm G 3 (ad 12) (fd 12) ["things"] qD:=T.by_points_c.okD zd5 λA a hr=>by
   trivial
   ·exact Wu (P:=ad 48) (c0:=ad 47) (clos:=[("keys",a+1)]) (js:=[3]) (TX (kyL (O1 hr))) hr.depth rfl T.b_sorted (ZR (by trivial)) (show xL "thing" ["keys"] _ from qB rfl (by decide+kernel)) (.cons .nil rfl (by first|exact .inl rfl|exact .inr rfl) rfl) rfl rfl rfl (λ_ _ _ _=>rfl) (λfa c a rb=>by trivial) T.by_points_l
def ok_stretch(T:Txt G ad fd):zm G 2 (ad 14) (fd 14) ["P","Q"] Yw:=T.stretch.okD zcs λcd A a hr=>by trivial
def ok_ends_of(T:Txt G ad fd):zm G 1 (ad 15) (fd 15) ["stretches"] jw:=T.ends_of.okD zcz λcd A a hr=>by trivial
def ok_meet_on_line(T:Txt G ad fd):zm G 2 (ad 17) (fd 17) ["one","other"] Yq:=T.meet_on_line.okD zdy λcd A a hr=>by trivial
def ok_meet(T:Txt G ad fd):zm G 4 (ad 16) (fd 16) ["one","other"] Yh:=T.meet.okD KQ λcd A a hr=>by trivial
def ok_shared_ends(T:Txt G ad fd):zm G 1 (ad 26) (fd 26) ["common"] qd:=T.shared_ends.okD zbs λcd A a hr=>by trivial
def ok_near_pairs(T:Txt G ad fd):zm G 3 (ad 27) (fd 27) ["stretches"] Yg:=T.near_pairs_c.okD zdn λA a hr=>by
   trivial
   ·exact Wu (P:=ad 54) (c0:=ad 53) (clos:=[("stretches",a+1),("keys",a+9)]) (js:=[0,1]) (TY (kyP (O1 hr))) hr.depth rfl T.b_sorted (O0 rfl T.b_range (by trivial)) (show xL "k" ["stretches","keys"] _ from qB rfl (by decide+kernel)) (.cons (.cons .nil rfl (by first|exact .inl rfl|exact .inr rfl) rfl) rfl (by first|exact .inl rfl|exact .inr rfl) rfl) rfl rfl rfl (λ_ _ _ _=>rfl) (λfa c a rb=>by trivial) T.near_pairs_l
def ok_stop_at(T:Txt G ad fd):zm G 1 (ad 23) (fd 23) ["P","numbers","stretches"] Y4:=T.stop_at.okD zct λcd A a hr=>by trivial
def ok_note(T:Txt G ad fd):FnW G 1 (ad 25) (fd 25) ["lying","P","number"] vM:=T.note.okW KR λcd A a hr=>by trivial
def ok_lying_at(T:Txt G ad fd):zm G 5 (ad 24) (fd 24) ["stretches"] Y0:=T.lying_at.okD zbv λcd A a hr=>by trivial
def ok_stops(T:Txt G ad fd):zm G 6 (ad 22) (fd 22) ["stretches"] YC:=T.stops.okD zdl λcd A a hr=>by trivial
def ok_pieces(T:Txt G ad fd):zm G 7 (ad 28) (fd 28) ["stretches"] cC:=T.pieces.okD zcp λcd A a hr=>by trivial
def ok_is_upright(T:Txt G ad fd):zm G 1 (ad 18) (fd 18) ["S"] Yv:=T.is_upright.okD zat λcd A a hr=>by trivial
def ok_mixed(T:Txt G ad fd):zm G 1 (ad 20) (fd 20) ["masks"] jX:=T.mixed.okD zby λcd A a hr=>by trivial
def ok_fans_of(T:Txt G ad fd):zm G 6 (ad 21) (fd 21) ["stretches"] YR:=T.fans_of_c.okD zbl λA a hr=>by
   trivial
   ·exact JP (P:=ad 52) (c0:=ad 51) (clos:=[("stretches",a+1),("fan",a+3),("S",a+2)]) (js:=[0,4,3]) T.halved za9 hr (by trivial) (show xL "k" ["stretches","fan","S"] _ from qB rfl (by decide+kernel)) (.cons (.cons (.cons .nil rfl (by first|exact .inl rfl|exact .inr rfl) rfl) rfl (by first|exact .inl rfl|exact .inr rfl) rfl) rfl (by first|exact .inl rfl|exact .inr rfl) rfl) rfl rfl rfl (λ_ _ _ _=>rfl) (λfa c A a rb hr=>by trivial) T.fans_of_l
def ok_flanks(T:Txt G ad fd):zm G 7 (ad 19) (fd 19) ["stretches","masks"] bV:=T.flanks_c.okD zd8 λA a hr=>by
   trivial
   ·exact JP (P:=ad 50) (c0:=ad 49) (clos:=[("standing",a+5),("lines",a+4),("P",a+3)]) (js:=[5,2,6]) T.halved za9 hr (by trivial) (show xL "k" ["standing","lines","P"] _ from qB rfl (by decide+kernel)) (.cons (.cons (.cons .nil rfl (by first|exact .inl rfl|exact .inr rfl) rfl) rfl (by first|exact .inl rfl|exact .inr rfl) rfl) rfl (by first|exact .inl rfl|exact .inr rfl) rfl) rfl rfl rfl (λ_ _ _ _=>rfl) (λfa c A a rb hr=>by trivial) T.flanks_l
def ok_sides_of(T:Txt G ad fd):zm G 3 (ad 29) (fd 29) ["rings"] bH:=T.sides_of.okD zbn λcd A a hr=>by trivial
def ok_flanked(T:Txt G ad fd):zm G 8 (ad 34) (fd 34) ["stretches"] bW:=T.flanked.okD zch λcd A a hr=>by trivial
def ok_straight_on(T:Txt G ad fd):zm G 4 (ad 32) (fd 32) ["fences"] Xe:=T.straight_on.okD ze0 λcd A a hr=>by trivial
def ok_straightened(T:Txt G ad fd):zm G 5 (ad 31) (fd 31) ["fences"] qP:=T.straightened.okD zeh λcd A a hr=>by trivial
def ok_fences_of(T:Txt G ad fd):zm G 6 (ad 30) (fd 30) ["rows"] bJ:=T.fences_of.okD zbe λcd A a hr=>by trivial
def ok_land_of(T:Txt G ad fd):zm G 9 (ad 33) (fd 33) ["rings"] xk:=T.land_of.okD ze6 λcd A a hr=>by trivial
def ok_amid(T:Txt G ad fd):zm G 3 (ad 9) (fd 9) ["P","Q"] j6:=T.amid.okD KP λcd A a hr=>by trivial
def ok_law_cell_at(T:Txt G ad fd):zm G 1 (ad 35) (fd 35) ["_law_script","_law_k"] zZ:=T.law_cell_at.okD zdi λcd A a hr=>by trivial
def ok_law_whole(T:Txt G ad fd):zm G 1 (ad 36) (fd 36) ["_law_found"] ba:=T.law_whole.okD zeg λcd A a hr=>by trivial
def ok_law_lowest(T:Txt G ad fd):zm G 1 (ad 37) (fd 37) ["_law_x","_law_y","_law_w"] br:=T.law_lowest.okD zas λcd A a hr=>by trivial
def ok_law_point(T:Txt G ad fd):zm G 2 (ad 38) (fd 38) ["_law_cell","_law_far_here"] wG:=T.law_point.okD zdo λcd A a hr=>by trivial
theorem okr_law_alike(T:Txt G ad fd):∀n,zm G (n+2) (ad 41) (fd 41) ["_law_found","_law_due"] (av n)
  |0=>⟨λ_ _ h=>(nomatch h),λ_ _ _ _ _ _ _ _ _ _ _ h=>(nomatch h)⟩
  |n+1=>T.law_alike.okD zc3 λcd A a hr=>by trivial
def ok_law_alike(T:Txt G ad fd):zm G 6 (ad 41) (fd 41) ["_law_found","_law_due"] YO:=okr_law_alike T 4
def ok_law_far_ring(T:Txt G ad fd):zm G 3 (ad 42) (fd 42) ["_law_script","_law_far_here"] wz:=T.law_far_ring.okD zd9 λcd A a hr=>by trivial
def ok_law_otherwise(T:Txt G ad fd):zm G 4 (ad 43) (fd 43) ["_law_ring","_law_cell"] jj:=T.law_otherwise.okD zck λcd A a hr=>by trivial
def ok_law_rings(T:Txt G ad fd):zm G 3 (ad 39) (fd 39) ["_law_script","_law_at","_law_far_here"] jx:=T.law_rings.okD zbj λcd A a hr=>by trivial
def ok_law_far(T:Txt G ad fd):zm G 1 (ad 40) (fd 40) ["_law_cell"] qQ:=T.law_far.okD zc2 λcd A a hr=>by trivial
def ok_law(T:Txt G ad fd):zm G 10 (ad 44) (fd 44) ["_law_script"] F_law:=T.law.okD O7 λcd A a hr=>by trivial
end
end Nu
noncomputable section
namespace Nu
end Nu
end
end Mine
namespace L2
open PySem
def cbig{i j:Int}{m n:Nat}(h1:i.natAbs<2^m)(h2:j.natAbs<2^n)(hm:m<=1000000:=by decide)(hn:n<=1000000:=by decide):Ib i j:=
 ⟨gR h1 (Aw (by decide) hm),gR h2 (Aw (by decide) hn)⟩
def T4{i j:Int}{n:Nat}(h0:j≠0)(h:j.natAbs<2^n)(hn:n<=8999:=by decide):YQ i j:=⟨h0,gR h (Aw (by decide) hn)⟩
theorem KV{xs:List Dt}{k:Nat}{a:Dt}(h:xs[k]?=some a):Ig xs (k:Int)=some a:=by
 have hi:=(kE.mp h).1;unfold Ig ixN;rw[θ (by lia),θ (by lia)]
 exact h
abbrev Dt.scr(ns:List Int):Dt:=.list (ns.map .int)
end L2
namespace L2
open PySem PySem.Spec PyProof.Rows
open PySem.W (KasT kas_asc kas_desc kas_rev kas_tail3 kas_descPart kas_count kas_place kas_bin kas_sort)
theorem vU{α β:Type}{aE:Nat->Nat->Bool}{f:α->KasT β}:∀t:KasT α,zU aE (t.bind f)=zU aE (f (zU aE t))
 |.ret a=>rfl
 |.ask i j k=>vU (k (aE i j))
abbrev gX(p:Array Nat):Nat->Nat:=λk=>p.getD k 0
section
variable{n:Nat}{aE:Nat->Nat->Bool}{p:Array Nat}{m:Nat}
theorem rvN{a:Nat}(hm:m<=p.size):gX (kas_rev p a m)=xf (gX p) a m:=Ji (g:=λk=>k) (lo:=0) (by lia) (by lia) (by lia) (by lia)
theorem Pc(T:A9 aE){P:Nat->Prop}(h:∀m,1<=m->m<=n->bB aE (gX p) m->(m<n->aE (gX p m) (gX p (m-1))=true)->P m):∀f m,1<=m->m+f=n->bB aE (gX p) m->P (zU aE (kas_asc p f m))
 |0,m,h1,hm,u=>h m h1 (by lia) u λz=>by lia
 |f+1,m,h1,hm,u=>by
  show P (zU aE (if aE (gX p m) (gX p (m-1))=true then .ret m else kas_asc p f (m+1)))
  cases c:aE (gX p m) (gX p (m-1)) with
  |true=>exact h m h1 (by lia) u λ_=>c
  |false=>exact Pc T h f (m+1) (by lia) (by lia) (u.step T λ_=>c)
theorem YD(T:A9 aE){P:Array Nat×Nat×Nat->Prop}(h:∀p m q,q+1<=m->m<=n->p.size=n->t9 aE (gX p) m->H7 aE (gX p) m q->P (p,m,q)):∀f p m q,q+1<=m->m+f=n->p.size=n->t9 aE (gX p) m->H7 aE (gX p) m q->P (zU aE (kas_desc f p m q))
 |0,p,m,q,hq,hm,hz,u,e=>h p m q hq (by lia) hz u e
 |f+1,p,m,q,hq,hm,hz,u,e=>by
  show P (zU aE (if aE (gX p m) (gX p (m-1))=true then(if q>0 then kas_desc f (kas_rev p (m-(q+1)) m) (m+1) 0 else kas_desc f p (m+1) 0)
   else .ask (gX p (m-1)) (gX p m) λd=>if d=true then .ret (p,m,q) else kas_desc f p (m+1) (q+1)))
  cases c:aE (gX p m) (gX p (m-1)) with
  |true=>
   rw[θ rfl]
   split
   ·exact YD T h f _ _ 0 (by lia) (by lia) ((FL _ _ _ _).trans hz) (rvN (p:=p) (m:=m) (by lia)▸Wv T hq u e c) (jv T m)
   ·exact YD T h f p _ 0 (by lia) (by lia) hz (u.step T.flip λ_=>T.asymm c) (jv T m)
  |false=>
   show P (zU aE (if aE (gX p (m-1)) (gX p m)=true then .ret (p,m,q) else kas_desc f p (m+1) (q+1)))
   cases y:aE (gX p (m-1)) (gX p m) with
   |true=>exact h p m q hq (by lia) hz u e
   |false=>exact YD T h f p _ _ (by lia) (by lia) hz (u.step T.flip λ_=>y) (VS T (by lia) e c y)
section
variable{P:Nat×Array Nat->Prop}(h:∀m p,1<=m->m<=n->p.size=n->bB aE (gX p) m->P (m,p))
include h
theorem MK(T:A9 aE)(h1:1<=m)(hm:m<=n)(hz:p.size=n)(d:t9 aE (gX p) m):P (zU aE (kas_tail3 m n p)):=by
 unfold kas_tail3;rw[vU];exact Pc (n:=n) (P:=λk=>P (k,_)) T (λk a b u _=>h k _ a b ((FL _ _ _ _).trans hz) u) _ m h1 (by lia) (rvN (p:=p) (m:=m) (by lia)▸Za d)
theorem dpW(T:A9 aE)(hm:m+1<=n)(hz:p.size=n)(d:t9 aE (gX p) (m+1)):P (zU aE (kas_descPart m n p)):=by
 unfold kas_descPart;rw[vU];refine YD (n:=n) (P:=λr=>P (zU aE (if r.2.2>0 then kas_tail3 r.2.1 n (kas_rev r.1 (r.2.1-(r.2.2+1)) r.2.1) else kas_tail3 r.2.1 n r.1))) T (λp m q a b z d e=>?_) _ p _ 0 (by lia) (by lia) hz d (jv T m)
 dsimp only
 split
 ·exact MK h T (by lia) b ((FL _ _ _ _).trans z) (rvN (p:=p) (m:=m) (by lia)▸Xs d e)
 ·exact MK h T (by lia) b z d
theorem Pd(T:A9 aE)(hn:0<n)(hz:p.size=n):P (zU aE (kas_count n p)):=by
 unfold kas_count;rw[vU];refine Pc (n:=n) (p:=p) (P:=λk=>P (zU aE (if(k==n)=true then .ret (k,p) else if k>1 then .ask (p.getD 0 0) (p.getD (k-1) 0) λc=>if c=true then .ret (k,p) else kas_descPart k n (kas_rev p 0 k) else kas_descPart k n p))) T (λm a b u y=>?_) _ 1 (pI _) (by lia) λi j ci hj=>by lia
 by_cases c1:(m==n)=true
 ·rw[θ c1];exact h m p a b hz u
 rw[η c1];have c1:m≠n:=λz=>c1 (by rw[z];exact χ _)
 have y:=y (by lia)
 split
 ·show P (zU aE (if aE (gX p 0) (gX p (m-1))=true then .ret (m,p) else kas_descPart m n (kas_rev p 0 m)))
  cases x:aE (gX p 0) (gX p (m-1)) with
  |true=>exact h m p a b hz u
  |false=>exact dpW h T (by lia) ((FL _ _ _ _).trans hz) (rvN (p:=p) (m:=m) (by lia)▸Z9 T u a x y)
 ·exact dpW h T (by lia) hz (bB.step T.flip (λi j ci hj=>by lia) λ_=>T.asymm y)
end
theorem Xv(T:A9 aE){k:Nat}(u:bB aE (gX p) k){P:Nat->Prop}(h:∀l,l<=k->(∀i,i<l->aE (gX p k) (gX p i)=false)->(∀i,l<=i->i<k->aE (gX p k) (gX p i)=true)->P l):∀f l r,l<=r->r<=k->r-l<=f->(∀i,i<l->aE (gX p k) (gX p i)=false)->(∀i,r<=i->i<k->aE (gX p k) (gX p i)=true)->P (zU aE (kas_place p k f l r))
 |0,l,r,h1,h2,h3,hl,hr=>h l (by omega) hl λi a b=>hr i (by omega) b
 |f+1,l,r,h1,h2,h3,hl,hr=>by
  unfold kas_place
  split
  ·exact h l (by omega) hl λi a b=>hr i (by omega) b
  show P (zU aE (if aE (gX p k) (gX p ((l+r)/2))=true then kas_place p k f l ((l+r)/2) else kas_place p k f ((l+r)/2+1) r))
  cases e:aE (gX p k) (gX p ((l+r)/2)) with
  |true=>exact Xv T u h f l _ (by omega) (by omega) (by omega) hl λi a b=>MB T u e a b
  |false=>exact Xv T u h f _ r (by omega) h2 (by omega) (λi a=>MC T u e (by omega) (by omega)) hr
theorem T5(T:A9 aE):∀f(p:Array Nat) k,p.size=n->k+f=n->bB aE (gX p) k->bB aE (gX (zU aE (kas_bin f p k))) n
 |0,p,k,h,hk,u=>hk▸u
 |f+1,p,k,z,hk,u=>by
  unfold kas_bin;rw[vU];refine Xv (P:=λl=>bB aE (gX (zU aE (kas_bin f (bubble p k (k-l)) (k+1)))) n) T u (λl a1 a2 a3=>?_) k 0 k (QB _) (pI _) (by lia) (λi hi=>by lia) (λi a b=>by lia)
  refine T5 T f _ (k+1) ((HC _ _ _).size_eq.trans z) (by lia) ?_
  have:=Jt (d:=0) (xs:=p) (g:=λk=>k) (lo:=0) (k:=k) (by lia) (by lia) a1
  simp only[GT] at this;have e:=VQ T a1 u a2 a3
  rwa [<-this] at e
theorem zd0(T:A9 aE)(hn:0<n):bB aE (gX (zU aE (kas_sort n))) n:=by
 unfold kas_sort;rw[vU];refine Pd (P:=λr=>bB aE (gX (zU aE (if r.1<n then kas_bin (n-max r.1 1) r.2 (max r.1 1) else .ret r.2))) n) (λm p m1 m2 z u=>?_) T hn (by simp)
 by_cases c:m<n
 ·simp only[c,if_true];have x:max m 1=m:=by lia
  rw[x];exact T5 T (n-m) p m z (by lia) u
 ·simp only[c,if_false];have x:m=n:=by lia
  subst x;exact u
end
end L2
set_option autoImplicit false
namespace My
section
noncomputable def G(a b:Int):Int:=(Int.gcd a b:Nat)
def zcd(a b:Int):0<=G a b:=Int.natCast_nonneg _
theorem Xq{a b:Int}(h:0<=a)(hb:b=0):a=G a b:=by
 subst hb;unfold G;rw[Int.gcd_zero_right];lia
variable{a b:Int}
theorem jf(h:b ∣ a):a.fdiv b*b=a:=by
 have e:=Bz a b;have z:a.fmod b=0:=Int.fmod_eq_zero_of_dvd h;rw[z] at e;rw[ud];omega
theorem WQ{x f y:Int}(e:x*f=y)(hf:f≠0):x.natAbs<=y.natAbs:=by
 rw[<-e,Uh];exact Nat.le_mul_of_pos_right _ (by lia)
theorem zc9{x f y:Int}(e:x*f=y)(h:(0<f/\0<y)\/(f<0/\y<0)):0<x:=by
 rcases(by lia:0<x\/x=0\/x<0) with hx|hx|hx
 ·exact hx
 ·rw[hx,uL] at e;omega
 ·exfalso
  rcases h with⟨h1,h2⟩|⟨h1,h2⟩
  ·have:=pR hx h1;lia
  ·have:=DB hx h1;lia
variable{m:Nat}
def zX{n:Nat}(h1:a.natAbs<2^m)(h2:b.natAbs<2^n):(a*b).natAbs<2^(m+n):=by
 rw[Uh,IL];exact Dz h1 h2
theorem xb(h1:a.natAbs<2^m)(h2:b.natAbs<2^m):(a-b).natAbs<2^(m+1):=by
 rw[ER];omega
def zN{n:Nat}(h:a.natAbs<2^m)(hm:m<=n):a.natAbs<2^n:=gR h (Aw (by decide) hm)
end
section
noncomputable def g3(a b c:Int):Nat:=IQ (IQ a.natAbs b.natAbs) c.natAbs
def ML(a b:Int):(G a b).natAbs=IQ a.natAbs b.natAbs:=by unfold G;rw[Fu];rfl
theorem G3(a b c:Int):G (G a b) c=(g3 a b c:Int):=by
 have h:(G (G a b) c).natAbs=g3 a b c:=by rw[ML,ML];rfl
 have h0:=zcd (G a b) c;lia
def zae(a b c:Int):g3 c a b=g3 a b c:=by
 unfold g3;rw[Nat.gcd_assoc,Nat.gcd_comm]
def Xg(a b c f:Int):g3 (a*f) (b*f) (c*f)=g3 a b c*f.natAbs:=by
 unfold g3;rw[Uh,Uh,Uh,GU,GU]
theorem Jk{a b c:Int}(h:c≠0):0<g3 a b c:=by
 unfold g3;exact Nat.gcd_pos_of_pos_right _ (by lia)
def MM(a b c:Int):((g3 a b c:Nat):Int) ∣ a:=Ct.mpr (Hn (EA _ _) (EA _ _))
def MN(a b c:Int):((g3 a b c:Nat):Int) ∣ b:=Ct.mpr (Hn (EA _ _) (DO _ _))
def MO(a b c:Int):((g3 a b c:Nat):Int) ∣ c:=Ct.mpr (DO _ _)
structure Pt(n:Nat)(x y w:Int):Prop where
 pos:0<w
 one:g3 x y w=1
 lx:x.natAbs<2^n
 ly:y.natAbs<2^n
 lw:w.natAbs<2^n
variable{n:Nat}{x y w:Int}
theorem Pt.ne(h:Pt n x y w):w≠0:=by have:=h.pos;lia
def Pt.mono{m:Nat}(h:Pt m x y w)(hm:m<=n):Pt n x y w:=⟨h.pos,h.one,zN h.lx hm,zN h.ly hm,zN h.lw hm⟩
theorem T6{f:Int}(hf:f.natAbs=g3 x y w)(hs:(0<f/\0<w)\/(f<0/\w<0))(lx:x.natAbs<2^n)(ly:y.natAbs<2^n)(lw:w.natAbs<2^n):Pt n (x.fdiv f) (y.fdiv f) (w.fdiv f):=by
 have hd:∀z:Int,((g3 x y w:Nat):Int) ∣ z->f ∣ z:=λz h=>by
  rw[<-hf] at h;exact Hf.mp h
 have ex:=jf (hd x (MM x y w));have ey:=jf (hd y (MN x y w));have ew:=jf (hd w (MO x y w));have hw:w≠0:=by lia
 have fn:f≠0:=by lia
 refine⟨zc9 ew hs,?_,Qt (WQ ex fn) lx,Qt (WQ ey fn) ly,Qt (WQ ew fn) lw⟩;have e:=Xg (x.fdiv f) (y.fdiv f) (w.fdiv f) f;rw[ex,ey,ew,hf] at e;have hp:=Jk (a:=x) (b:=y) hw;have e':1*g3 x y w=g3 (x.fdiv f) (y.fdiv f) (w.fdiv f)*g3 x y w:=by omega
 exact(Nat.eq_of_mul_eq_mul_right hp e').symm
noncomputable def bN(x y w:Int):Int:=if w<0 then-G (G w x) y else G (G w x) y
def XT(x y w:Int):(bN x y w).natAbs=g3 x y w:=by
 unfold bN;rw[G3,zae]
 split<;>simp
theorem W8(h:w≠0):(0<bN x y w/\0<w)\/(bN x y w<0/\w<0):=by
 unfold bN;have hp:=Jk (a:=x) (b:=y) h;rw[G3,zae]
 split
 ·exact .inr ⟨by lia,by lia⟩
 ·exact .inl ⟨by lia,by lia⟩
theorem XM(h:w≠0):bN x y w≠0:=by rcases W8 (x:=x) (y:=y) h with z|z<;>omega
def Ws(x y w z:Int)(h:((g3 x y w:Nat):Int) ∣ z):bN x y w ∣ z:=by
 rw[<-XT] at h;exact Hf.mp h
theorem KW(h:w≠0):(bN x y w).natAbs<=w.natAbs:=by
 rw[XT];exact Nat.le_of_dvd (by lia) (DO _ _)
noncomputable def MP(x y w:Int):Int:=x.fdiv (bN x y w)
noncomputable def MQ(x y w:Int):Int:=y.fdiv (bN x y w)
noncomputable def MS(x y w:Int):Int:=w.fdiv (bN x y w)
def qZ(h:w≠0)(lx:x.natAbs<2^n)(ly:y.natAbs<2^n)(lw:w.natAbs<2^n):Pt n (MP x y w) (MQ x y w) (MS x y w):=T6 (XT x y w) (W8 h) lx ly lw
def Wp(x y w:Int):MP x y w*bN x y w=x:=jf (Ws _ _ _ _ (MM x y w))
def X7(x y w:Int):MQ x y w*bN x y w=y:=jf (Ws _ _ _ _ (MN x y w))
def Xt(x y w:Int):MS x y w*bN x y w=w:=jf (Ws _ _ _ _ (MO x y w))
end
section
noncomputable def aB(z:Int):Int:=if 0<z then 1 else if z<0 then-1 else 0
variable{z:Int}
def ZK(h:0<z):aB z=1:=θ h
theorem VU(h:z<0):aB z= -1:=by unfold aB;rw[η (by omega),θ h]
def wM:aB 0=0:=by decide
theorem xr(z:Int):(0<z/\aB z=1)\/(z<0/\aB z= -1)\/(z=0/\aB z=0):=by
 rcases(by lia:0<z\/z<0\/z=0) with h|h|h
 ·exact .inl ⟨h,ZK h⟩
 ·exact .inr (.inl ⟨h,VU h⟩)
 ·exact .inr (.inr ⟨h,by rw[h];rfl⟩)
theorem zF:aB z=0↔z=0:=by
 rcases xr z with⟨h,e⟩|⟨h,e⟩|⟨h,e⟩<;>rw[e]<;>lia
noncomputable def fG(x1 y1 w1 x2 y2 w2:Int):Bool:=if x1*w2=x2*w1 then decide (y1*w2<y2*w1) else decide (x1*w2<x2*w1)
theorem wq{a b c u v w:Int}(hu:0<u)(hv:0<v)(hw:0<w)(h1:a*v<=b*u)(h2:b*w<=c*v):a*w<=c*u/\((a*v<b*u\/b*w<c*v)->a*w<c*u):=by
 have e1:(a*v)*w<=(b*u)*w:=Ux h1 (kY hw);have e2:(b*w)*u<=(c*v)*u:=Ux h2 (kY hu);have i1:v*(a*w)=(a*v)*w:=by grind
 have i2:v*(c*u)=(c*v)*u:=by grind
 have i3:(b*u)*w=(b*w)*u:=by grind
 refine⟨Int.le_of_mul_le_mul_left (by lia) hv,λh=>Int.lt_of_mul_lt_mul_left (a:=v) ?_ (kY hv)⟩
 rcases h with h|h
 ·have:=Ca h hw;lia
 ·have:=Ca h hu;lia
theorem KY(x y w:Int):fG x y w x y w=false:=by
 unfold fG;rw[θ rfl];exact ι (by lia)
variable{x1 y1 w1 x2 y2 w2:Int}
theorem wC:fG x1 y1 w1 x2 y2 w2=true↔(x1*w2<x2*w1\/(x1*w2=x2*w1/\y1*w2<y2*w1)):=by
 unfold fG
 split
 ·rename_i h
  rw[τ];omega
 ·rename_i h
  rw[τ];omega
theorem wV:fG x1 y1 w1 x2 y2 w2=false↔(x2*w1<x1*w2\/(x1*w2=x2*w1/\y2*w1<=y1*w2)):=by
 rw[<-EB,wC];omega
theorem zec{x3 y3 w3:Int}(h1:0<w1)(h2:0<w2)(h3:0<w3)(a:fG x1 y1 w1 x2 y2 w2=true)(b:fG x2 y2 w2 x3 y3 w3=true):fG x1 y1 w1 x3 y3 w3=true:=by
 rw[wC] at a b⊢;have X:=wq (a:=x1) (b:=x2) (c:=x3) h1 h2 h3 (by lia) (by lia)
 rcases a with a|⟨a,a'⟩
 ·exact .inl (X.2 (.inl a))
 ·rcases b with b|⟨b,b'⟩
  ·exact .inl (X.2 (.inr b))
  ·have X':=wq (a:=x3) (b:=x2) (c:=x1) h3 h2 h1 (by lia) (by lia)
   have Y:=wq (a:=y1) (b:=y2) (c:=y3) h1 h2 h3 (by lia) (by lia)
   exact .inr ⟨EZ X.1 X'.1,Y.2 (.inl a')⟩
theorem JE{n:Nat}(p:Pt n x1 y1 w1)(q:Pt n x2 y2 w2)(ex:x1*w2=x2*w1)(ey:y1*w2=y2*w1):x1=x2/\y1=y2/\w1=w2:=by
 have a:=Xg x1 y1 w1 w2;have b:=Xg x2 y2 w2 w1;rw[p.one,IM] at a;rw[q.one,IM] at b;rw[ex,ey,ud w1 w2] at a;have hw:w1=w2:=by
  have:=p.pos;have:=q.pos;lia
 subst hw;exact⟨Cu p.ne ex,Cu p.ne ey,rfl⟩
theorem ZY{n:Nat}(p:Pt n x1 y1 w1)(q:Pt n x2 y2 w2)(h:fG x1 y1 w1 x2 y2 w2=fG x2 y2 w2 x1 y1 w1):x1=x2/\y1=y2/\w1=w2:=by
 cases e:fG x1 y1 w1 x2 y2 w2 with
 |true=>
  have e':=h.symm.trans e;rw[wC] at e e';exact(e.elim (λx=>e'.elim (λy=>IC x y) λy=>by rw[y.1] at x;exact Ho _ x) λx=>e'.elim (λy=>by rw[x.1] at y;exact Ho _ y) λy=>IC x.2 y.2).elim
 |false=>
  have e':=h.symm.trans e;rw[wV] at e e';exact JE p q (by omega) (by omega)
noncomputable def bQ(x1 y1 w1 x2 y2 w2:Int):Int:=y1*w2-w1*y2
noncomputable def bR(x1 y1 w1 x2 y2 w2:Int):Int:=w1*x2-x1*w2
noncomputable def bX(x1 y1 w1 x2 y2 w2:Int):Int:=x1*y2-y1*x2
noncomputable def aS(x1 y1 w1 x2 y2 w2 x3 y3 w3:Int):Int:=bQ x1 y1 w1 x2 y2 w2*x3+bR x1 y1 w1 x2 y2 w2*y3+bX x1 y1 w1 x2 y2 w2*w3
end
section
def VE(x y:Int):G y (x.fmod y)=G x y:=by
 unfold G;rw[Int.gcd_comm x y];have e:x.fmod y+x.fdiv y*y=x:=by rw[ud];exact Bz x y
 rw[<-Int.gcd_add_mul_right_right y (x.fmod y) (x.fdiv y),e]
theorem zbc(x1 y1 w1 x2 y2 w2:Int):aS x1 y1 w1 x2 y2 w2 x1 y1 w1=0:=by unfold aS bQ bR bX;grind
theorem zdm(x1 y1 w1 x2 y2 w2:Int):aS x1 y1 w1 x2 y2 w2 x2 y2 w2=0:=by unfold aS bQ bR bX;grind
theorem zbz{x1 y1 w1 x2 y2 w2:Int}(h:fG x1 y1 w1 x2 y2 w2=true):fG x2 y2 w2 x1 y1 w1=false:=by
 rw[wC] at h;rw[wV];omega
noncomputable def onB(x1 y1 w1 x2 y2 w2 x3 y3 w3:Int):Bool:=if aB (aS x1 y1 w1 x2 y2 w2 x3 y3 w3)=0 then(!fG x3 y3 w3 x1 y1 w1&& !fG x2 y2 w2 x3 y3 w3) else false
structure Q3 where
 x:Int
 y:Int
 w:Int
deriving DecidableEq
noncomputable def dt(a b c:Q3):Int:=aS a.x a.y a.w b.x b.y b.w c.x c.y c.w
noncomputable def dX(a b:Q3):Int:=b.x*a.w-a.x*b.w
noncomputable def dY(a b:Q3):Int:=b.y*a.w-a.y*b.w
def LP(u v:Int):Prop:=0<u\/(u=0/\0<v)
def Lt(s:Int)(a b:Q3):Prop:=LP (s*dX a b) (s*dY a b)
variable{A B C:Int}
theorem Pe{u1 u2 v1 v2 w1 w2:Int}(e1:A*u1=B*v1+C*w1)(e2:A*u2=B*v2+C*w2)(hu:LP u1 u2)(hv:LP v1 v2)(hw:LP w1 w2)(hB:0<=B)(hC:0<=C):0<=A:=by
 have nn:∀{K a b:Int},0<=K->LP a b->0<=K*a/\(K*a=0->0<=K*b):=λ{K a b} hK h=>by
  rcases h with h|⟨h,h'⟩
  ·refine⟨pg hK (by lia),λe=>?_⟩
   rcases kj.mp e with e|e
   ·rw[e,uL];exact gq _
   ·lia
  ·exact⟨by rw[h,uR];exact gq _,λ_=>pg hK (by lia)⟩
 have nB:=nn hB hv;have nC:=nn hC hw;rcases hu with h|⟨h,h'⟩
 ·refine ES.mp λz=>?_;have:=pR z h;lia
 ·rw[h,uR] at e1;have b0:B*v1=0:=by lia
  have c0:C*w1=0:=by lia
  have:=nB.2 b0;have:=nC.2 c0;refine ES.mp λz=>?_;have:=pR z h';lia
theorem KZ{u1 u2 v1 v2 w1 w2:Int}(e1:A*u1=B*v1+C*w1)(e2:A*u2=B*v2+C*w2)(hu:LP u1 u2)(hv:LP v1 v2)(hw:LP w1 w2)(hB:0<=B)(hC:0<C):0<A:=by
 have h0:=Pe e1 e2 hu hv hw hB (kY hC);rcases(by lia:0<A\/A=0) with h|h
 ·exact h
 exfalso
 rw[h,uL] at e1 e2;have b1:0<=B*v1:=by
  refine pg hB ?_;rcases hv with h|h<;>lia
 have c1:0<=C*w1:=by
  refine pg (kY hC) ?_;rcases hw with h|h<;>lia
 rcases hw with hw|⟨hw,hw'⟩
 ·have:=uB hC hw;lia
 ·have c2:=uB hC hw';rcases hv with hv|⟨hv,Pf⟩
  ·have b0:B*v1=0:=by lia
   rcases kj.mp b0 with z|z
   ·rw[z,uL] at e2;lia
   ·lia
  ·have:=pg hB (kY Pf);lia
theorem penX(b c p q:Q3):dt b p q*dX b c=dt b c q*dX b p+ -dt b c p*dX b q:=by unfold dt dX aS bQ bR bX;grind
theorem penY(b c p q:Q3):dt b p q*dY b c=dt b c q*dY b p+ -dt b c p*dY b q:=by unfold dt dY aS bQ bR bX;grind
theorem yG(a b c:Q3):dt b a c= -dt a b c:=by unfold dt aS bQ bR bX;grind
theorem Pg(a b c:Q3):dt c b a= -dt a b c:=by unfold dt aS bQ bR bX;grind
theorem Zf(a b c:Q3):dt b c a=dt a b c:=by unfold dt aS bQ bR bX;grind
theorem jh(a b:Q3):dt a b a=0:=by unfold dt aS bQ bR bX;grind
theorem wA(a b:Q3):dt a b b=0:=by unfold dt aS bQ bR bX;grind
theorem sc{s u v w:Int}(e:A*u=B*v+C*w):A*(s*u)=B*(s*v)+C*(s*w):=by
 have:A*(s*u)=s*(A*u):=by grind
 rw[this,e]
 grind
end
variable{a b:Int}
theorem MT{c d G:Int}(hb:0<b)(hd:0<d)(h:a*d<c*b)(hG:b*d<=G):a*G/b<c*G/d:=by
 have g0:0<=G:=GO (kY (uB hb hd)) hG;have h0:a*G/b*b<=a*G:=HP _ (by lia)
 have h1:=Ux h0 (kY hd);have h2:G*(a*d+1)<=G*(c*b):=AO (by lia) g0
 refine Int.lt_of_lt_of_le (Int.lt_succ _) (CB hd (Cv ?_ hb));generalize a*G/b=A at*
 calc (A+1)*d*b=A*b*d+b*d:=by grind
  _<=a*G*d+G:=Int.add_le_add h1 hG
  _=G*(a*d+1):=by grind
  _<=G*(c*b):=h2
  _=c*G*b:=by grind
theorem T7{c d G:Int}(hb:0<b)(hd:0<d)(h:a*d=c*b):a*G/b=c*G/d:=by
 have e1:a*G/b=(a*G*d)/(b*d):=(CX (a*G) b hd).symm;have e2:c*G/d=(c*G*b)/(d*b):=(CX (c*G) d hb).symm;rw[e1,e2,ud d b]
 congr 1
 have:a*G*d=G*(a*d):=by grind
 rw[this,h]
 grind
noncomputable def bq(a b:Q3):Bool:=fG a.x a.y a.w b.x b.y b.w
variable{a b:Q3}
theorem yV:bq a b=true↔Lt 1 a b:=by
 unfold bq Lt LP dX dY;rw[wC];omega
def PQ(n:Nat)(a:Q3):Prop:=Pt n a.x a.y a.w
def xo{n:Nat}(ha:PQ n a)(hb:PQ n b)(h1:bq a b=false)(h2:bq b a=false):a=b:=by
 obtain⟨e1,e2,e3⟩:=ZY ha hb (h1.trans h2.symm);obtain⟨x,y,w⟩:=a;obtain⟨x',y',w'⟩:=b
 simp only at e1 e2 e3
 rw[e1,e2,e3]
noncomputable def aP(g:Int)(r:Q3):Int×Int:=(r.x*(g*g)/r.w,r.y*(g*g)/r.w)
theorem MU{g:Int}(ha:0<a.w)(hb:0<b.w)(ga:a.w<=g)(gb:b.w<=g)(h:bq a b=true):L2.lt2 (aP g a) (aP g b)=true:=by
 have hG:a.w*b.w<=g*g:=Int.mul_le_mul ga gb (kY hb) (GO (kY ha) ga);unfold bq at h;rw[wC] at h;unfold L2.lt2 L2.lexB aP;rcases h with h|⟨h,h'⟩
 ·have:=MT ha hb h hG;rw[η (by lia)]
  exact ζ this
 ·rw[θ (T7 ha hb h)];exact ζ (MT ha hb h' hG)
end My
namespace Mine
open PySem L2 My
noncomputable def aJ(a b p:Q3):Bool:=onB a.x a.y a.w b.x b.y b.w p.x p.y p.w
def Q3.ext'{a b:Q3}(h:a.x=b.x/\a.y=b.y/\a.w=b.w):a=b:=by
 cases a;cases b;obtain⟨h1,h2,h3⟩:=h
 cases h1;cases h2;cases h3;rfl
variable{c d:Q3}{k u v:Int}
theorem Z7{p:Q3}(hk:0<k)(hu:0<=u)(hv:0<=v)(ex:k*p.x=u*c.x+v*d.x)(ey:k*p.y=u*c.y+v*d.y)(ew:k*p.w=u*c.w+v*d.w)(hb:bq c d=true):aJ c d p=true:=by
 unfold bq at hb;rw[wC] at hb;have dz:aS c.x c.y c.w d.x d.y d.w p.x p.y p.w=0:=by
  refine(kj.mp (show k*aS c.x c.y c.w d.x d.y d.w p.x p.y p.w=0 from ?_)).resolve_left (by lia)
  have:k*aS c.x c.y c.w d.x d.y d.w p.x p.y p.w=bQ c.x c.y c.w d.x d.y d.w*(k*p.x)+bR c.x c.y c.w d.x d.y d.w*(k*p.y)+bX c.x c.y c.w d.x d.y d.w*(k*p.w):=by unfold aS;grind
  rw[this,ex,ey,ew];unfold bQ bR bX;grind
 have x1:k*(p.x*c.w-c.x*p.w)=v*(d.x*c.w-c.x*d.w):=by grind
 have y1:k*(p.y*c.w-c.y*p.w)=v*(d.y*c.w-c.y*d.w):=by grind
 have x2:k*(d.x*p.w-p.x*d.w)=u*(d.x*c.w-c.x*d.w):=by grind
 have y2:k*(d.y*p.w-p.y*d.w)=u*(d.y*c.w-c.y*d.w):=by grind
 have sg:∀{z t r:Int},k*z=t*r->0<=t->0<r->0<=z/\(z=0->t=0):=λ{z t r} e ht hr=>by
  have h0:0<=t*r:=pg ht (kY hr);refine⟨?_,λhz=>?_⟩
  ·rcases gL z 0 with q|q
   ·have:=Int.mul_neg_of_pos_of_neg hk q;lia
   ·exact q
  ·rw[hz,uR] at e;exact(kj.mp e.symm).resolve_right (by lia)
 have zz:∀{z t r:Int},k*z=t*r->t=0\/r=0->z=0:=λ{z t r} e h=>by
  have:t*r=0:=Int.mul_eq_zero.mpr h;rw[this] at e;exact(kj.mp e).resolve_left (by lia)
 have b1:fG p.x p.y p.w c.x c.y c.w=false:=by
  rw[wV];rcases hb with hb|⟨hb,hy⟩
  ·obtain⟨n1,n2⟩:=sg x1 hv (by lia)
   by_cases q:p.x*c.w-c.x*p.w=0
   ·have:=zz y1 (.inl (n2 q));exact .inr ⟨by lia,by lia⟩
   ·exact .inl (by lia)
  ·have q:=zz x1 (.inr (by lia))
   obtain⟨n1,n2⟩:=sg y1 hv (by lia)
   exact .inr ⟨by lia,by lia⟩
 have b2:fG d.x d.y d.w p.x p.y p.w=false:=by
  rw[wV];rcases hb with hb|⟨hb,hy⟩
  ·obtain⟨n1,n2⟩:=sg x2 hu (by lia)
   by_cases q:d.x*p.w-p.x*d.w=0
   ·have:=zz y2 (.inl (n2 q));exact .inr ⟨by lia,by lia⟩
   ·grind
  ·have q:=zz x2 (.inr (by lia))
   obtain⟨n1,n2⟩:=sg y2 hu (by lia)
   exact .inr ⟨by lia,by lia⟩
 unfold aJ onB;rw[dz,wM,θ rfl,b1,b2];rfl
theorem btw{p:Q3}(hp:0<p.w)(hc:0<c.w)(hd:0<d.w)(hk:k≠0)(h:(0<=u/\0<=v)\/(u<=0/\v<=0))(ex:k*p.x=u*c.x+v*d.x)(ey:k*p.y=u*c.y+v*d.y)(ew:k*p.w=u*c.w+v*d.w)(hb:bq c d=true):aJ c d p=true:=by
 rcases h with⟨hu,hv⟩|⟨hu,hv⟩
 ·have h1:=pg hu (kY hc);have h2:=pg hv (kY hd);have kp:0<k:=by
   rcases gL k 0 with q|q
   ·have:=pR q hp;lia
   ·lia
  exact Z7 kp hu hv ex ey ew hb
 ·have h1:=pg (show 0<= -u by lia) (kY hc)
  have h2:=pg (show 0<= -v by lia) (kY hd)
  rw[gA] at h1 h2;have kp:0< -k:=by
   rcases gL k 0 with q|q
   ·lia
   ·have:=uB (show 0<k by lia) hp
    lia
  refine Z7 kp (show 0<= -u by lia) (show 0<= -v by lia) ?_ ?_ ?_ hb
  ·rw[gA,gA,gA];lia
  ·rw[gA,gA,gA];lia
  ·grind
theorem vD(a b c d:Q3):dt a b d*c.x+ -dt a b c*d.x=dt c d a*b.x+ -dt c d b*a.x:=by unfold dt aS bQ bR bX;grind
theorem vt(a b c d:Q3):dt a b d*c.y+ -dt a b c*d.y=dt c d a*b.y+ -dt c d b*a.y:=by unfold dt aS bQ bR bX;grind
theorem vd(a b c d:Q3):dt a b d*c.w+ -dt a b c*d.w=dt c d a*b.w+ -dt c d b*a.w:=by unfold dt aS bQ bR bX;grind
theorem XN{s t:Int}(h:aB s≠aB t):(0<=t/\0<= -s)\/(t<=0/\ -s<=0):=by
 rcases xr s with⟨h1,e1⟩|⟨h1,e1⟩|⟨h1,e1⟩<;>rcases xr t with⟨h2,e2⟩|⟨h2,e2⟩|⟨h2,e2⟩<;>rw[e1,e2] at h<;>lia
theorem K1{a b p:Q3}(ha:0<a.w)(hb:0<b.w)(hc:0<c.w)(hd:0<d.w)(hp:0<p.w)(hk:k≠0)(cZ:bq a b=true)(dq:bq c d=true)(hs:aB (dt a b c)≠aB (dt a b d))(ht:aB (dt c d a)≠aB (dt c d b))
  (ex:k*p.x=dt a b d*c.x+ -dt a b c*d.x)(ey:k*p.y=dt a b d*c.y+ -dt a b c*d.y)(ew:k*p.w=dt a b d*c.w+ -dt a b c*d.w):aJ a b p=true/\aJ c d p=true:=by
 refine⟨?_,btw hp hc hd hk (XN hs) ex ey ew dq⟩;rw[vD,Cb] at ex;rw[vt,Cb] at ey;rw[vd,Cb] at ew;refine btw hp ha hb hk ?_ ex ey ew cZ;have:=XN ht;lia
inductive MR where
 |none
 |spot (p:Q3)
 |part (p q:Q3)
noncomputable def aF(a c:Q3):Q3:=if bq a c=true then c else a
noncomputable def aI(b d:Q3):Q3:=if bq b d=true then b else d
noncomputable def RI(a b c d:Q3):MR:=if bq (aI b d) (aF a c)=true then .none else if(aF a c).x=(aI b d).x/\(aF a c).y=(aI b d).y/\(aF a c).w=(aI b d).w then .spot (aF a c) else .part (aF a c) (aI b d)
noncomputable def fH(a b c d:Q3):Int:=bR a.x a.y a.w b.x b.y b.w*bX c.x c.y c.w d.x d.y d.w-bX a.x a.y a.w b.x b.y b.w*bR c.x c.y c.w d.x d.y d.w
noncomputable def fI(a b c d:Q3):Int:=bX a.x a.y a.w b.x b.y b.w*bQ c.x c.y c.w d.x d.y d.w-bQ a.x a.y a.w b.x b.y b.w*bX c.x c.y c.w d.x d.y d.w
noncomputable def bS(a b c d:Q3):Int:=bQ a.x a.y a.w b.x b.y b.w*bR c.x c.y c.w d.x d.y d.w-bR a.x a.y a.w b.x b.y b.w*bQ c.x c.y c.w d.x d.y d.w
theorem xt(a b c d:Q3):fH a b c d=dt a b d*c.x+ -dt a b c*d.x:=by unfold fH dt aS bQ bR bX;grind
theorem xq(a b c d:Q3):fI a b c d=dt a b d*c.y+ -dt a b c*d.y:=by unfold fI dt aS bQ bR bX;grind
theorem yS(a b c d:Q3):bS a b c d=dt a b d*c.w+ -dt a b c*d.w:=by unfold bS dt aS bQ bR bX;grind
noncomputable def crP(a b c d:Q3):Q3:=⟨MP (fH a b c d) (fI a b c d) (bS a b c d),MQ (fH a b c d) (fI a b c d) (bS a b c d),MS (fH a b c d) (fI a b c d) (bS a b c d)⟩
noncomputable def u6(a b c d:Q3):Q3:=if aB (dt a b c)=0 then c else if aB (dt a b d)=0 then d else if aB (dt c d a)=0 then a else if aB (dt c d b)=0 then b else crP a b c d
noncomputable def fb(a b c d:Q3):MR:=
 if aB (dt a b c)=0/\aB (dt a b d)=0 then RI a b c d
 else if aB (dt a b c)=aB (dt a b d) then .none
 else if aB (dt c d a)=aB (dt c d b) then .none
 else .spot (u6 a b c d)
noncomputable def apB(a b c d:Q3):Bool:=if aB (dt a b c)=0/\aB (dt a b d)=0 then(bq b c||bq d a) else(decide (aB (dt a b c)=aB (dt a b d))||decide (aB (dt c d a)=aB (dt c d b)))
def zf{a b:Q3}(h:bq a b=true):bq b a=false:=zbz h
def zk(a:Q3):bq a a=false:=KY _ _ _
def yA{n:Nat}{a b:Q3}(ha:PQ n a)(hb:PQ n b)(hc:PQ n c)(h1:bq a b=true)(h2:bq b c=true):bq a c=true:=zec ha.pos hb.pos hc.pos h1 h2
def zJ{n:Nat}{a b:Q3}(ha:PQ n a)(hb:PQ n b)(h1:¬bq a b=true)(h2:¬bq b a=true):a=b:=Q3.ext' (ZY ha hb ((Qc.mpr h1).trans (Qc.mpr h2).symm))
theorem WO{a b:Q3}(hc:0<c.w)(hd:0<d.w)(hs:aB (dt a b c)≠aB (dt a b d)):bS a b c d≠0:=by
 rw[yS];have h:=XN hs;intro z;have e:∀{s w:Int},0<w->0<=s->0<=s*w:=λhw hs=>pg hs (kY hw);rcases h with⟨h1,h2⟩|⟨h1,h2⟩
 ·have p1:=e hc h1;have p2:=e hd h2;have q1:=(kj.mp (show dt a b d*c.w=0 by lia)).resolve_right (by lia)
  have q2:=(kj.mp (show-dt a b c*d.w=0 by omega)).resolve_right (by lia)
  exact hs (by rw[show dt a b c=0 by lia,q1])
 ·have p1:=e hc (show 0<= -dt a b d by lia)
  have p2:=e hd (show 0<=dt a b c by lia)
  rw[gA] at p1;rw[gA] at z;have q1:=(kj.mp (show dt a b d*c.w=0 by lia)).resolve_right (by lia)
  have q2:=(kj.mp (show dt a b c*d.w=0 by lia)).resolve_right (by lia)
  exact hs (by rw[q1,q2])
def Xh{n:Nat}{a b:Q3}(ha:PQ n a)(hb:PQ n b)(hc:PQ n c)(hd:PQ n d)(cZ:bq a b=true)(dq:bq c d=true)(q:¬bq (aI b d) (aF a c)=true):bq b c=false/\bq d a=false:=by
 unfold aF aI at q
 constructor
 ·rw[<-EB];intro z;have ac:=yA ha hb hc cZ z;have bd:=yA hb hc hd z dq;rw[θ ac,θ bd] at q;exact q z
 ·rw[<-EB];intro z;have n1:¬bq a c=true:=λw=>by rw[zf (yA hc hd ha dq z)] at w;cases w
  have n2:¬bq b d=true:=λw=>by rw[zf (yA hd ha hb z cZ)] at w;cases w
  rw[η n1,η n2] at q;exact q z
variable{p:Q3}
def yo{a b:Q3}(h0:dt a b p=0)(h1:bq p a=false)(h2:bq b p=false):aJ a b p=true:=by
 unfold aJ onB;unfold dt at h0;unfold bq at h1 h2;rw[h0,wM,θ rfl,h1,h2];rfl
def yx(a b:Q3):dt a b a=0:=zbc _ _ _ _ _ _
def yj(a b:Q3):dt a b b=0:=zdm _ _ _ _ _ _
theorem vm{n:Nat}{a b:Q3}(ha:PQ n a)(hb:PQ n b)(cZ:bq a b=true)(s0:dt a b c=0)(s1:dt a b d=0):dt c d a=0/\dt c d b=0:=by
 have ex:=vD a b c d;have ey:=vt a b c d;have ew:=vd a b c d;rw[s0,s1] at ex ey ew;simp only[uL,gv,gM] at ex ey ew;have h1:=ha.pos;have h2:=hb.pos;generalize dt c d a=t at*;generalize dt c d b=v at*;rw[gA] at ex ey ew
 by_cases ht:t=0
 ·subst ht;rw[uL] at ew;exact⟨rfl,(kj.mp (show v*a.w=0 by lia)).resolve_right (by lia)⟩
 ·exfalso
  have k1:t*(b.x*a.w-a.x*b.w)=0:=by grind
  have k2:t*(b.y*a.w-a.y*b.w)=0:=by grind
  have z1:=(kj.mp k1).resolve_left ht;have z2:=(kj.mp k2).resolve_left ht;unfold bq at cZ;rw[wC] at cZ;lia
def ZW{n:Nat}{a b:Q3}(ha:PQ n a)(hb:PQ n b)(hc:PQ n c)(hd:PQ n d)(cZ:bq a b=true)(dq:bq c d=true)(s0:dt a b c=0)(s1:dt a b d=0)(q:¬bq (aI b d) (aF a c)=true):
  (aJ a b (aF a c)=true/\aJ c d (aF a c)=true)/\aJ a b (aI b d)=true/\aJ c d (aI b d)=true:=by
 obtain⟨n1,n2⟩:=Xh ha hb hc hd cZ dq q;obtain⟨t0,t1⟩:=vm ha hb cZ s0 s1;refine⟨?_,?_⟩
 ·unfold aF
  by_cases e:bq a c=true
  ·rw[θ e];exact⟨yo s0 (zf e) n1,yo (yx c d) (zk c) (zf dq)⟩
  ·rw[η e];refine⟨yo (yx a b) (zk a) (zf cZ),yo t0 (Qc.mpr e) n2⟩
 ·unfold aI
  by_cases e:bq b d=true
  ·rw[θ e];exact⟨yo (yj a b) (zf cZ) (zk b),yo t1 n1 (zf e)⟩
  ·rw[η e];exact⟨yo s1 n2 (Qc.mpr e),yo (yj c d) (zf dq) (zk d)⟩
variable{q:Q3}
theorem JI{n:Nat}{a b:Q3}(ha:PQ n a)(hb:PQ n b)(hc:PQ n c)(hd:PQ n d)(cZ:bq a b=true)(dq:bq c d=true)(h:fb a b c d=.part p q):
  apB a b c d=false/\(aB (dt a b c)=0/\aB (dt a b d)=0)/\PQ n p/\PQ n q/\bq p q=true/\(aJ a b p=true/\aJ c d p=true)/\(aJ a b q=true/\aJ c d q=true)/\(p=a\/p=c)/\(q=b\/q=d):=by
 unfold fb at h;unfold apB
 by_cases l:aB (dt a b c)=0/\aB (dt a b d)=0
 ·rw[θ l] at h⊢;unfold RI at h
  by_cases e:bq (aI b d) (aF a c)=true
  ·grind
  ·rw[η e] at h
   split at h
   ·cases h
   ·rename_i ne
    cases h;obtain⟨n1,n2⟩:=Xh ha hb hc hd cZ dq e;obtain⟨o1,o2⟩:=ZW ha hb hc hd cZ dq (zF.mp l.1) (zF.mp l.2) e;have pf:PQ n (aF a c)/\(aF a c=a\/aF a c=c):=by
     unfold aF;split
     ·exact⟨hc,.inr rfl⟩
     ·exact⟨ha,.inl rfl⟩
    have ps:PQ n (aI b d)/\(aI b d=b\/aI b d=d):=by
     unfold aI;split
     ·exact⟨hb,.inl rfl⟩
     ·exact⟨hd,.inr rfl⟩
    refine⟨by rw[n1,n2];rfl,l,pf.1,ps.1,?_,o1,o2,pf.2,ps.2⟩
    cases eb:bq (aF a c) (aI b d) with
    |true=>rfl
    |false=>
     have:=zJ pf.1 ps.1 (by rw[eb];decide) e
     exact absurd ⟨υ Q3.x this,υ Q3.y this,υ Q3.w this⟩ ne
 ·grind
variable{m:Nat}
theorem Vh{n:Nat}{a b:Q3}(hm:n<=m)(ha:PQ n a)(hb:PQ n b)(hc:PQ n c)(hd:PQ n d)(cZ:bq a b=true)(dq:bq c d=true)(hx:(fH a b c d).natAbs<2^m)(hy:(fI a b c d).natAbs<2^m)(hw:(bS a b c d).natAbs<2^m)(h:fb a b c d=.spot p):
  apB a b c d=false/\PQ m p/\aJ a b p=true/\aJ c d p=true/\((aB (dt a b c)=0/\aB (dt a b d)=0)->(p=b/\b=c)\/(p=d/\d=a)):=by
 have up:∀{z:Q3},PQ n z->PQ m z:=λh=>Pt.mono h hm;unfold fb at h;unfold apB
 by_cases l:aB (dt a b c)=0/\aB (dt a b d)=0
 ·rw[θ l] at h⊢;unfold RI at h
  by_cases e:bq (aI b d) (aF a c)=true
  ·rw[θ e] at h;cases h
  ·rw[η e] at h
   split at h
   ·rename_i eq
    cases h;obtain⟨n1,n2⟩:=Xh ha hb hc hd cZ dq e;obtain⟨o1,o2⟩:=ZW ha hb hc hd cZ dq (zF.mp l.1) (zF.mp l.2) e;have eq:=Q3.ext' eq;refine⟨by rw[n1,n2];rfl,?_,o1.1,o1.2,λ_=>?_⟩
    ·unfold aF;split
     ·exact up hc
     ·exact up ha
    ·unfold aF aI at eq;unfold aF
     by_cases q1:bq a c=true<;>by_cases q2:bq b d=true
     ·grind
     ·rw[θ q1,η q2] at eq;rw[eq,zk] at dq;cases dq
     ·rw[η q1,θ q2] at eq;rw[eq,zk] at cZ;cases cZ
     ·grind
   ·cases h
 ·rw[η l] at h⊢
  by_cases q1:aB (dt a b c)=aB (dt a b d)
  ·rw[θ q1] at h;cases h
  ·by_cases q2:aB (dt c d a)=aB (dt c d b)
   ·grind
   ·rw[η q1,η q2] at h
    cases h;have wn:=WO (a:=a) (b:=b) hc.pos hd.pos q1;have key:∀{z:Q3}{k:Int},k≠0->PQ m z->k*z.x=fH a b c d->k*z.y=fI a b c d->k*z.w=bS a b c d->PQ m z/\aJ a b z=true/\aJ c d z=true:=λ{z k} hk hz e1 e2 e3=>
     ⟨hz,K1 ha.pos hb.pos hc.pos hd.pos hz.pos hk cZ dq q1 q2 (by rw[e1,xt]) (by rw[e2,xq]) (by rw[e3,yS])⟩
    have main:PQ m (u6 a b c d)/\aJ a b (u6 a b c d)=true/\aJ c d (u6 a b c d)=true:=by
     unfold u6
     by_cases z1:aB (dt a b c)=0
     ·rw[θ z1];have y1:=zF.mp z1;refine key (k:=dt a b d) (λy=>q1 (by rw[y1,y])) (up hc) ?_ ?_ ?_
      ·rw[xt,y1];simp
      ·rw[xq,y1];simp
      ·rw[yS,y1];simp
     ·rw[η z1]
      by_cases z2:aB (dt a b d)=0
      ·rw[θ z2];have y2:=zF.mp z2;refine key (k:= -dt a b c) (λy=>z1 (zF.mpr (by lia))) (up hd) ?_ ?_ ?_
       ·rw[xt,y2];simp
       ·rw[xq,y2];simp
       ·rw[yS,y2];simp
      ·rw[η z2]
       by_cases z3:aB (dt c d a)=0
       ·rw[θ z3];have y3:=zF.mp z3;refine key (k:= -dt c d b) (λy=>q2 (by rw[y3,show dt c d b=0 by lia])) (up ha) ?_ ?_ ?_
        ·rw[xt,vD,y3];simp
        ·rw[xq,vt,y3];simp
        ·rw[yS,vd,y3];simp
       ·rw[η z3]
        by_cases z4:aB (dt c d b)=0
        ·rw[θ z4];have y4:=zF.mp z4;refine key (k:=dt c d a) (λy=>z3 (zF.mpr y)) (up hb) ?_ ?_ ?_
         ·rw[xt,vD,y4];simp
         ·rw[xq,vt,y4];simp
         ·rw[yS,vd,y4];simp
        ·rw[η z4];refine key (k:=bN (fH a b c d) (fI a b c d) (bS a b c d)) (XM wn) (qZ wn hx hy hw) ?_ ?_ ?_
         ·rw[ud];exact Wp _ _ _
         ·rw[ud];exact X7 _ _ _
         ·rw[ud];exact Xt _ _ _
    exact⟨by rw[ι q1,ι q2];rfl,main.1,main.2.1,main.2.2,λz=>absurd z l⟩
theorem XH{n:Nat}{a b:Q3}{g:Int}(ha:PQ n a)(hb:PQ n b)(ga:a.w<=g)(gb:b.w<=g)(h:bq a b=false):lt2 (aP g a) (aP g b)=false:=by
 cases e:bq b a with
 |true=>
  have z:=MU hb.pos ha.pos gb ga e
  cases e2:lt2 (aP g a) (aP g b) with
  |false=>rfl
  |true=>
   have:=e8.tr _ _ _ z e2;rw[e8.irr] at this
   cases this
 |false=>
  rw[xo ha hb h e];exact e8.irr _
theorem yw{a b:Q3}(ha:0<a.w)(hp:0<p.w)(hb:0<b.w)(h1:bq p a=false)(h2:bq b p=false):bq b a=false:=by
 unfold bq at*;rw[wV] at*;rcases h1 with h1|⟨h1,h1'⟩<;>rcases h2 with h2|⟨h2,MD⟩
 ·exact .inl ((wq (a:=a.x) (b:=p.x) (c:=b.x) ha hp hb (by omega) (by omega)).2 (.inl (by omega)))
 ·exact .inl ((wq (a:=a.x) (b:=p.x) (c:=b.x) ha hp hb (by omega) (by omega)).2 (.inl (by omega)))
 ·exact .inl ((wq (a:=a.x) (b:=p.x) (c:=b.x) ha hp hb (by omega) (by omega)).2 (.inr (by omega)))
 ·have q1:=(wq (a:=a.x) (b:=p.x) (c:=b.x) ha hp hb (by omega) (by omega)).1
  have q2:=(wq (a:=b.x) (b:=p.x) (c:=a.x) hb hp ha (by omega) (by omega)).1
  have q3:=(wq (a:=a.y) (b:=p.y) (c:=b.y) ha hp hb (by omega) (by omega)).1
  exact .inr ⟨by omega,q3⟩
theorem zg{a b:Q3}(h:aJ a b p=true):dt a b p=0/\bq p a=false/\bq b p=false:=by
 unfold aJ onB at h;unfold dt bq
 by_cases e:aB (aS a.x a.y a.w b.x b.y b.w p.x p.y p.w)=0
 ·rw[θ e] at h;rw[ue,Uf,Uf] at h;exact⟨zF.mp e,h.1,h.2⟩
 ·grind
theorem Wt(a b p:Q3):p.w*dt a b p=dY a p*dX p b-dX a p*dY p b:=by unfold dt dX dY aS bQ bR bX;grind
theorem zdv{a b:Q3}(h:aJ a b p=true)(hp:0<p.w):(a.y*p.w<=p.y*a.w\/b.y*p.w<=p.y*b.w)/\(p.y*a.w<=a.y*p.w\/p.y*b.w<=b.y*p.w):=by
 obtain⟨h0,h1,h2⟩:=zg h;unfold bq at h1 h2;rw[wV] at h1 h2;have e:=Wt a b p;rw[h0,uR] at e;have x1:dX a p=p.x*a.w-a.x*p.w:=rfl;have x2:dX p b=b.x*p.w-p.x*b.w:=rfl;have y1:dY a p=p.y*a.w-a.y*p.w:=rfl;have y2:dY p b=b.y*p.w-p.y*b.w:=rfl;generalize dX a p=X1 at*;generalize dX p b=X2 at*;generalize dY a p=Y1 at*;generalize dY p b=Y2 at*;have n1:0<=X1:=by omega
 have n2:0<=X2:=by omega
 constructor
 ·by_cases c1:a.y*p.w<=p.y*a.w
  ·exact .inl c1
  ·by_cases c2:b.y*p.w<=p.y*b.w
   ·exact .inr c2
   ·exfalso
    have k1:Y1<0:=by lia
    have k2:0<Y2:=by lia
    have z1:X1≠0:=λz=>by lia
    have m1:0<X1*Y2:=uB (by lia) k2
    have m2:Y1*X2<=0:=pi (by lia) n2
    omega
 ·by_cases c1:p.y*a.w<=a.y*p.w
  ·exact .inl c1
  ·by_cases c2:p.y*b.w<=b.y*p.w
   ·exact .inr c2
   ·exfalso
    have k1:0<Y1:=by lia
    have k2:Y2<0:=by lia
    have z1:X2≠0:=λz=>by omega
    have m1:X1*Y2<=0:=Int.mul_nonpos_of_nonneg_of_nonpos n1 (by lia)
    have m2:0<Y1*X2:=uB k1 (by lia)
    lia
theorem Yk{a b c d G:Int}(hb:0<b)(hd:0<d)(hG:0<=G)(h:a*d<=c*b):a*G/b<=c*G/d:=by
 refine CB hd (Cv ?_ hb);have h0:a*G/b*b<=a*G:=HP _ (by lia)
 have h1:=Ux h0 (kY hd);have h2:=AO h hG;generalize a*G/b=A at*
 calc A*d*b=A*b*d:=by grind
  _<=a*G*d:=h1
  _=G*(a*d):=by grind
  _<=G*(c*b):=h2
  _=c*G*b:=by grind
noncomputable def yt(g:Int)(s:Q3×Q3):Int:=if(aP g s.2).2<(aP g s.1).2 then(aP g s.2).2 else(aP g s.1).2
noncomputable def yr(g:Int)(s:Q3×Q3):Int:=if(aP g s.2).2>(aP g s.1).2 then(aP g s.2).2 else(aP g s.1).2
def B4(g:Int)(a b:Q3×Q3):Prop:=lt2 (aP g a.2) (aP g b.1)=false/\lt2 (aP g b.2) (aP g a.1)=false/\yt g a<=yr g b/\yt g b<=yr g a
def B4.symm{g:Int}{a b:Q3×Q3}(h:B4 g a b):B4 g b a:=⟨h.2.1,h.1,h.2.2.2,h.2.2.1⟩
theorem zal{g:Int}{s:Q3×Q3}(h1:0<s.1.w)(h2:0<s.2.w)(hp:0<p.w)(h:aJ s.1 s.2 p=true):yt g s<=(aP g p).2/\(aP g p).2<=yr g s:=by
 have G0:0<=g*g:=by
  rcases gL g 0 with z|z
  ·exact kY (DB z z)
  ·exact pg z z
 obtain⟨q1,q2⟩:=zdv h hp;unfold yt yr;have e1:∀r:Q3,(aP g r).2=r.y*(g*g)/r.w:=λr=>rfl;simp only[e1];refine⟨?_,?_⟩
 ·rcases q1 with q|q
  ·have:=Yk h1 hp G0 q
   split<;>omega
  ·have:=Yk h2 hp G0 q
   split<;>omega
 ·rcases q2 with q|q
  ·have:=Yk hp h1 G0 q
   split<;>omega
  ·have:=Yk hp h2 G0 q
   split<;>omega
theorem K2{n:Nat}{g:Int}{a b:Q3×Q3}(ha:PQ n a.1)(ha':PQ n a.2)(hb:PQ n b.1)(tE:PQ n b.2)(ga:a.1.w<=g)(ga':a.2.w<=g)(gb:b.1.w<=g)(gb':b.2.w<=g)(hp:0<p.w)(h1:aJ a.1 a.2 p=true)(h2:aJ b.1 b.2 p=true):B4 g a b:=by
 obtain⟨_,i1,i2⟩:=zg h1;obtain⟨_,j1,j2⟩:=zg h2;have l1:=zal (g:=g) ha.pos ha'.pos hp h1;have l2:=zal (g:=g) hb.pos tE.pos hp h2;exact⟨XH ha' hb ga' gb (yw hb.pos hp ha'.pos j1 i2),XH tE ha gb' ga (yw ha.pos hp tE.pos i1 j2),by omega,by lia⟩
theorem F8(hp:aJ c d p=true)(cd:bq c d=true)(ex:k*p.x=u*c.x+v*d.x)(ey:k*p.y=u*c.y+v*d.y)(ew:k*p.w=u*c.w+v*d.w):¬(0<u/\v<0)/\¬(u<0/\0<v):=by
 obtain⟨_,h1,h2⟩:=zg hp;unfold bq at h1 h2 cd;rw[wV] at h1 h2;rw[wC] at cd;have x1:k*(p.x*c.w-c.x*p.w)=v*(d.x*c.w-c.x*d.w):=by grind
 have y1:k*(p.y*c.w-c.y*p.w)=v*(d.y*c.w-c.y*d.w):=by grind
 have x2:k*(d.x*p.w-p.x*d.w)=u*(d.x*c.w-c.x*d.w):=by grind
 have y2:k*(d.y*p.w-p.y*d.w)=u*(d.y*c.w-c.y*d.w):=by grind
 have sg:∀{z t r:Int},k*z=t*r->0<=z->0<r->(0<t->0<k)/\(t<0->k<0):=λ{z t r} e hz hr=>by
  refine⟨λht=>?_,λht=>?_⟩
  ·have m:=uB ht hr;rcases gL 0 k with q|q
   ·exact q
   ·have:=pi q hz;lia
  ·have m:=pR ht hr;rcases gL k 0 with q|q
   ·exact q
   ·have:=pg q hz;lia
 have Ph:(0<v->0<k)/\(v<0->k<0)/\(0<u->0<k)/\(u<0->k<0):=by
  rcases cd with cd|⟨cd,cy⟩
  ·obtain⟨a1,a2⟩:=sg x1 (by lia) (by lia)
   obtain⟨b1,b2⟩:=sg x2 (by lia) (by lia)
   exact⟨a1,a2,b1,b2⟩
  ·by_cases k0:k=0
   ·subst k0;rw[uL] at y1 y2;have r0:d.y*c.w-c.y*d.w≠0:=by lia
    have v0:=(kj.mp y1.symm).resolve_right r0;have u0:=(kj.mp y2.symm).resolve_right r0;lia
   ·have z0:d.x*c.w-c.x*d.w=0:=by lia
    rw[z0,uR] at x1 x2;have w1:=(kj.mp x1).resolve_left k0;have w2:=(kj.mp x2).resolve_left k0;obtain⟨a1,a2⟩:=sg y1 (by lia) (by lia)
    obtain⟨b1,b2⟩:=sg y2 (by lia) (by lia)
    exact⟨a1,a2,b1,b2⟩
 lia
theorem Pj{a b:Q3}(ha:0<a.w)(hb:0<b.w)(hc:0<c.w)(hd:0<d.w)(q1:aB (dt a b c)≠aB (dt a b d))(q2:aB (dt c d a)≠aB (dt c d b)):
  ∃k:Int,k≠0/\k*(u6 a b c d).x=fH a b c d/\k*(u6 a b c d).y=fI a b c d/\k*(u6 a b c d).w=bS a b c d:=by
 have wn:=WO (a:=a) (b:=b) hc hd q1;unfold u6
 by_cases z1:aB (dt a b c)=0
 ·rw[θ z1];have y1:=zF.mp z1;refine⟨dt a b d,λy=>q1 (by rw[y1,y]),?_,?_,?_⟩
  ·rw[xt,y1];simp
  ·rw[xq,y1];simp
  ·rw[yS,y1];simp
 ·rw[η z1]
  by_cases z2:aB (dt a b d)=0
  ·rw[θ z2];have y2:=zF.mp z2;refine⟨-dt a b c,λy=>z1 (zF.mpr (by lia)),?_,?_,?_⟩
   ·rw[xt,y2];simp
   ·rw[xq,y2];simp
   ·rw[yS,y2];simp
  ·rw[η z2]
   by_cases z3:aB (dt c d a)=0
   ·rw[θ z3];have y3:=zF.mp z3;refine⟨-dt c d b,λy=>q2 (by rw[y3,show dt c d b=0 by lia]),?_,?_,?_⟩
    ·rw[xt,vD,y3];simp
    ·rw[xq,vt,y3];simp
    ·rw[yS,vd,y3];simp
   ·rw[η z3]
    by_cases z4:aB (dt c d b)=0
    ·rw[θ z4];have y4:=zF.mp z4;refine⟨dt c d a,λy=>z3 (zF.mpr y),?_,?_,?_⟩
     ·rw[xt,vD,y4];simp
     ·rw[xq,vt,y4];simp
     ·rw[yS,vd,y4];simp
    ·rw[η z4];refine⟨bN (fH a b c d) (fI a b c d) (bS a b c d),XM wn,?_,?_,?_⟩
     ·rw[ud];exact Wp _ _ _
     ·rw[ud];exact X7 _ _ _
     ·rw[ud];exact Xt _ _ _
theorem Jh{z1 z2 p1 p2 X W:Int}(hk:k≠0)(e1:k*z1=X)(e2:k*z2=W)(h:p1*W=X*p2):z1*p2=p1*z2:=by
 have:k*(z1*p2)=k*(p1*z2):=by grind
 exact Int.eq_of_mul_eq_mul_left hk this
def Pk{n:Nat}{a b:Q3}(hm:n<=m)(ha:PQ n a)(hb:PQ n b)(hc:PQ n c)(hd:PQ n d)(hx:(fH a b c d).natAbs<2^m)(hy:(fI a b c d).natAbs<2^m)(hw:(bS a b c d).natAbs<2^m)(wn:bS a b c d≠0):PQ m (u6 a b c d):=by
 unfold u6
 split
 ·exact Pt.mono hc hm
 ·split
  ·exact Pt.mono hd hm
  ·split
   ·exact Pt.mono ha hm
   ·split
    ·exact Pt.mono hb hm
    ·exact qZ wn hx hy hw
theorem VZ{n:Nat}{a b:Q3}(hm:n<=m)(ha:PQ n a)(hb:PQ n b)(hc:PQ n c)(hd:PQ n d)(cZ:bq a b=true)(dq:bq c d=true)(hx:(fH a b c d).natAbs<2^m)(hy:(fI a b c d).natAbs<2^m)(hw:(bS a b c d).natAbs<2^m)
  (wn:bS a b c d≠0)(hp:PQ m p)(ex:p.x*bS a b c d=fH a b c d*p.w)(ey:p.y*bS a b c d=fI a b c d*p.w)(h1:aJ a b p=true)(h2:aJ c d p=true):fb a b c d=.spot p:=by
 have q1:aB (dt a b c)≠aB (dt a b d):=λz=>by
  have e1:bS a b c d*p.x=(dt a b d*p.w)*c.x+(-dt a b c*p.w)*d.x:=by rw[ud,ex,xt];grind
  have e2:bS a b c d*p.y=(dt a b d*p.w)*c.y+(-dt a b c*p.w)*d.y:=by rw[ud,ey,xq];grind
  have e3:bS a b c d*p.w=(dt a b d*p.w)*c.w+(-dt a b c*p.w)*d.w:=by rw[yS];grind
  obtain⟨n1,n2⟩:=F8 h2 dq e1 e2 e3;have w0:=hp.pos
  rcases xr (dt a b c) with⟨u1,v1⟩|⟨u1,v1⟩|⟨u1,v1⟩<;>rcases xr (dt a b d) with⟨u2,v2⟩|⟨u2,v2⟩|⟨u2,v2⟩<;>rw[v1,v2] at z<;>try lia
  ·exact n1 ⟨uB u2 w0,pR (by lia) w0⟩
  ·exact n2 ⟨pR u2 w0,uB (by lia) w0⟩
  ·apply wn
   rw[yS,u1,u2]
   simp
 have q2:aB (dt c d a)≠aB (dt c d b):=λz=>by
  have e1:bS a b c d*p.x=(-dt c d b*p.w)*a.x+(dt c d a*p.w)*b.x:=by rw[ud,ex,xt,vD];grind
  have e2:bS a b c d*p.y=(-dt c d b*p.w)*a.y+(dt c d a*p.w)*b.y:=by rw[ud,ey,xq,vt];grind
  have e3:bS a b c d*p.w=(-dt c d b*p.w)*a.w+(dt c d a*p.w)*b.w:=by rw[yS,vd];grind
  obtain⟨n1,n2⟩:=F8 h1 cZ e1 e2 e3;have w0:=hp.pos
  rcases xr (dt c d a) with⟨u1,v1⟩|⟨u1,v1⟩|⟨u1,v1⟩<;>rcases xr (dt c d b) with⟨u2,v2⟩|⟨u2,v2⟩|⟨u2,v2⟩<;>rw[v1,v2] at z<;>try lia
  ·exact n2 ⟨pR (by lia) w0,uB u1 w0⟩
  ·exact n1 ⟨uB (by lia) w0,pR u1 w0⟩
  ·apply wn
   rw[yS,vd,u1,u2]
   simp
 unfold fb;rw[η (λz=>q1 (z.1.trans z.2.symm)),η q1,η q2];obtain⟨k,k0,k1,k2,k3⟩:=Pj ha.pos hb.pos hc.pos hd.pos q1 q2;have ps:=Pk hm ha hb hc hd hx hy hw wn;have:=JE ps hp (Jh k0 k1 k3 ex) (Jh k0 k2 k3 ey);rw[Q3.ext' this]
theorem XY(a b c d:Q3):fH c d a b= -fH a b c d/\fI c d a b= -fI a b c d/\bS c d a b= -bS a b c d:=by
 unfold fH fI bS;refine⟨?_,?_,?_⟩<;>grind
def jL{n:Nat}{a b:Q3}(ha:PQ n a)(hb:PQ n b)(hc:PQ n c)(hd:PQ n d):(fH a b c d).natAbs<2^(n+n+1+(n+n+1)+1)/\(fI a b c d).natAbs<2^(n+n+1+(n+n+1)+1)/\(bS a b c d).natAbs<2^(n+n+1+(n+n+1)+1):=by
 have l:∀{p q:Q3},PQ n p->PQ n q->(bQ p.x p.y p.w q.x q.y q.w).natAbs<2^(n+n+1)/\(bR p.x p.y p.w q.x q.y q.w).natAbs<2^(n+n+1)/\(bX p.x p.y p.w q.x q.y q.w).natAbs<2^(n+n+1):=λhp hq=>
  ⟨xb (zX hp.ly hq.lw) (zX hp.lw hq.ly),xb (zX hp.lw hq.lx) (zX hp.lx hq.lw),xb (zX hp.lx hq.ly) (zX hp.ly hq.lx)⟩
 obtain⟨a1,b1,c1⟩:=l ha hb;obtain⟨a2,b2,c2⟩:=l hc hd;exact⟨xb (zX b1 c2) (zX c1 b2),xb (zX c1 a2) (zX a1 c2),xb (zX a1 b2) (zX b1 a2)⟩
noncomputable def zQ:Q3×Q3:=(⟨0,0,1⟩,⟨0,0,1⟩)
def F9:MR->Q3->Prop
 |.none,_=>False
 |.spot q,p=>p=q
 |.part a b,p=>p=a\/p=b
noncomputable def mtI(ss:List (Q3×Q3))(x:Nat×Nat):MR:=fb (ss.getD x.1 zQ).1 (ss.getD x.1 zQ).2 (ss.getD x.2 zQ).1 (ss.getD x.2 zQ).2
def vN(ss:List (Q3×Q3))(q:Q3)(i:Nat):Prop:=∃e,ss[i]?=some e/\(q=e.1\/q=e.2)
def a8(ss:List (Q3×Q3))(ps:List (Nat×Nat))(q:Q3)(i:Nat):Prop:=vN ss q i\/∃x,x∈ps/\(i=x.1\/i=x.2)/\F9 (mtI ss x) q
theorem Z1{n:Nat}{a b:Q3}(ha:PQ n a)(hb:PQ n b)(hc:PQ n c)(hd:PQ n d)(cZ:bq a b=true)(dq:bq c d=true)(h:F9 (fb a b c d) p):PQ (4*n+3) p/\aJ a b p=true/\aJ c d p=true:=by
 obtain⟨b1,b2,b3⟩:=jL ha hb hc hd
 cases e:fb a b c d with
 |none=>rw[e] at h;cases h
 |spot q=>
  rw[e] at h;have h':p=q:=h;subst h';obtain⟨_,p1,p2,p3,_⟩:=Vh (m:=4*n+3) (by lia) ha hb hc hd cZ dq (zN b1 (by lia)) (zN b2 (by lia)) (zN b3 (by lia)) e
  exact⟨p1,p2,p3⟩
 |part u v=>
  rw[e] at h;have h':p=u\/p=v:=h;obtain⟨_,_,p1,p2,_,p3,p4,_⟩:=JI ha hb hc hd cZ dq e;rcases h' with rfl|rfl
  ·exact⟨Pt.mono p1 (by lia),p3.1,p3.2⟩
  ·exact⟨Pt.mono p2 (by lia),p4.1,p4.2⟩
theorem y7(a b p q r:Q3):dt a b r*dX p q=dt p q r*dX a b+dt a b p*dX r q+dt a b q*dX p r:=by unfold dt dX aS bQ bR bX;grind
theorem ql(a b p q r:Q3):dt a b r*dY p q=dt p q r*dY a b+dt a b p*dY r q+dt a b q*dY p r:=by unfold dt dY aS bQ bR bX;grind
theorem Xw(h:bq p q=true):dX p q≠0\/dY p q≠0:=by
 have:=yV.mp h;unfold Lt LP at this;simp only[UL] at this;rcases this with h|⟨_,h⟩
 ·grind
 ·grind
variable{r:Q3}
def xZ{a b:Q3}(hpq:bq p q=true)(hp:dt a b p=0)(hq:dt a b q=0)(hr:dt p q r=0):dt a b r=0:=by
 have e1:=y7 a b p q r;have e2:=ql a b p q r;rw[hp,hq,hr] at e1 e2;simp only[uL,gM] at e1 e2;rcases Xw hpq with h|h
 ·exact(kj.mp e1).resolve_right h
 ·exact(kj.mp e2).resolve_right h
def xE{n:Nat}{a b:Q3}(ha:PQ n a)(hb:PQ n b)(hp:PQ n p)(hq:PQ n q)(hr:PQ n r)(hpq:bq p q=true)(op:aJ a b p=true)(oq:aJ a b q=true)(h0:dt p q r=0)(h1:bq r p=false)(h2:bq q r=false):aJ a b r=true:=by
 obtain⟨p1,p2,p3⟩:=zg op;obtain⟨q1,q2,q3⟩:=zg oq;exact yo (xZ hpq p1 q1 h0) (yw ha.pos hp.pos hr.pos p2 h1) (yw hr.pos hq.pos hb.pos h2 q3)
theorem K3(a b:Q3):bS a b a b=0:=by unfold bS;grind
theorem T8{a b:Q3}(h1:dt a b q=0)(h2:dt c d q=0):q.x*bS a b c d=fH a b c d*q.w/\q.y*bS a b c d=fI a b c d*q.w:=by
 unfold dt aS at h1 h2;unfold fH fI bS;generalize bQ a.x a.y a.w b.x b.y b.w=A at*;generalize bR a.x a.y a.w b.x b.y b.w=B at*;generalize bX a.x a.y a.w b.x b.y b.w=C at*;generalize bQ c.x c.y c.w d.x d.y d.w=A' at*;generalize bR c.x c.y c.w d.x d.y d.w=B' at*;generalize bX c.x c.y c.w d.x d.y d.w=C' at*
 constructor<;>grind
theorem Pl(a b:Q3):bQ a.x a.y a.w b.x b.y b.w= -dY a b/\bR a.x a.y a.w b.x b.y b.w=dX a b:=by
 unfold bQ bR dX dY
 constructor<;>grind
theorem Pm{A B A1 B1 A2 B2:Int}(h:A≠0\/B≠0)(e1:A*B1-B*A1=0)(e2:A*B2-B*A2=0):A1*B2-B1*A2=0:=by
 have f1:A*(A1*B2-B1*A2)=0:=by grind
 have f2:B*(A1*B2-B1*A2)=0:=by grind
 rcases h with h|h
 ·exact(kj.mp f1).resolve_left h
 ·exact(kj.mp f2).resolve_left h
theorem MV{a b:Q3}(h:bq a b=true):bQ a.x a.y a.w b.x b.y b.w≠0\/bR a.x a.y a.w b.x b.y b.w≠0:=by
 obtain⟨e1,e2⟩:=Pl a b;rw[e1,e2];rcases Xw h with h|h
 ·exact .inr h
 ·grind
def Pn{a b e f:Q3}(h:bq a b=true)(h1:bS a b c d=0)(h2:bS a b e f=0):bS c d e f=0:=Pm (MV h) h1 h2
theorem xT{a b:Q3}(hq:0<q.w)(dq:bq c d=true)(z:bS a b c d=0)(h1:dt a b q=0)(h2:dt c d q=0)(hr:dt c d r=0):dt a b r=0:=by
 have ln:=MV dq;unfold bS at z;unfold dt aS at*;generalize bQ a.x a.y a.w b.x b.y b.w=A at*;generalize bR a.x a.y a.w b.x b.y b.w=B at*;generalize bX a.x a.y a.w b.x b.y b.w=C at*;generalize bQ c.x c.y c.w d.x d.y d.w=A' at*;generalize bR c.x c.y c.w d.x d.y d.w=B' at*;generalize bX c.x c.y c.w d.x d.y d.w=C' at*;have e:q.w*(A*r.x+B*r.y+C*r.w)=0:=by
  have f1:A'*(q.w*(A*r.x+B*r.y+C*r.w))=0:=by grind
  have f2:B'*(q.w*(A*r.x+B*r.y+C*r.w))=0:=by grind
  rcases ln with h|h
  ·exact(kj.mp f1).resolve_left h
  ·exact(kj.mp f2).resolve_left h
 exact(kj.mp e).resolve_left (by lia)
def XL(a b:Q3):dt a b a=0/\dt a b b=0:=⟨yx a b,yj a b⟩
def Xn{a b:Q3}(h:bq a b=true):aJ a b a=true/\aJ a b b=true:=⟨yo (yx a b) (zk a) (zf h),yo (yj a b) (zf h) (zk b)⟩
theorem za8{n:Nat}{a b:Q3}(ha:PQ n a)(hb:PQ n b)(hc:PQ n c)(hd:PQ n d)(hq:PQ n q)(s0:dt a b c=0)(s1:dt a b d=0)(h1:aJ a b q=true)(h2:aJ c d q=true)(e:q=a\/q=b\/q=c\/q=d):F9 (fb a b c d) q:=by
 obtain⟨_,i1,i2⟩:=zg h1;obtain⟨_,j1,j2⟩:=zg h2;unfold fb;rw[s0,s1,θ ⟨wM,wM⟩];have F:aF a c=q\/(bq (aF a c) q=true/\bq q (aF a c)=false):=by
  unfold aF
  split
  ·by_cases z:bq c q=true
   ·exact .inr ⟨z,j1⟩
   ·exact .inl (zJ hc hq z (by rw[j1];decide))
  ·by_cases z:bq a q=true
   ·exact .inr ⟨z,i1⟩
   ·exact .inl (zJ ha hq z (by rw[i1];decide))
 have S:aI b d=q\/(bq q (aI b d)=true/\bq (aI b d) q=false):=by
  unfold aI
  split
  ·by_cases z:bq q b=true
   ·exact .inr ⟨z,i2⟩
   ·exact .inl (zJ hb hq (by rw[i2];decide) z)
  ·by_cases z:bq q d=true
   ·exact .inr ⟨z,j2⟩
   ·exact .inl (zJ hd hq (by rw[j2];decide) z)
 have E:aF a c=q\/aI b d=q:=by
  rcases e with rfl|rfl|rfl|rfl
  ·left;unfold aF;rw[η (by rw[j1];decide)]
  ·right;unfold aI
   split
   ·rfl
   ·rename_i z
    exact zJ hd hq (by rw[j2];decide) z
  ·left;unfold aF
   split
   ·rfl
   ·rename_i z
    exact zJ ha hq z (by rw[i1];decide)
  ·right;unfold aI;rw[η (by rw[i2];decide)]
 have nb:¬bq (aI b d) (aF a c)=true:=by grind
 unfold RI;rw[η nb]
 by_cases z:(aF a c).x=(aI b d).x/\(aF a c).y=(aI b d).y/\(aF a c).w=(aI b d).w
 ·rw[θ z];show q=aF a c;rcases E with E|E
  ·exact E.symm
  ·rw[<-E];exact(Q3.ext' z).symm
 ·rw[η z];rcases E with E|E
  ·exact .inl E.symm
  ·exact .inr E.symm
structure zu(n:Nat)(ss:List (Q3×Q3))(ps:List (Nat×Nat))(g:Int):Prop where
 ok:∀s,s∈ss->PQ n s.1/\PQ n s.2/\bq s.1 s.2=true
 gp:∀s,s∈ss->s.1.w<=g/\s.2.w<=g
 lt:∀e,e∈ps->e.1<ss.length/\e.2<ss.length
 all:∀a b,a<ss.length->b<ss.length->a≠b->B4 g (ss.getD a zQ) (ss.getD b zQ)->(a,b)∈ps\/(b,a)∈ps
variable{i j:Nat}
section
variable{n:Nat}{ss:List (Q3×Q3)}{ps:List (Nat×Nat)}{g:Int}
theorem zh(h:i<ss.length):ss.getD i zQ∈ss:=by grind
def eI(ss:List (Q3×Q3))(q:Q3)(i:Nat):Prop:=aJ (ss.getD i zQ).1 (ss.getD i zQ).2 q=true
def yB:vN ss q i↔i<ss.length/\(q=(ss.getD i zQ).1\/q=(ss.getD i zQ).2):=by
 constructor
 ·rintro⟨e,h,z⟩;have hi:=(kE.mp h).1;rw[kG,h];exact⟨hi,z⟩
 ·rintro⟨hi,z⟩;rw[kG,kH hi] at z;exact⟨ss[i],kH hi,z⟩
theorem zu.lies(T:zu n ss ps g)(h:a8 ss ps q i):i<ss.length/\PQ (4*n+3) q/\eI ss q i:=by
 rcases h with h|⟨x,hx,hi,hs⟩
 ·obtain⟨hi,z⟩:=yB.mp h;obtain⟨o1,o2,o3⟩:=T.ok _ (zh hi);refine⟨hi,?_⟩;unfold eI;rcases z with z|z
  ·rw[z];exact⟨Pt.mono o1 (by lia),(Xn o3).1⟩
  ·rw[z];exact⟨Pt.mono o2 (by lia),(Xn o3).2⟩
 ·obtain⟨l1,l2⟩:=T.lt x hx;obtain⟨o1,o2,o3⟩:=T.ok _ (zh l1);obtain⟨r1,r2,r3⟩:=T.ok _ (zh l2);obtain⟨p1,p2,p3⟩:=Z1 o1 o2 r1 r2 o3 r3 hs;rcases hi with rfl|rfl
  ·exact⟨l1,p1,p2⟩
  ·exact⟨l2,p1,p3⟩
def zu.pair(T:zu n ss ps g)(hi:i<ss.length)(hj:j<ss.length)(ne:i≠j)(hq:0<q.w)(oi:eI ss q i)(oj:eI ss q j):(i,j)∈ps\/(j,i)∈ps:=by
 obtain⟨o1,o2,o3⟩:=T.ok _ (zh hi);obtain⟨r1,r2,r3⟩:=T.ok _ (zh hj);obtain⟨g1,g2⟩:=T.gp _ (zh hi);obtain⟨g3,g4⟩:=T.gp _ (zh hj);exact T.all i j hi hj ne (K2 o1 o2 r1 r2 g1 g2 g3 g4 hq oi oj)
def JN(h:(i,j)∈ps\/(j,i)∈ps)(s1:F9 (mtI ss (i,j)) q)(s2:F9 (mtI ss (j,i)) q):a8 ss ps q i:=by
 rcases h with h|h
 ·exact .inr ⟨_,h,.inl rfl,s1⟩
 ·exact .inr ⟨_,h,.inr rfl,s2⟩
noncomputable def G4(ss:List (Q3×Q3))(i j:Nat):Int:=bS (ss.getD i zQ).1 (ss.getD i zQ).2 (ss.getD j zQ).1 (ss.getD j zQ).2
theorem zu.cross(T:zu n ss ps g)(hm:4*n+3<=m)(hi:i<ss.length)(hj:j<ss.length)(hq:PQ m q)(oi:eI ss q i)(oj:eI ss q j)(c:G4 ss i j≠0):a8 ss ps q i:=by
 have ne:i≠j:=λz=>by
  subst z;exact c (K3 _ _)
 obtain⟨o1,o2,o3⟩:=T.ok _ (zh hi);obtain⟨r1,r2,r3⟩:=T.ok _ (zh hj);obtain⟨ex,ey⟩:=T8 (zg oi).1 (zg oj).1;obtain⟨s1,s2,s3⟩:=XY (ss.getD i zQ).1 (ss.getD i zQ).2 (ss.getD j zQ).1 (ss.getD j zQ).2;obtain⟨b1,b2,b3⟩:=jL o1 o2 r1 r2;obtain⟨d1,d2,d3⟩:=jL r1 r2 o1 o2;have up:∀{z:Int},z.natAbs<2^(n+n+1+(n+n+1)+1)->z.natAbs<2^m:=λh=>zN h (by lia)
 refine JN (T.pair hi hj ne hq.pos oi oj) ?_ ?_
 ·show F9 (fb _ _ _ _) q
  rw[VZ (by lia) o1 o2 r1 r2 o3 r3 (up b1) (up b2) (up b3) c hq ex ey oi oj]
  rfl
 ·show F9 (fb _ _ _ _) q
  rw[VZ (by lia) r1 r2 o1 o2 r3 o3 (up d1) (up d2) (up d3) (by rw[s3];unfold G4 at c;lia) hq (by rw[s1,s3,DP,gA,ex]) (by rw[s2,s3,DP,gA,ey]) oj oi]
  rfl
theorem zu.ends(T:zu n ss ps g){k:Nat}(hi:i<ss.length)(h:vN ss q k)(oi:eI ss q i):a8 ss ps q i:=by
 obtain⟨hk,z⟩:=yB.mp h;obtain⟨_,hq,ok⟩:=T.lies (.inl h:a8 ss ps q k)
 by_cases e:i=k
 ·subst e;exact .inl h
 by_cases c:G4 ss i k=0
 ·obtain⟨o1,o2,o3⟩:=T.ok _ (zh hi);obtain⟨r1,r2,r3⟩:=T.ok _ (zh hk);have up:∀{z:Q3},PQ n z->PQ (4*n+3) z:=λh=>Pt.mono h (by lia)
  have c':bS (ss.getD k zQ).1 (ss.getD k zQ).2 (ss.getD i zQ).1 (ss.getD i zQ).2=0:=by
   have:=(XY (ss.getD i zQ).1 (ss.getD i zQ).2 (ss.getD k zQ).1 (ss.getD k zQ).2).2.2;unfold G4 at c;lia
  have l1:=(zg oi).1;have l2:=(zg ok).1;have de:=XL (ss.getD k zQ).1 (ss.getD k zQ).2;have df:=XL (ss.getD i zQ).1 (ss.getD i zQ).2;refine JN (T.pair hi hk e hq.pos oi ok) ?_ ?_
  ·exact za8 (up o1) (up o2) (up r1) (up r2) hq (xT hq.pos r3 c l1 l2 de.1) (xT hq.pos r3 c l1 l2 de.2) oi ok (.inr (.inr z))
  ·exact za8 (up r1) (up r2) (up o1) (up o2) hq (xT hq.pos o3 c' l2 l1 df.1) (xT hq.pos o3 c' l2 l1 df.2) ok oi (z.imp id .inl)
 ·exact T.cross (pI _) hi hk hq oi ok c
theorem JY{n:Nat}{a b:Q3}(ha:PQ n a)(hb:PQ n b)(hc:PQ n c)(hd:PQ n d)(cZ:bq a b=true)(dq:bq c d=true)(s0:dt a b c=0)(s1:dt a b d=0)(h:F9 (fb a b c d) q):(q=a\/q=b)\/(q=c\/q=d):=by
 obtain⟨b1,b2,b3⟩:=jL ha hb hc hd
 cases e:fb a b c d with
 |none=>rw[e] at h;cases h
 |spot p=>
  rw[e] at h;have h':q=p:=h;obtain⟨_,_,_,_,z⟩:=Vh (m:=4*n+3) (by lia) ha hb hc hd cZ dq (zN b1 (by lia)) (zN b2 (by lia)) (zN b3 (by lia)) e
  rcases z ⟨by rw[s0,wM],by rw[s1,wM]⟩ with⟨z,_⟩|⟨z,_⟩
  ·grind
  ·grind
 |part u v=>
  rw[e] at h;have h':q=u\/q=v:=h;obtain⟨_,_,_,_,_,_,_,z1,z2⟩:=JI ha hb hc hd cZ dq e;rcases h' with h'|h'
  ·grind
  ·grind
def zu.full(T:zu n ss ps g)(hi:i<ss.length)(h:a8 ss ps q j)(oi:eI ss q i):a8 ss ps q i:=by
 obtain⟨hj,hq,oj⟩:=T.lies h;rcases h with h|⟨x,hx,hxj,hs⟩
 ·exact T.ends hi h oi
 obtain⟨l1,l2⟩:=T.lt x hx;obtain⟨_,_,n1⟩:=T.lies (.inr ⟨x,hx,.inl rfl,hs⟩:a8 ss ps q x.1);obtain⟨_,_,n2⟩:=T.lies (.inr ⟨x,hx,.inr rfl,hs⟩:a8 ss ps q x.2);obtain⟨o1,o2,o3⟩:=T.ok _ (zh l1);obtain⟨r1,r2,r3⟩:=T.ok _ (zh l2);obtain⟨t1,t2,t3⟩:=T.ok _ (zh hi)
 by_cases c:G4 ss x.1 x.2=0
 ·have de:=XL (ss.getD x.2 zQ).1 (ss.getD x.2 zQ).2;rcases JY o1 o2 r1 r2 o3 r3 (xT hq.pos r3 c (zg n1).1 (zg n2).1 de.1) (xT hq.pos r3 c (zg n1).1 (zg n2).1 de.2) hs with z|z
  ·exact T.ends hi (yB.mpr ⟨l1,z⟩) oi
  ·exact T.ends hi (yB.mpr ⟨l2,z⟩) oi
 ·by_cases c1:G4 ss i x.1=0
  ·by_cases c2:G4 ss i x.2=0
   ·exact absurd (Pn t3 c1 c2) c
   ·exact T.cross (pI _) hi l2 hq oi n2 c2
  ·exact T.cross (pI _) hi l1 hq oi n1 c1
def cw(ss:List (Q3×Q3))(ps:List (Nat×Nat))(f:Q3×Q3):Prop:=∃i,a8 ss ps f.1 i/\a8 ss ps f.2 i/\bq f.1 f.2=true/\∀r,a8 ss ps r i->bq f.1 r=true->bq r f.2=true->False
def Apt(e f:Q3×Q3):Prop:=bq e.2 f.1=true\/bq f.2 e.1=true\/
 ((aB (dt e.1 e.2 f.1)=0/\aB (dt e.1 e.2 f.2)=0->e.2=f.1\/f.2=e.1)/\
  (¬(aB (dt e.1 e.2 f.1)=0/\aB (dt e.1 e.2 f.2)=0)->aB (dt e.1 e.2 f.1)=aB (dt e.1 e.2 f.2)\/aB (dt f.1 f.2 e.1)=aB (dt f.1 f.2 e.2)\/(e.1=f.1\/e.1=f.2)\/(e.2=f.1\/e.2=f.2)))
theorem zu.apart(T:zu n ss ps g){e f:Q3×Q3}(he:cw ss ps e)(hf:cw ss ps f)(ne:e≠f):Apt e f:=by
 obtain⟨i,a1,a2,a3,a4⟩:=he;obtain⟨j,b1,b2,b3,b4⟩:=hf;obtain⟨hi,p1,o1⟩:=T.lies a1;obtain⟨_,p2,o2⟩:=T.lies a2;obtain⟨hj,q1,r1⟩:=T.lies b1;obtain⟨_,q2,r2⟩:=T.lies b2;have up:∀{z:Q3},PQ n z->PQ (4*n+3) z:=λh=>Pt.mono h (by lia)
 obtain⟨s1,s2,s3⟩:=T.ok _ (zh hi);obtain⟨t1,t2,t3⟩:=T.ok _ (zh hj)
 by_cases x1:bq e.2 f.1=true
 ·exact .inl x1
 by_cases x2:bq f.2 e.1=true
 ·exact .inr (.inl x2)
 refine .inr (.inr ⟨λz=>?_,λz=>?_⟩)
 ·have z1:=zF.mp z.1;have z2:=zF.mp z.2;obtain⟨w1,w2⟩:=vm p1 p2 a3 z1 z2;have wi:∀{r:Q3}{k:Nat},a8 ss ps r k->dt e.1 e.2 r=0->bq e.1 r=true->bq r e.2=true->False:=λ{r k} h h0 h1 h2=>
   a4 r (T.full hi h (xE (up s1) (up s2) p1 p2 (T.lies h).2.1 a3 o1 o2 h0 (zf h1) (zf h2))) h1 h2
  have wj:∀{r:Q3}{k:Nat},a8 ss ps r k->dt f.1 f.2 r=0->bq f.1 r=true->bq r f.2=true->False:=λ{r k} h h0 h1 h2=>
   b4 r (T.full hj h (xE (up t1) (up t2) q1 q2 (T.lies h).2.1 b3 r1 r2 h0 (zf h1) (zf h2))) h1 h2
  by_cases y1:e.2=f.1
  ·exact .inl y1
  by_cases y2:f.2=e.1
  ·exact .inr y2
  exfalso
  have k1:bq f.1 e.2=true:=by
   cases h:bq f.1 e.2 with
   |true=>rfl
   |false=>exact absurd (zJ p2 q1 x1 (by rw[h];decide)) y1
  have k2:bq e.1 f.2=true:=by
   cases h:bq e.1 f.2 with
   |true=>rfl
   |false=>exact absurd (zJ q2 p1 x2 (by rw[h];decide)) y2
  by_cases m1:bq e.1 f.1=true
  ·exact wi b1 z1 m1 k1
  by_cases m2:bq f.1 e.1=true
  ·exact wj a1 w1 m2 k2
  have ee:=zJ p1 q1 m1 m2
  by_cases m3:bq e.2 f.2=true
  ·grind
  by_cases m4:bq f.2 e.2=true
  ·grind
  exact ne (Qo ee (zJ p2 q2 m3 m4))
 ·by_cases y1:aB (dt e.1 e.2 f.1)=aB (dt e.1 e.2 f.2)
  ·exact .inl y1
  by_cases y2:aB (dt f.1 f.2 e.1)=aB (dt f.1 f.2 e.2)
  ·exact .inr (.inl y2)
  refine .inr (.inr ?_);have em:fb e.1 e.2 f.1 f.2=.spot (u6 e.1 e.2 f.1 f.2):=by
   unfold fb;rw[η z,η y1,η y2]
  obtain⟨c1,c2,c3⟩:=jL p1 p2 q1 q2;obtain⟨_,hx,x3,x4,_⟩:=Vh (m:=4*(4*n+3)+3) (by lia) p1 p2 q1 q2 a3 b3 (zN c1 (by lia)) (zN c2 (by lia)) (zN c3 (by lia)) em
  generalize u6 e.1 e.2 f.1 f.2=X at*;have D7:∀{z:Q3},PQ (4*n+3) z->PQ (4*(4*n+3)+3) z:=λh=>Pt.mono h (by lia)
  obtain⟨u1,u2,u3⟩:=zg x3;obtain⟨v1,v2,v3⟩:=zg x4;have oi:eI ss X i:=xE (D7 (up s1)) (D7 (up s2)) (D7 p1) (D7 p2) hx a3 o1 o2 u1 u2 u3;have oj:eI ss X j:=xE (D7 (up t1)) (D7 (up t2)) (D7 q1) (D7 q2) hx b3 r1 r2 v1 v2 v3;have cn:G4 ss i j≠0:=λc=>z (by
   have l1:=(zg oi).1;have l2:=(zg oj).1;have g1:=xT hx.pos t3 c l1 l2 (zg r1).1;have g2:=xT hx.pos t3 c l1 l2 (zg r2).1;obtain⟨h1,h2⟩:=zg o1;obtain⟨h3,h4⟩:=zg o2;obtain⟨k1,k2⟩:=vm (up s1) (up s2) s3 h1 h3;exact⟨by rw[xZ s3 k1 k2 g1,wM],by rw[xZ s3 k1 k2 g2,wM]⟩)
  have cn':G4 ss j i≠0:=λc=>cn (by
   have:=(XY (ss.getD j zQ).1 (ss.getD j zQ).2 (ss.getD i zQ).1 (ss.getD i zQ).2).2.2;unfold G4 at*;lia)
  have li:=T.cross (by lia) hi hj hx oi oj cn
  have lj:=T.cross (by lia) hj hi hx oj oi cn'
  have hX:=(T.lies li).2.1;have ei:X=e.1\/X=e.2:=by
   by_cases h1:bq e.1 X=true
   ·by_cases h2:bq X e.2=true
    ·grind
    ·exact .inr (zJ hX p2 h2 (by rw[u3];decide))
   ·exact .inl (zJ hX p1 (by rw[u2];decide) h1)
  have ej:X=f.1\/X=f.2:=by
   by_cases h1:bq f.1 X=true
   ·by_cases h2:bq X f.2=true
    ·grind
    ·exact .inr (zJ hX q2 h2 (by rw[v3];decide))
   ·exact .inl (zJ hX q1 (by rw[v2];decide) h1)
  rcases ei with ei|ei
  ·grind
  ·grind
end
end Mine
local macro_rules
  | `(tactic| simp! [$xs,*]) => do let f := fun (s : String) => (s.splitOn " ").toArray.map fun x => Lean.mkIdent x.toName; let q := f "bx ao ar bK cf bI aK aC cL dD dV aY dC d1 d2 ae aa aN aQ aj dB cT Ri cJ Rj eU dOr tM sF sR cF H1 iL iT tA Rl iC gN gT bM eu fgt inn tK Option.bind_some Option.bind_none Option.map_some Option.getD_some List.length_cons List.length_nil List.map_cons List.map_nil List.reduceReplicate List.cons_append List.nil_append List.getElem?_cons_zero List.getElem?_cons_succ List.set_cons_zero List.set_cons_succ List.modify_zero_cons List.modify_succ_cons List.foldl_cons List.foldl_nil Nat.reduceAdd Nat.reduceSub Nat.reduceEqDiff G5 tT tU fW fX ite_true ite_false if_true if_false Bool.false_eq_true Bool.not_true Bool.not_false"; `(tactic| simp only [$[$q:term],*, ↓reduceIte, $xs,*])
local macro_rules
  | `(tactic| dsimp! [$xs,*]) => do let f := fun (s : String) => (s.splitOn " ").toArray.map fun x => Lean.mkIdent x.toName; let q := f "bx ao ar bK cf bI aK aC cL dD dV aY dC d1 d2 ae aa aN aQ aj dB cT Ri cJ Rj eU dOr tM sF sR cF H1 iL iT tA Rl iC gN gT bM eu fgt inn tK Option.bind_some Option.bind_none Option.map_some Option.getD_some List.length_cons List.length_nil List.map_cons List.map_nil List.reduceReplicate List.cons_append List.nil_append List.getElem?_cons_zero List.getElem?_cons_succ List.set_cons_zero List.set_cons_succ List.modify_zero_cons List.modify_succ_cons List.foldl_cons List.foldl_nil Nat.reduceAdd Nat.reduceSub Nat.reduceEqDiff G5 tT tU fW fX ite_true ite_false if_true if_false Bool.false_eq_true Bool.not_true Bool.not_false au bv bz ft aO dM sH R2 B9 sD B8 nxt"; `(tactic| simp only [$[$q:term],*, ↓reduceIte, $xs,*])
namespace Mine
open PySem L2 My
section
variable{n:Nat}{i j:Int}{p q:Q3}
namespace Nu
def wt(h:n<=8000000):n<=μ:=uK h (by decide)
def yE(h:n<=8000000):n<μ:=Qt h (by decide)
def G5:(0<=μ)=True:=eq_true (by decide)
def tT:(1<=μ)=True:=eq_true (by decide)
def tU:(2<=μ)=True:=eq_true (by decide)
def fW:(3<=μ)=True:=eq_true (by decide)
def fX:(4<=μ)=True:=eq_true (by decide)
noncomputable def eQ(p:Q3):Dt:=.tuple [.int p.x,.int p.y,.int p.w]
noncomputable def eS(s:Q3×Q3):Dt:=.tuple [eQ s.1,eQ s.2]
def vo(p:Q3):af (eQ p) (.int 0)=some (.int p.x):=rfl
def jy(p:Q3):af (eQ p) (.int 1)=some (.int p.y):=rfl
def w9(p:Q3):af (eQ p) (.int 2)=some (.int p.w):=rfl
def yI(s:Q3×Q3):af (eS s) (.int 0)=some (eQ s.1):=rfl
def yR(s:Q3×Q3):af (eS s) (.int 1)=some (eQ s.2):=rfl
def T9(a b c:Dt):af (.tuple [a,b,c]) (.int 0)=some a:=rfl
def U0(a b c:Dt):af (.tuple [a,b,c]) (.int 1)=some b:=rfl
def U1(a b c:Dt):af (.tuple [a,b,c]) (.int 2)=some c:=rfl
def K4(a b:Dt):af (.tuple [a,b]) (.int 0)=some a:=rfl
def K6(a b:Dt):af (.tuple [a,b]) (.int 1)=some b:=rfl
theorem ixL{α:Type}{f:α->Dt}{xs:List α}{i:Nat}{a:α}(h:xs[i]?=some a):af (.list (xs.map f)) (.int i)=some (f a):=by
 show Ig (xs.map f) (i:Int)=_
 have hi:=(kE.mp h).1;unfold Ig ixN;rw[θ (by lia),θ (by rw[kJ];lia)]
 show(xs.map f)[i]?=_
 rw[kX,h];rfl
def SQ(p:Q3):Prop:=p.x.natAbs<2^100000/\p.y.natAbs<2^100000/\p.w.natAbs<2^100000
def SQ.of(h:PQ n p)(hn:n<=100000):SQ p:=⟨zN h.lx hn,zN h.ly hn,zN h.lw hn⟩
def U2(h:Ib i j):zn (.int i) (.int j)=some (.int (i*j)):=by simp only[zn,kI,θ h]
def zL{m:Nat}(h1:i.natAbs<2^m)(h2:j.natAbs<2^n)(hm:m<=1000000:=by decide)(hn:n<=1000000:=by decide):zn (.int i) (.int j)=some (.int (i*j)):=U2 (cbig h1 h2 hm hn)
def MW(h:YQ i j):zO (.int i) (.int j)=some (.int (i.fdiv j)):=by simp only[zO,kI,θ h]
def k_sub(i j:Int):yL (.int i) (.int j)=some (.int (i-j)):=rfl
def U3(i j:Int):zt (.int i) (.int j)=some (.int (i+j)):=rfl
def vR(i j:Int):nA (.int i) (.int j)=some (.bool (decide (i<j))):=rfl
def K7(i j:Int):tW (.int i) (.int j)=some (.bool (decide (j<i))):=rfl
def U4(i j:Int):H2 (.int i) (.int j)=some (.bool (decide (i<=j))):=rfl
def k_ge(i j:Int):Rk (.int i) (.int j)=some (.bool (decide (j<=i))):=rfl
def xK(i j:Int):zr (.int i) (.int j)=some (.bool (decide (i=j))):=rfl
def qY(i j:Int):wd (.int i) (.int j)=some (.bool (!decide (i=j))):=rfl
def YH(i:Int):qc (.int i)=some (.int (-i)):=rfl
def U5(hp:SQ p)(hq:SQ q):(zn (.int p.x) (.int q.w)=some (.int (p.x*q.w))/\zn (.int p.y) (.int q.w)=some (.int (p.y*q.w))/\zn (.int p.w) (.int q.x)=some (.int (p.w*q.x))/\zn (.int p.w) (.int q.y)=some (.int (p.w*q.y))/\zn (.int p.x) (.int q.y)=some (.int (p.x*q.y))/\zn (.int p.y) (.int q.x)=some (.int (p.y*q.x))):=
 ⟨zL hp.1 hq.2.2,zL hp.2.1 hq.2.2,zL hp.2.2 hq.1,zL hp.2.2 hq.2.1,zL hp.1 hq.2.1,zL hp.2.1 hq.1⟩
def jT(hp:SQ p)(hq:SQ q):vn [eQ p,eQ q]=some (.bool (bq p q)):=by
 obtain⟨a1,a2,a3,a4,a5,a6⟩:=U5 hp hq;obtain⟨b1,b2,b3,b4,b5,b6⟩:=U5 hq hp;unfold vn
 by_cases c:p.x*q.w=q.x*p.w
 ·simp! [vo,jy,w9,a1,a2,b1,b2,qY,vR,ζ c,bq,fG,θ c]
 ·simp! [vo,jy,w9,a1,a2,b1,b2,qY,vR,ι c,bq,fG,η c]
def K8(i:Int):qU [.int i]=some (.int (aB i)):=by
 unfold qU aB
 by_cases c:0<i
 ·simp! [K7,vR,ζ c,θ c]
 ·by_cases c2:i<0
  ·simp! [K7,vR,ι c,ζ c2,η c,θ c2,YH]
  ·simp! [K7,vR,ι c,ι c2,η c,η c2,YH]
noncomputable def eL(p q:Q3):Dt:=.tuple [.int (bQ p.x p.y p.w q.x q.y q.w),.int (bR p.x p.y p.w q.x q.y q.w),.int (bX p.x p.y p.w q.x q.y q.w)]
def YX(hp:SQ p)(hq:SQ q):vz [eQ p,eQ q]=some (eL p q):=by
 obtain⟨a1,a2,a3,a4,a5,a6⟩:=U5 hp hq;unfold vz;simp! [vo,jy,w9,a1,a2,a3,a4,a5,a6,k_sub];rfl
def U6(hp:SQ p)(hq:SQ q):(bQ p.x p.y p.w q.x q.y q.w).natAbs<2^200001/\(bR p.x p.y p.w q.x q.y q.w).natAbs<2^200001/\(bX p.x p.y p.w q.x q.y q.w).natAbs<2^200001:=
 ⟨zN (xb (zX hp.2.1 hq.2.2) (zX hp.2.2 hq.2.1)) (by decide),zN (xb (zX hp.2.2 hq.1) (zX hp.1 hq.2.2)) (by decide),zN (xb (zX hp.1 hq.2.1) (zX hp.2.1 hq.1)) (by decide)⟩
def jd{r:Q3}(hp:SQ p)(hq:SQ q)(hr:SQ r):xD [eL p q,eQ r]=some (.int (aB (dt p q r))):=by
 obtain⟨l1,l2,l3⟩:=U6 hp hq;have a1:=zL l1 hr.1;have a2:=zL l2 hr.2.1;have a3:=zL l3 hr.2.2;unfold xD eL;simp! [T9,U0,U1,vo,jy,w9,a1,a2,a3,U3,K8];rfl
def Va{r:Q3}(hp:SQ p)(hq:SQ q)(hr:SQ r):jO [eQ p,eQ q,eQ r]=some (.int (aB (dt p q r))):=by
 unfold jO;simp! [YX hp hq,jd hp hq hr]
noncomputable def pQ(p:Q3):GW:=.tuple [.int p.x,.int p.y,.int p.w]
def XA(p:Q3):fq (eQ p)=some (pQ p):=rfl
def JR(p:Q3):UP (pQ p)=true:=by
 simp[pQ,UP,UY,uz,UZ,QY]
def WG(p q:Q3):Uo (pQ p) (pQ q)=decide (p=q):=by
 obtain⟨x,y,w⟩:=p;obtain⟨x',y',w'⟩:=q;simp only[pQ,Uo,Uz,Fh]
 by_cases h1:x=x'<;>by_cases h2:y=y'<;>by_cases h3:w=w'<;>simp[h1,h2,h3]
def we(p q:Q3):sB (eQ p) (eQ q)=some (.bool (decide (p=q))):=by
 unfold sB;simp only[XA,kB,JR,and_self,if_true,WG]
def ze8(hp:SQ p)(hq:SQ q)(ne:p≠q):Yw [eQ p,eQ q]=some (eS (if bq p q=true then(p,q) else(q,p))):=by
 unfold Yw
 cases c:bq p q
 ·simp! [we,ι ne,jT hp hq,c];rfl
 ·simp! [we,ι ne,jT hp hq,c];rfl
end Nu
end
section
variable{α β:Type}
namespace Nu
def Gv(o:Option α)(P:α->Prop):Prop:=∃a,o=some a/\P a
def Gv.bind{o:Option α}{f:α->Option β}{P:α->Prop}{Q:β->Prop}(h:Gv o P)(k:∀a,P a->Gv (f a) Q):Gv (o.bind f) Q:=by
 obtain⟨a,rfl,p⟩:=h;exact k a p
noncomputable def nxt(fg:List Nat):Ou->Option En
 |.nx Z=>some (fgt fg Z)
 |.ct Z=>some (fgt fg Z)
 |_=>none
theorem Js{α σ:Type}{e:α->Dt}{h:Dt->En->Option En}{b:En->Option Ou}{fg:List Nat}(env:σ->En)(J:Nat->σ->Prop):∀(xs:List α)(k:Nat)(s:σ),J k s->(∀i a s,xs[i]?=some a->J (k+i) s->∃s',((h (e a) (env s)).bind b).bind (nxt fg)=some (env s')/\J (k+i+1) s')->∃s',ym h b fg (xs.map e) (env s)=some (.nx (env s'))/\J (k+xs.length) s'
 |[],k,s,h0,_=>⟨s,rfl,h0⟩
 |a::xs,k,s,h0,st=>by
  obtain⟨s1,e1,j1⟩:=st 0 a s rfl h0;obtain⟨s',e3,i3⟩:=Js env J xs (k+1) s1 j1 λi d' s hd hi=>by
   have:=st (i+1) d' s hd (by rw[show k+(i+1)=k+1+i by lia];exact hi)
   rw[show k+(i+1)+1=k+1+i+1 by lia] at this
   exact this
  refine⟨s',?_,by rw[kZ,show k+(xs.length+1)=k+1+xs.length by lia];exact i3⟩
  obtain⟨o,e4,e5⟩:=kA.mp e1;obtain⟨bY,e6,e7⟩:=kA.mp e4;rw[kN,ym,e6,kB,e7,kB]
  cases o with
  |nx cQ=>show ym h b fg (xs.map e) (fgt fg cQ)=_;rw[show fgt fg cQ=env s1 from uD e5];exact e3
  |ct cQ=>show ym h b fg (xs.map e) (fgt fg cQ)=_;rw[show fgt fg cQ=env s1 from uD e5];exact e3
  |bk cQ=>cases e5
  |rt d cQ=>cases e5
def yU{σ:Type}{e:α->Dt}{h:Dt->En->Option En}{b:En->Option Ou}{fg:List Nat}{K:Ou->Option β}{P:β->Prop}{Z:En}{xs:List α}(env:σ->En)(J:Nat->σ->Prop)(s0:σ)(eρ:Z=env s0)(h0:J 0 s0)(st:∀i a s,xs[i]?=some a->J i s->∃s',((h (e a) (env s)).bind b).bind (nxt fg)=some (env s')/\J (i+1) s')(k:∀s',J xs.length s'->Gv (K (.nx (env s'))) P):Gv ((ym h b fg (xs.map e) Z).bind K) P:=by
 subst eρ;obtain⟨s',e1,j1⟩:=Js (h:=h) (b:=b) (fg:=fg) (e:=e) env J xs 0 s0 h0 λi a s hi hj=>by
  rw[GT] at hj⊢;exact st i a s hi hj
 rw[GT] at j1;rw[e1];exact k s' j1
theorem yH{α:Type}{f:Dt->Option (Option Dt)}{e h:α->Dt}:∀{xs:List α},(∀a∈xs,f (e a)=some (some (h a)))->y9 f (xs.map e)=some (xs.map h)
 |[],_=>rfl
 |a::xs,H=>by
  rw[kN,y9,H a (by simp),kB,yH λb hb=>H b (by simp[hb])]
  rfl
theorem wB{α:Type}{f:Dt->Option (Option Dt)}{e h:α->Dt}{c:α->Bool}:∀{xs:List α},(∀a∈xs,f (e a)=some (if c a=true then some (h a) else none))->y9 f (xs.map e)=some ((xs.filter c).map h)
 |[],_=>rfl
 |a::xs,H=>by
  rw[kN,y9,H a (by simp),kB,wB λb hb=>H b (by simp[hb]),kB,UB]
  cases c a<;>rfl
theorem xj{α β γ:Type}{f:α->Option β}{e:γ->α}{h:γ->β}:∀{xs:List γ},(∀a∈xs,f (e a)=some (h a))->zv f (xs.map e)=some (xs.map h)
 |[],_=>rfl
 |a::xs,H=>by
  rw[kN,zv,H a (by simp),kB,xj λb hb=>H b (by simp[hb])]
  rfl
def K9{f:α->Option β}{h:α->β}{xs:List α}(H:∀a∈xs,f a=some (h a)):zv f xs=some (xs.map h):=by
 have:=xj (e:=λa=>a) (xs:=xs) H
 rwa [List.map_id'] at this
theorem JQ{lt:Nat->Nat->Bool}{i:Nat}:∀{l:List Nat},l.Pairwise (λa b=>lt a b=true)->(∀a∈l,lt a i=true\/lt i a=true)->(∀a∈l,∀b∈l,lt i a=true->lt a b=true->lt i b=true)->(jl lt i l).Pairwise λa b=>lt a b=true
 |[],_,_,_=>QK _ _
 |j::r,pw,tot,tr=>by
  obtain⟨p1,p2⟩:=uI.mp pw;unfold jl
  by_cases c:lt j i=true
  ·rw[θ c];refine uI.mpr ⟨λb hb=>?_,JQ p2 (λa ha=>tot a (by simp[ha])) λa ha b hb=>tr a (by simp[ha]) b (by simp[hb])⟩
   rcases kg.mp ((Vc lt i r).mem_iff.mp hb) with e|e
   ·rw[e];exact c
   ·exact p1 b e
  ·rw[η c];have cj:=(tot j (by simp)).resolve_left c
   refine uI.mpr ⟨λb hb=>?_,pw⟩;rcases kg.mp hb with e|e
   ·rw[e];exact cj
   ·exact tr j (by simp) b hb cj (p1 b e)
theorem Z8{lt:Nat->Nat->Bool}:∀{l:List Nat},l.Nodup->(∀a∈l,∀b∈l,a≠b->lt a b=true\/lt b a=true)->(∀a∈l,∀b∈l,∀c∈l,lt a b=true->lt b c=true->lt a c=true)->(xi lt l).Pairwise λa b=>lt a b=true
 |[],_,_,_=>.nil
 |i::r,nd,tot,tr=>by
  obtain⟨n1,n2⟩:=QN.mp nd;have m:∀a,a∈xi lt r->a∈r:=λa h=>(Ys lt r).mem_iff.mp h;unfold xi;refine JQ (Z8 n2 (λa ha b hb=>tot a (by simp[ha]) b (by simp[hb])) λa ha b hb c hc=>tr a (by simp[ha]) b (by simp[hb]) c (by simp[hc])) (λa ha=>tot a (by simp[m a ha]) i (by simp) λz=>n1 (z▸m a ha)) λa ha b hb=>tr i (by simp) a (by simp[m a ha]) b (by simp[m b hb])
theorem V3{lt:Nat->Nat->Bool}:∀{l:List Nat},l.Pairwise (λa b=>lt a b=true/\lt b a=false)->vH lt l=true
 |[],_=>rfl
 |i::r,pw=>by
  obtain⟨p1,p2⟩:=uI.mp pw;unfold vH;rw[V3 p2,Fh,Ut];intro j hj;obtain⟨h1,h2⟩:=p1 j hj;rw[h1,h2];rfl
theorem VP{e:α->Dt}{lt:α->α->Bool}{lt':Nat->Nat->Bool}{xs:List α}(d0:α)(el:∀i j,i<xs.length->j<xs.length->lt' i j=lt (xs.getD i d0) (xs.getD j d0))(nd:xs.Nodup)(tot:∀a∈xs,∀b∈xs,a≠b->lt a b=true\/lt b a=true)(tr:∀a∈xs,∀b∈xs,∀c∈xs,lt a b=true->lt b c=true->lt a c=true)(irr:∀a∈xs,lt a a=false):
  ∃ys:List α,ys.Perm xs/\ys.Pairwise (λa b=>lt a b=true)/\Il (xs.map e).length (xs.map e) lt'=some (ys.map e):=by
 have gm:∀i,i∈kM xs.length->i<xs.length:=λi h=>pe.mp h;have gd:∀i,i<xs.length->xs.getD i d0∈xs:=λi h=>by rw[kG,kH h];exact uq h
 have gi:∀i j,i<xs.length->j<xs.length->xs.getD i d0=xs.getD j d0->i=j:=λi j hi hj z=>by
  rw[kG,kG,kH hi,kH hj] at z;have z:xs[i]=xs[j]:=z;rcases Aq i j with l|l|l
  ·exact absurd z (po.mp nd i j hi hj l)
  ·exact l
  ·exact absurd z.symm (po.mp nd j i hj hi l)
 have pw:=Z8 (lt:=lt') (l:=kM xs.length) EC (λa ha b hb ab=>by
   rw[el a b (gm a ha) (gm b hb),el b a (gm b hb) (gm a ha)];exact tot _ (gd a (gm a ha)) _ (gd b (gm b hb)) λz=>ab (gi a b (gm a ha) (gm b hb) z)) λa ha b hb c hc=>by
  rw[el a b (gm a ha) (gm b hb),el b c (gm b hb) (gm c hc),el a c (gm a ha) (gm c hc)];exact tr _ (gd a (gm a ha)) _ (gd b (gm b hb)) _ (gd c (gm c hc))
 have pm:=Ys lt' (kM xs.length);have ml:∀i,i∈xi lt' (kM xs.length)->i<xs.length:=λi h=>gm i (pm.mem_iff.mp h);refine⟨(xi lt' (kM xs.length)).map λi=>xs.getD i d0,?_,?_,?_⟩
 ·refine(pm.map _).trans ?_;have:(kM xs.length).map (λi=>xs.getD i d0)=xs:=by
   refine UH λi=>?_;rw[kX]
   by_cases c:i<xs.length
   ·rw[uM c,kH c];show some (xs.getD i d0)=_;rw[kG,kH c];rfl
   ·rw[uE (by rw[pE];lia),uE (by lia)];rfl
  rw[this]
 ·rw[List.pairwise_map];exact AG (λ{a b} ha hb z=>by rw[<-el a b (ml a ha) (ml b hb)];exact z) pw
 ·unfold Il;rw[kJ,θ]
  ·refine υ some ?_;rw[uc];refine UF λi hi=>?_;have:=ml i hi;show(xs.map e).getD i .none=e (xs.getD i d0);rw[kG,kG,kX,kH this];rfl
  ·refine V3 (AG (λ{a b} ha hb z=>⟨z,?_⟩) pw);have la:=ml a ha;have lb:=ml b hb
   cases q:lt' b a with
   |false=>rfl
   |true=>
    rw[el a b la lb] at z;rw[el b a lb la] at q;have:=tr _ (gd a la) _ (gd b lb) _ (gd a la) z q;rw[irr _ (gd a la)] at this
    cases this
noncomputable def kQ(r:Q3):KT:=[.inl r.x,.inl r.y,.inl r.w]
def vC{p q:Q3}(h:kQ p=kQ q):p=q:=by
 obtain⟨x,y,w⟩:=p;obtain⟨x',y',w'⟩:=q;unfold kQ at h
 cases h;rfl
def xB(p:Q3):xI (eQ p)=some (kQ p):=rfl
def xY{qs:List Q3}{p:Q3}:kQ p∈qs.map kQ↔p∈qs:=⟨λh=>let⟨q,hq,e⟩:=kh.mp h;vC e▸hq,λh=>kh.mpr ⟨p,h,rfl⟩⟩
def JL(qs:List Q3)(p:Q3):yO (qs.map kQ) (kQ p)=decide (p∈qs):=by
 unfold yO;exact ω.mpr xY
theorem jD{κ α β:Type}[DecidableEq κ]{k:β->κ}{f:β->α}(inj:∀a b,k a=k b->a=b):∀{qs:List β}{p:β},p∈qs->cR (qs.map k) (qs.map f) (k p)=some (f p)
 |[],_,h=>by cases h
 |q::qs,p,h=>by
  rw[kN,kN,cR]
  by_cases e:k q=k p
  ·rw[θ e,inj _ _ e]
  ·rw[η e];rcases kg.mp h with z|z
   ·exact absurd (by rw[z]) e
   ·exact jD inj z
def vk{f:Q3->Dt}{qs:List Q3}{p:Q3}(h:p∈qs):yn (.dT (qs.map kQ) (qs.map f)) (eQ p)=some (f p):=by
 show(xI (eQ p)).bind _=_
 rw[xB];exact jD (λ_ _=>vC) h
def xH(ds:List Dt)(qs:List Q3)(p:Q3):zY (.dT (qs.map kQ) ds) (eQ p)=some (decide (p∈qs)):=by
 simp only[zY,xB,kB,JL]
noncomputable def eK(g:Int)(p:Q3):Dt:=.tuple [.int (aP g p).1,.int (aP g p).2]
structure U7(ps qs:List Q3):Prop where
 nd:qs.Nodup
 mem:∀p,p∈qs↔p∈ps
 len:qs.length<=ps.length
def G6(n:Nat)(ps:List Q3):Prop:=∀p∈ps,PQ n p
theorem Po(ps:List Q3)(hp:∀p∈ps,0<p.w):0<H3 (ps.map Q3.w) 1/\(∀p∈ps,p.w<=H3 (ps.map Q3.w) 1)/\((∃p∈ps,H3 (ps.map Q3.w) 1=p.w)\/H3 (ps.map Q3.w) 1=1):=by
 cases ps with
 |nil=>exact⟨(by decide),λp h=>(by cases h),.inr rfl⟩
 |cons p ps=>
  obtain⟨h1,h2,h3⟩:=W1 (ps.map Q3.w) p.w;have e:H3 ((p::ps).map Q3.w) 1=(ps.map Q3.w).foldl max p.w:=rfl;rw[e];have:=hp p (by simp)
  refine⟨by lia,λq hq=>?_,.inl ?_⟩
  ·rcases kg.mp hq with rfl|hq
   ·exact h1
   ·exact h2 _ (kh.mpr ⟨q,hq,rfl⟩)
  ·rcases h3 with h3|h3
   ·exact⟨p,by simp,h3⟩
   ·obtain⟨q,hq,e⟩:=kh.mp h3;exact⟨q,by simp[hq],e.symm⟩
def VY{f:Q3->Dt}{qs:List Q3}{p:Q3}(h:p∉qs)(l:qs.length<μ):xg (.dT (qs.map kQ) (qs.map f)) (eQ p) (f p)=some (.dT ((qs++[p]).map kQ) ((qs++[p]).map f)):=by
 have n:kQ p∉qs.map kQ:=λz=>h (xY.mp z);simp only[xg,xB,kB];rw[θ (by rw[kJ];exact l)]
 unfold pK pV;rw[η n,η n,ku,ku];rfl
theorem Xx{n:Nat}(hn:n<=8999){ps:List Q3}(hp:G6 n ps)(hl:ps.length<=8000000):Gv (jz [.list (ps.map eQ)]) λd=>∃(g:Int)(qs:List Q3),d=.dT (qs.map kQ) (qs.map (eK g))/\0<g/\(∀p∈ps,p.w<=g)/\U7 ps qs:=by
 obtain⟨g0,gm,gi⟩:=Po ps λp h=>(hp p h).pos;generalize eg:H3 (ps.map Q3.w) 1=g at*;have gb:g.natAbs<2^9000:=by
  rcases gi with⟨p,h,e⟩|e
  ·rw[e];exact zN (hp p h).lw (by lia)
  ·rw[e];exact Nat.one_lt_two_pow (by decide)
 have gg:(g*g).natAbs<2^18000:=zX gb gb;have m1:=zL gb gb;have im:zv xa (ps.map λp=>Dt.int p.w)=some (ps.map Q3.w):=xj λp _=>rfl;unfold jz;simp! [Ij,au,bv];rw[yH (e:=eQ) (h:=λp=>Dt.int p.w) λp _=>by simp! [w9]]
 simp! [im,xa,eg,m1,aO];rw[uJ];refine yU (σ:=List Q3) (λqs=>[.fz (.list (ps.map eQ)),.fz (.int g),.fz (.int (g*g)),.ow false 1 (.dT (qs.map kQ) (qs.map (eK g))),.un]) (λi qs=>U7 (ps.take i) qs) [] rfl ⟨.nil,λp=>(by simp),pI _⟩ (λi p qs hi O=>?_) λqs O=>?_
 ·have hq:=hp p (kT hi);have tB:=(kE.mp hi).1;have lq:qs.length<=8000000:=uK O.len (by rw[pC];lia)
  have mm:∀q,q∈ps.take (i+1)↔q∈qs\/q=p:=λq=>by rw[pU,hi,pD,O.mem];simp
  by_cases c:p∈qs
  ·refine⟨qs,?_,O.nd,λq=>by rw[mm];exact⟨.inl,λz=>z.elim id λz=>z▸c⟩,uK O.len (by rw[pC,pC];lia)⟩
   simp! [nxt,dM,xH,ζ c]
  ·have p1:=zL (m:=9000) (zN hq.lx (by lia)) gg
   have p2:=zL (m:=9000) (zN hq.ly (by lia)) gg
   have wn:p.w≠0:=hq.ne;have d1:∀z:Int,zO (.int z) (.int p.w)=some (.int (z/p.w)):=λz=>by
    rw[MW ⟨wn,zN hq.lw (by lia)⟩,Av _ (kY hq.pos)]
   have pt:=VY (f:=eK g) c (yE lq);refine⟨qs++[p],?_,?_,λq=>by rw[mm,pD,ki],?_⟩
   ·simp! [nxt,dM,xH,ι c,sH,R2,vo,jy,w9,p1,p2,d1];rw[show(Dt.tuple [.int (p.x*(g*g)/p.w),.int (p.y*(g*g)/p.w)])=eK g p from rfl,pt];rfl
   ·exact QG.mpr ⟨O.nd,QK _ _,λa ha b hb e=>c (by rw[ki.mp hb] at e;exact e▸ha)⟩
   ·rw[kW,QU,pC];have:=O.len;rw[pC] at this;lia
 ·rw[uY] at O;simp! [];exact⟨_,rfl,g,qs,rfl,g0,gm,O⟩
end Nu
end
section
variable{n:Nat}{a b:Q3}
namespace Nu
theorem Yc{g:Int}(ha:PQ n a)(hb:PQ n b)(ga:a.w<=g)(gb:b.w<=g):sQ (aP g a) (aP g b)=bq a b:=by
 have e:sQ (aP g a) (aP g b)=lt2 (aP g a) (aP g b):=by
  unfold sQ lt2 lexB
  by_cases h:(aP g a).1=(aP g b).1
  ·grind
  ·grind
 rw[e]
 cases c:bq a b with
 |true=>exact MU ha.pos hb.pos ga gb c
 |false=>exact XH ha hb ga gb c
def Pp{g:Int}(ha:PQ n a)(hb:PQ n b)(ga:a.w<=g)(gb:b.w<=g)(h:aP g a=aP g b):a=b:=by
 have e1:=Yc ha hb ga gb;have e2:=Yc hb ha gb ga;have z:∀k,sQ k k=false:=λk=>by unfold sQ;rw[θ rfl,θ rfl]
 rw[h,z] at e1 e2;exact xo ha hb e1.symm e2.symm
theorem WL(ha:PQ n a)(hb:PQ n b)(ne:a≠b):bq a b=true\/bq b a=true:=by
 cases h1:bq a b with
 |true=>exact .inl rfl
 |false=>cases h2:bq b a with
  |true=>exact .inr rfl
  |false=>exact absurd (xo ha hb h1 h2) ne
def Up(os:List Q3):Prop:=os.Pairwise λa b=>bq a b=true
def VM(hn:n<=8999){ps:List Q3}(hp:G6 n ps)(hl:ps.length<=8000000):Gv (j7 [.list (ps.map eQ)]) λd=>∃os:List Q3,d=.list (os.map eQ)/\Up os/\(∀p,p∈os↔p∈ps)/\os.length<=ps.length:=by
 obtain⟨d,e,g,qs,rfl,g0,gm,O⟩:=Xx hn hp hl;have hq:∀q∈qs,PQ n q/\q.w<=g:=λq h=>⟨hp q ((O.mem q).mp h),gm q ((O.mem q).mp h)⟩;have lk:yl [.dT (qs.map kQ) (qs.map (eK g))]=some (.list (qs.map eQ)):=by
  show(if _ then _ else _)=_
  rw[θ,uc]
  ·rfl
  ·rw[Ut];intro k hk;obtain⟨q,_,rfl⟩:=kh.mp hk;exact ζ (wt (by decide:3<=8000000))
 obtain⟨ys,pm,pw,es⟩:=VP (e:=eQ) (lt:=bq) (lt':=λi j=>sQ ((qs.map (aP g)).getD i (0,0)) ((qs.map (aP g)).getD j (0,0))) (xs:=qs) ⟨0,0,1⟩ (λi j hi hj=>by
   rw[kG,kG,kG,kG,kX,kX,kH hi,kH hj];have h1:=hq _ (uq hi);have h2:=hq _ (uq hj);exact Yc h1.1 h2.1 h1.2 h2.2) O.nd (λa ha b hb ne=>WL (hq a ha).1 (hq b hb).1 ne) (λa ha b hb c hc=>yA (hq a ha).1 (hq b hb).1 (hq c hc).1) λa _=>zk a
 have m1:zv (λd=>bz (dV 1) (dV 0) [.fz d,.fz (.dT (qs.map kQ) (qs.map (eK g)))]) (qs.map eQ)=some (qs.map (eK g)):=xj λq h=>by simp! [bz,vk h]
 have m2:zv tX (qs.map (eK g))=some (qs.map (aP g)):=xj λq h=>rfl;refine⟨.list (ys.map eQ),?_,ys,rfl,pw,λp=>(pm.mem_iff).trans (O.mem p),by rw[pm.length_eq];exact O.len⟩
 unfold j7;simp only[jN,bx,ao,ar,aK,aj,aa,ae,dV,sF,sR,cf,tK,tA,cF,kB,kZ,uS,kN,UA,gw,Qm,gW,pY,pX,Qu,Qi,hU,CK,↓reduceIte,e,lk,m2,es];rw[xj (h:=eK g) (e:=eQ) λq h=>by simp! [bz,vk h]]
 simp only[kB,m2,es,cF]
noncomputable def fJ:List Q3->List Q3->Bool
 |[],ys=>decide (0<ys.length)
 |_::_,[]=>false
 |x::xs,y::ys=>if x=y then fJ xs ys else bq x y
theorem Zy{n:Nat}{g:Int}:∀{xs ys:List Q3},(∀p∈xs,PQ n p/\p.w<=g)->(∀p∈ys,PQ n p/\p.w<=g)->cV (xs.map (aP g)) (ys.map (aP g))=fJ xs ys
 |[],ys,_,_=>by rw[UA,cV,fJ,kJ]
 |_::_,[],_,_=>rfl
 |x::xs,y::ys,hx,hy=>by
  have h1:=hx x (by simp)
  have h2:=hy y (by simp)
  rw[kN,kN,qH,fJ]
  by_cases e:x=y
  ·rw[θ (by rw[e]),θ e]
   exact Zy (λp h=>hx p (by simp[h])) λp h=>hy p (by simp[h])
  ·rw[η (λz=>e (Pp h1.1 h2.1 h1.2 h2.2 z)),η e,<-Yc h1.1 h2.1 h1.2 h2.2];unfold sQ lt2 lexB
   by_cases h:(aP g x).1=(aP g y).1
   ·grind
   ·grind
theorem qT:∀a:List Q3,fJ a a=false
 |[]=>rfl
 |x::xs=>by rw[fJ,θ rfl];exact qT xs
theorem Zu{n:Nat}:∀{a b:List Q3},G6 n a->G6 n b->a≠b->fJ a b=true\/fJ b a=true
 |[],[],_,_,h=>absurd rfl h
 |[],_::_,_,_,_=>.inl (by rw[fJ];exact ζ (Bp _))
 |_::_,[],_,_,_=>.inr (by rw[fJ];exact ζ (Bp _))
 |x::xs,y::ys,hx,hy,ne=>by
  rw[fJ,fJ]
  by_cases e:x=y
  ·rw[θ e,θ e.symm];exact Zu (λp h=>hx p (by simp[h])) (λp h=>hy p (by simp[h])) λz=>ne (by rw[e,z])
  ·rw[η e,η (gB e)];exact WL (hx x (by simp)) (hy y (by simp)) e
theorem XZ{n:Nat}:∀{a b c:List Q3},G6 n a->G6 n b->G6 n c->fJ a b=true->fJ b c=true->fJ a c=true
 |[],[],_,_,_,_,h1,_=>by cases h1
 |[],_::_,[],_,_,_,_,h2=>by cases h2
 |[],_::_,_::_,_,_,_,_,_=>by rw[fJ];exact ζ (Bp _)
 |_::_,[],_,_,_,_,h1,_=>by cases h1
 |_::_,_::_,[],_,_,_,_,h2=>by cases h2
 |x::xs,y::ys,z::zs,hx,hy,hz,h1,h2=>by
  rw[fJ] at h1 h2⊢
  by_cases e1:x=y
  ·rw[θ e1] at h1
   by_cases e2:y=z
   ·rw[θ e2] at h2;rw[θ (e1.trans e2)];exact XZ (λp h=>hx p (by simp[h])) (λp h=>hy p (by simp[h])) (λp h=>hz p (by simp[h])) h1 h2
   ·grind
  ·rw[η e1] at h1
   by_cases e2:y=z
   ·grind
   ·rw[η e2] at h2;have:=yA (hx x (by simp)) (hy y (by simp)) (hz z (by simp)) h1 h2
    rw[η (λw=>by rw[w,zk] at this;cases this)]
    exact this
theorem YE{α:Type}{f:α->List Q3}{m:Nat}:∀(xs:List α),(∀a∈xs,(f a).length<=m)->(xs.flatMap f).length<=m*xs.length
 |[],_=>by simp
 |x::xs,h=>by
  rw[UM,kW,kZ,Nat.mul_succ];have:=h x (by simp)
  have:=YE (f:=f) xs λa ha=>h a (by simp[ha])
  lia
theorem JH{α:Type}[DecidableEq α](hn:n<=8999){e:α->Dt}{pts:α->List Q3}(d0:α)(he:∀a,e a=.tuple ((pts a).map eQ))(inj:∀a b,pts a=pts b->a=b){xs:List α}(hp:∀a∈xs,G6 n (pts a)){m:Nat}(hm:∀a∈xs,(pts a).length<=m)(hl:m*xs.length<=8000000)(nd:xs.Nodup):
  Gv (qD [.list (xs.map e)]) λd=>∃ys:List α,d=.list (ys.map e)/\ys.Perm xs/\ys.Pairwise λa b=>fJ (pts a) (pts b)=true:=by
 unfold qD;simp! [aO];rw[uJ];refine yU (σ:=List Q3×Sl) (λs=>[.fz (.list (xs.map e)),.ow false 1 (.list (s.1.map eQ)),s.2,.un]) (λi s=>s.1=(xs.take i).flatMap pts) ([],.un) rfl (by simp) (λi a s hi hs=>?_) λs hs=>?_
 ·have ha:=kT hi;have tB:=(kE.mp hi).1;have l0:s.1.length+(pts a).length<=μ:=by
   rw[hs];have h1:=YE (f:=pts) (m:=m) (xs.take (i+1)) λb hb=>hm b (UV hb);have:(xs.take (i+1)).flatMap pts=(xs.take i).flatMap pts++pts a:=by rw[pU,hi,QW];simp
   rw[this,kW,pC] at h1;refine wt (uK h1 (uK (Nat.mul_le_mul_left m (Nat.min_le_right _ _)) hl))
  refine⟨(s.1++pts a,.fz (e a)),?_,?_⟩
  ·simp! [nxt,B9,sD,he,kJ,θ l0,ku]
  ·show s.1++pts a=_
   rw[hs,pU,hi,QW]
   simp
 ·rw[uY] at hs;obtain⟨s1,s2⟩:=s;have hs:s1=xs.flatMap pts:=hs;have hP:G6 n s1:=λp h=>by
   rw[hs] at h;obtain⟨a,ha,h⟩:=Uy.mp h;exact hp a ha p h
  have hL:s1.length<=8000000:=by rw[hs];exact uK (YE xs hm) hl
  obtain⟨d,ek,g,qs,rfl,g0,gm,O⟩:=Xx hn hP hL;have hq:∀a∈xs,∀p∈pts a,p∈qs/\PQ n p/\p.w<=g:=λa ha p h=>by
   have:p∈s1:=by grind
   exact⟨(O.mem p).mpr this,hP p this,gm p this⟩
  obtain⟨ys,pm,pw,es⟩:=VP (e:=e) (lt:=λa b=>fJ (pts a) (pts b)) (lt':=λi j=>cV ((xs.map λa=>(pts a).map (aP g)).getD i []) ((xs.map λa=>(pts a).map (aP g)).getD j [])) (xs:=xs) d0 (λi j hi hj=>by
    rw[kG,kG,kG,kG,kX,kX,kH hi,kH hj];exact Zy (λp h=>(hq _ (uq hi) p h).2) λp h=>(hq _ (uq hj) p h).2) nd (λa ha b hb ne=>Zu (hp a ha) (hp b hb) λz=>ne (inj _ _ z)) (λa ha b hb c hc=>XZ (hp a ha) (hp b hb) (hp c hc)) λa _=>qT _
  have m2:zv R3 (xs.map λa=>Dt.list ((pts a).map (eK g)))=some (xs.map λa=>(pts a).map (aP g)):=xj λa _=>by
   show zv tX ((pts a).map (eK g))=_
   exact xj λq h=>rfl
  simp! [jN,ek];rw[xj (h:=λa=>Dt.list ((pts a).map (eK g))) (e:=e) λa h=>by
   simp! [au,bv,he];rw[yH (e:=eQ) (h:=eK g) λp tP=>by simp! [bz,vk (hq a h p tP).1]]
   simp only[kB]]
  simp only[kB,m2,es,cF];exact⟨_,rfl,ys,rfl,pm,pw⟩
noncomputable def zE(ss:List (Q3×Q3)):List Q3:=ss.flatMap λs=>[s.1,s.2]
theorem Ze{ss:List (Q3×Q3)}(hl:ss.length<=2000000):jw [.list (ss.map eS)]=some (.list ((zE ss).map eQ)):=by
 suffices Gv (jw [.list (ss.map eS)]) λd=>d=.list ((zE ss).map eQ) by obtain⟨d,e,rfl⟩:=this;exact e
 unfold jw;simp! [aO];rw[uJ];refine yU (σ:=List Q3) (λs=>[.fz (.list (ss.map eS)),.ow false 1 (.list (s.map eQ)),.un]) (λi s=>s=zE (ss.take i)) [] rfl rfl (λi a s hi hs=>?_) λs hs=>?_
 ·have tB:=(kE.mp hi).1;have l0:s.length+2<=μ:=by
   rw[hs];have h1:=YE (f:=λs:Q3×Q3=>[s.1,s.2]) (m:=2) (ss.take i) λb _=>pI _;rw[pC] at h1;refine wt ?_;show(zE (ss.take i)).length+2<=_;unfold zE;lia
  refine⟨s++[a.1,a.2],?_,?_⟩
  ·simp! [nxt,B9,sD,eS,kJ,θ l0,ku]
  ·rw[hs,pU,hi];unfold zE;rw[QW];rfl
 ·rw[uY] at hs;subst hs;simp! [];exact⟨_,rfl,rfl⟩
noncomputable def yC(f:Q3×Q3):Q3×Q3:=if bq f.1 f.2=true then f else(f.2,f.1)
end Nu
end
section
variable{i a b x:Int}{c d p:Q3}
namespace Nu
def U8{j:Int}(h:j≠0):zx (.int i) (.int j)=some (.int (i.fmod j)):=by simp only[zx,kI,θ h]
def MX(i:Int):vi [.int i]=some (.int (if i<0 then-i else i)):=rfl
noncomputable def Pq:En->Option Bool:=dB (d2 wd (dV 3) (dC (.int 0)))
noncomputable def RJ:En->Option Ou:=ao (ar 4 (d2 zx (dV 2) (dV 3))) (ao (ar 2 (dV 3)) (ar 3 (dV 4)))
noncomputable def La(a b x y:Int):En:=[.fz (.int a),.fz (.int b),.fz (.int x),.fz (.int y),.un]
def XX(n:Nat):di [4] Pq RJ (n+1) (La a b x 0)=some (.nx (La a b x 0)):=by
 rw[di];simp! [Pq,La,qY,decide_true]
def ZX{y:Int}(n:Nat)(h:y≠0):di [4] Pq RJ (n+1) (La a b x y)=di [4] Pq RJ n (La a b y (x.fmod y)):=by
 rw[di];simp! [Pq,RJ,La,qY,ι h,U8 h]
theorem JU{a b:Int}:∀(m:Nat)(x y:Int),0<=x->0<=y->y.natAbs<2^m->di [4] Pq RJ (2*m+1) (La a b x y)=some (.nx (La a b (G x y) 0))
 |0,x,y,hx,hy,h=>by
  have e:y=0:=by lia
  subst e;rw[<-Xq hx rfl];exact XX 0
 |m+1,x,y,hx,hy,h=>by
  by_cases c:y=0
  ·subst c;rw[<-Xq hx rfl];exact XX _
  ·rw[show 2*(m+1)+1=(2*m+2)+1 by lia,ZX _ c,<-VE]
   have r0:0<=x.fmod y:=Qj x (by lia)
   have r1:x.fmod y<y:=UT x (by lia)
   generalize x.fmod y=r at*
   by_cases c2:r=0
   ·subst c2;rw[<-Xq hy rfl];exact XX _
   ·rw[show 2*m+2=(2*m+1)+1 by lia,ZX _ c2,<-VE]
    have s0:0<=y.fmod r:=Qj y (by lia)
    have s1:y.fmod r<r:=UT y (by lia)
    have e:=Bz y r;refine JU m r (y.fmod r) r0 s0 ?_;have q1:1<=y.fdiv r:=by
     rw[Av _ (by lia)]
     exact CB (by lia) (by lia)
    have:r<=r*y.fdiv r:=by
     have:=AO q1 (show 0<=r by lia)
     lia
    rw[ER] at h;lia
theorem Z3{m:Nat}(h:b.natAbs<2^m)(hm:m<=19000):j9 [.int a,.int b]=some (.int (G a b)):=by
 have e0:∀z:Int,(if z<0 then-z else z)=(z.natAbs:Int):=λz=>by split<;>lia
 have l:=JU (a:=a) (b:=b) m (a.natAbs:Int) (b.natAbs:Int) (by lia) (by lia) (by lia)
 have eg:G (a.natAbs:Int) (b.natAbs:Int)=G a b:=by unfold G;simp only[Int.gcd,Fu]
 have l2:=qA l (40000-(2*m+1));rw[show 2*m+1+(40000-(2*m+1))=40000 by lia,eg] at l2
 unfold La Pq RJ at l2;unfold j9;simp only[bx,kZ,uS,hU,↓reduceIte,kN,UA,Qm,gW,gw,CK];rw[ao];simp only[ar,aj,aa,ae,dV,sF,pY,pX,kB,MX,e0,Qu,Qi];rw[cf,ao];simp only[ar,aj,aa,ae,dV,sF,pY,pX,kB,MX,e0,Qu,Qi];rw[cf,ao,jo,l2];rfl
def JK(i:Int):qh [.int i]=some (.bool true):=rfl
theorem VI{y w:Int}{m:Nat}(hx:x.natAbs<2^m)(hy:y.natAbs<2^m)(hw:w.natAbs<2^m)(hm:m<=8999)(nz:w≠0):qF [.int x,.int y,.int w]=some (eQ ⟨MP x y w,MQ x y w,MS x y w⟩):=by
 have h1:=Z3 (a:=w) (b:=x) hx (by lia)
 have h2:=Z3 (a:=G w x) (b:=y) hy (by lia)
 have fl:=KW (x:=x) (y:=y) nz;have dv:∀z,zO (.int z) (.int (bN x y w))=some (.int (z.fdiv (bN x y w))):=λz=>MW ⟨XM nz,Qt fl (zN hw hm)⟩;unfold bN at dv;unfold qF
 by_cases c:w<0
 ·rw[θ c] at dv;simp! [JK,xK,ι nz,h1,h2,vR,ζ c,YH,dv];unfold eQ MP MQ MS bN;rw[θ c]
 ·rw[η c] at dv;simp! [JK,xK,ι nz,h1,h2,vR,ι c,YH,dv];unfold eQ MP MQ MS bN;rw[η c]
variable{a b:Q3}
theorem Pr{n:Nat}(hn:4*n+3<=8999)(ha:PQ n a)(hb:PQ n b)(hc:PQ n c)(hd:PQ n d)(nz:bS a b c d≠0):Yu [eL a b,eL c d]=some (eQ (crP a b c d)):=by
 obtain⟨b1,b2,b3⟩:=jL ha hb hc hd;have l:∀{p q:Q3},PQ n p->PQ n q->(bQ p.x p.y p.w q.x q.y q.w).natAbs<2^9000/\(bR p.x p.y p.w q.x q.y q.w).natAbs<2^9000/\(bX p.x p.y p.w q.x q.y q.w).natAbs<2^9000:=λhp hq=>
  ⟨zN (xb (zX hp.ly hq.lw) (zX hp.lw hq.ly)) (by lia),zN (xb (zX hp.lw hq.lx) (zX hp.lx hq.lw)) (by lia),zN (xb (zX hp.lx hq.ly) (zX hp.ly hq.lx)) (by lia)⟩
 obtain⟨p1,p2,p3⟩:=l ha hb;obtain⟨q1,q2,q3⟩:=l hc hd;have m1:=zL p1 q2;have m2:=zL p2 q1;have m3:=zL p2 q3;have m4:=zL p3 q2;have m5:=zL p3 q1;have m6:=zL p1 q3;have ep:=VI b1 b2 b3 (by lia) nz
 unfold bS at nz;unfold fH fI bS at ep;unfold Yu eL;simp! [T9,U0,U1,m1,m2,m3,m4,m5,m6,k_sub,xK,ι nz,ep];rfl
noncomputable def eM:MR->Dt
 |.none=>.none
 |.spot p=>.tuple [.str "spot",eQ p]
 |.part p q=>.tuple [.str "part",eS (p,q)]
def U9(a b c d:Int):sB (.tuple [.int a,.int b]) (.tuple [.int c,.int d])=some (.bool (decide (a=c/\b=d))):=by
 have t:∀a b:Int,fq (.tuple [.int a,.int b])=some (.tuple [.int a,.int b]):=λ_ _=>rfl;have s:∀a b:Int,UP (.tuple [.int a,.int b])=true:=λa b=>by simp[UP,UY,uz,UZ,QY]
 unfold sB;simp only[t,kB,s,and_self,if_true,Uo,Uz,Fh]
 by_cases h1:a=c<;>by_cases h2:b=d<;>simp[h1,h2]
theorem Ps(ha:SQ a)(hb:SQ b)(hc:SQ c)(hd:SQ d):Yq [eS (a,b),eS (c,d)]=some (eM (RI a b c d)):=by
 have e1:(if bq a c=true then some (eQ c) else some (eQ a))=some (eQ (aF a c)):=by unfold aF;split<;>rfl
 have e2:(if bq b d=true then some (eQ b) else some (eQ d))=some (eQ (aI b d)):=by unfold aI;split<;>rfl
 have f1:SQ (aF a c):=by unfold aF;split<;>assumption
 have f2:SQ (aI b d):=by unfold aI;split<;>assumption
 unfold Yq RI;simp! [yI,yR,jT ha hc,jT hb hd,e1,e2,jT f2 f1,we]
 by_cases c1:bq (aI b d) (aF a c)=true
 ·simp! [c1];rfl
 ·by_cases c2:aF a c=aI b d
  ·have c2':(aF a c).x=(aI b d).x/\(aF a c).y=(aI b d).y/\(aF a c).w=(aI b d).w:=by rw[c2];exact⟨rfl,rfl,rfl⟩
   simp! [c1,we,ζ c2,θ c2'];rfl
  ·have c2':¬((aF a c).x=(aI b d).x/\(aF a c).y=(aI b d).y/\(aF a c).w=(aI b d).w):=λz=>c2 (Q3.ext' z);simp! [c1,we,ι c2,η c2'];rfl
def catS(s t:Q3×Q3):xQ (eS s) (eS t)=some (.tuple [eQ s.1,eQ s.2,eQ t.1,eQ t.2]):=by
 simp only[eS,xQ,kZ,uS,hU,fX,if_true,Qm,gW]
def catI(a b c d:Int):xQ (.tuple [.int a,.int b]) (.tuple [.int c,.int d])=some (.tuple [.int a,.int b,.int c,.int d]):=by
 simp only[xQ,kZ,uS,hU,fX,if_true,Qm,gW]
def zip4(a b c d a' b' c' d':Dt):sE [.tuple [a,b,c,d],.tuple [a',b',c',d']]=some [.tuple [a,a'],.tuple [b,b'],.tuple [c,c'],.tuple [d,d']]:=rfl
noncomputable def RL:En->Option Ou:=aC (dB (d2 zr (dV 7) (dC (.int 0)))) (aK (aN (aa (dC (.str "spot")) (aa (dV 6) ae)))) bI
def YS{x0 x1 x2 x3 x4 x5:Sl}{r:List Dt}(h:i=0):ym (gT 2 (bM (gN 6) (bM (gN 7) eu))) RL [6,7] (.tuple [eQ p,.int i]::r) [x0,x1,x2,x3,x4,x5,.un,.un]=some (.rt (.tuple [.str "spot",eQ p]) [x0,x1,x2,x3,x4,x5,.fz (eQ p),.fz (.int i)]):=by
 rw[ym];simp! [RL,xK,ζ h]
def Y6{x0 x1 x2 x3 x4 x5:Sl}{r:List Dt}(h:¬i=0):ym (gT 2 (bM (gN 6) (bM (gN 7) eu))) RL [6,7] (.tuple [eQ p,.int i]::r) [x0,x1,x2,x3,x4,x5,.un,.un]=ym (gT 2 (bM (gN 6) (bM (gN 7) eu))) RL [6,7] r [x0,x1,x2,x3,x4,x5,.un,.un]:=by
 rw[ym];simp! [RL,xK,ι h]
theorem Lb{n:Nat}(hn:4*n+3<=8999)(ha:PQ n a)(hb:PQ n b)(hc:PQ n c)(hd:PQ n d):Yh [eS (a,b),eS (c,d)]=some (eM (fb a b c d)):=by
 have sa:=SQ.of ha (by lia)
 have sb:=SQ.of hb (by lia)
 have sc:=SQ.of hc (by lia)
 have sd:=SQ.of hd (by lia)
 unfold Yh fb;simp! [yI,yR,YX sa sb,jd sa sb sc,jd sa sb sd,U9]
 by_cases c1:aB (dt a b c)=0/\aB (dt a b d)=0
 ·simp! [ζ c1,Ps sa sb sc sd,θ c1]
 ·simp! [ι c1,η c1,K4,K6,xK]
  by_cases c2:aB (dt a b c)=aB (dt a b d)
  ·simp! [ζ c2,θ c2];rfl
  ·simp! [ι c2,η c2,yI,yR,YX sc sd,jd sc sd sa,jd sc sd sb,K4,K6,xK]
   by_cases c3:aB (dt c d a)=aB (dt c d b)
   ·simp! [ζ c3,θ c3];rfl
   ·simp! [ι c3,η c3,aO,catS,catI,zip4];unfold u6;rw[<-RL]
    by_cases z1:aB (dt a b c)=0
    ·rw[YS z1,θ z1];rfl
    ·rw[Y6 z1,η z1]
     by_cases z2:aB (dt a b d)=0
     ·rw[YS z2,θ z2];rfl
     ·rw[Y6 z2,η z2]
      by_cases z3:aB (dt c d a)=0
      ·rw[YS z3,θ z3];rfl
      ·rw[Y6 z3,η z3]
       by_cases z4:aB (dt c d b)=0
       ·rw[YS z4,θ z4];rfl
       ·rw[Y6 z4,η z4,ym];simp! [Pr hn ha hb hc hd (WO hc.pos hd.pos c2)];rfl
noncomputable def MY:MR->List Q3
 |.none=>[]
 |.spot p=>[p]
 |.part p q=>[p,q]
def WY{r:MR}:p∈MY r↔F9 r p:=by
 cases r<;>simp[MY,F9]
def MZ{x y:Str}(hx:UP (.str x)=true)(hy:UP (.str y)=true):sB (.str x) (.str y)=some (.bool (decide (x=y))):=by
 unfold sB;simp only[fq,kB,hx,hy,and_self,if_true,Uo]
 congr 2
theorem zap(r:MR):qd [eM r]=some (.tuple ((MY r).map eQ)):=by
 cases r with
 |none=>rfl
 |spot p=>
  have s1:UP (.str (QD "spot"))=true:=by decide+kernel
  unfold qd eM;simp! [K4,K6,MZ s1 s1,decide_true,show vZ (.tuple [.str "spot",eQ p]) .none=some (.bool false) from rfl];rfl
 |part p q=>
  have s1:UP (.str (QD "spot"))=true:=by decide+kernel
  have s2:UP (.str (QD "part"))=true:=by decide+kernel
  have e:¬(QD "part"=QD "spot"):=by decide
  unfold qd eM;simp! [K4,K6,MZ s2 s1,ι e,show vZ (.tuple [.str "part",eS (p,q)]) .none=some (.bool false) from rfl];rfl
end Nu
end
section
variable{n:Nat}{ss:List (Q3×Q3)}
namespace Nu
noncomputable def eN(k:Nat):Dt:=.int (k:Int)
noncomputable def ePr(e:Nat×Nat):Dt:=.tuple [eN e.1,eN e.2]
def dH{α:Type}{f:α->Dt}{xs:List α}{i:Nat}(d0:α)(h:i<xs.length):af (.list (xs.map f)) (eN i)=some (f (xs.getD i d0)):=by
 rw[kG,kH h];exact ixL (kH h)
def Pu(g:Int)(p q:Q3):jJ (eK g p) (eK g q)=some (.bool (!lt2 (aP g p) (aP g q))):=rfl
theorem Lc(a b:Int×Int):sQ a b=lt2 a b:=by
 unfold sQ lt2 lexB
 by_cases h:a.1=b.1
 ·rw[θ h,θ h]
  by_cases h2:a.2=b.2
  ·rw[θ h2];exact(ι (by lia)).symm
  ·rw[η h2]
 ·rw[η h,η h]
theorem Le{r:Nat->Int×Int}{lt:Nat->Nat->Bool}(hl:∀i j,i<n->j<n->lt i j=lt2 (r i) (r j)):(yP n λi j=>lt2 (r i) (r j)).Perm (kM n)/\∀a b,a<b->b<n->lt2 (r ((yP n λi j=>lt2 (r i) (r j)).getD b 0)) (r ((yP n λi j=>lt2 (r i) (r j)).getD a 0))=false:=by
 unfold yP
 by_cases c:2<=n
 ·rw[θ c];refine⟨zH.ends (XK (by lia)),λa b ab hb=>?_⟩
  have:=zd0 (n:=n) (A9.of e8 r) (by lia) a b ab hb
  rw[kG,kG,uh,uh,<-QE,<-QE];exact this
 ·rw[η c];exact⟨.refl _,λa b ab hb=>by lia⟩
noncomputable def nrB:En->Option Ou:=ao (ar 8 (bz (dV 1) (d2 af (d2 af (dV 0) (dV 7)) (dC (.int 0)))))
  (ao (ar 9 (d2 af (aY 2) (dV 7)))
  (ao (ar 10 (d2 af (aY 3) (dV 7)))
  (ao (bK 6 (au 1 [4,8] (iL (aY 6)) (gN 0) (dB (d2 jJ (d2 af (aY 1) (dV 0)) (dV 2))) (dV 0)))
  (ao (bK 11 (au 1 [2,10] (iL (aY 6)) (gN 0) (dB (d2 H2 (d2 af (aY 1) (dV 0)) (dV 2))) (dV 0)))
  (ao (B9 5 (iL (au 1 [3,7,9] (iL (aY 11)) (gN 0) (dB (d2 Rk (d2 af (aY 1) (dV 0)) (dV 3))) (aN (aa (dV 2) (aa (dV 0) ae))))))
  (B8 6 (dV 7)))))))
noncomputable def nrE(ss:List (Q3×Q3))(kd:Dt)(g:Int)(s:List (Nat×Nat)×List Nat):En:=[.fz (.list (ss.map eS)),.fz kd,.ow false 1 (.list (ss.map λs=>.int (yt g s))),.ow false 1 (.list (ss.map λs=>.int (yr g s))),.ow false 1 (.list (ss.map λs=>eK g s.2)),.ow false 1 (.list (s.1.map ePr)),.ow false 1 (.list (s.2.map eN)),.un,.un,.un,.un,.un]
theorem Lf{kd:Dt}{g:Int}{ps:List (Nat×Nat)}{st:List Nat}{m:Nat}(hk:∀s∈ss,yn kd (eQ s.1)=some (eK g s.1))(hm:m<ss.length)(tN:∀k∈st,k<ss.length)(hl:st.length<=100)(hp:ps.length<=100000):
  ((gN 7 (eN m) (nrE ss kd g (ps,st))).bind nrB).bind (nxt [7,8,9,10,11])=some (nrE ss kd g (ps++(((st.filter λk=> !lt2 (aP g (ss.getD k zQ).2) (aP g (ss.getD m zQ).1)).filter λk=>decide (yt g (ss.getD k zQ)<=yr g (ss.getD m zQ))).filter λk=>decide (yt g (ss.getD m zQ)<=yr g (ss.getD k zQ))).map λk=>(m,k),(st.filter λk=> !lt2 (aP g (ss.getD k zQ).2) (aP g (ss.getD m zQ).1))++[m])):=by
 have e1:=dH (f:=eS) zQ hm;have e2:=dH (f:=λs=>Dt.int (yt g s)) zQ hm;have e3:=dH (f:=λs=>Dt.int (yr g s)) zQ hm;have e4:=hk _ (zh hm);have hst2:∀k∈(st.filter λk=> !lt2 (aP g (ss.getD k zQ).2) (aP g (ss.getD m zQ).1)),k<ss.length:=λk h=>tN k (ke.mp h).1;generalize ef:(st.filter λk=> !lt2 (aP g (ss.getD k zQ).2) (aP g (ss.getD m zQ).1))=cu at*;have l2:cu.length<=100:=by rw[<-ef];exact uK (pZ _ _) hl
 have hst3:∀k∈cu.filter λk=>decide (yt g (ss.getD k zQ)<=yr g (ss.getD m zQ)),k<ss.length:=λk h=>hst2 k (ke.mp h).1;generalize ef3:(cu.filter λk=>decide (yt g (ss.getD k zQ)<=yr g (ss.getD m zQ)))=Mo at*;have l3:Mo.length<=100:=by rw[<-ef3];exact uK (pZ _ _) l2
 unfold nrE nrB
 dsimp! [e1,e2,e3,yI,bz,e4,au]
 rw[wB (e:=eN) (h:=eN) (c:=λk=> !lt2 (aP g (ss.getD k zQ).2) (aP g (ss.getD m zQ).1)) λk dw=>by
  dsimp! [dH (f:=λs:Q3×Q3=>eK g s.2) zQ (tN k dw),Pu]
  split<;>rfl]
 rw[ef]
 dsimp! []
 rw[wB (e:=eN) (h:=eN) (c:=λk=>decide (yt g (ss.getD k zQ)<=yr g (ss.getD m zQ))) λk dw=>by
  dsimp! [dH (f:=λs:Q3×Q3=>Dt.int (yt g s)) zQ (hst2 k dw),U4]
  split<;>rfl]
 rw[ef3]
 dsimp! [B9]
 rw[wB (e:=eN) (h:=λk=>ePr (m,k)) (c:=λk=>decide (yt g (ss.getD m zQ)<=yr g (ss.getD k zQ))) λk dw=>by
  dsimp! [dH (f:=λs:Q3×Q3=>Dt.int (yr g s)) zQ (hst3 k dw),k_ge]
  split<;>rfl]
 have l4:(Mo.filter λk=>decide (yt g (ss.getD m zQ)<=yr g (ss.getD k zQ))).length<=100:=uK (pZ _ _) l3;have l5:ps.length+(Mo.filter λk=>decide (yt g (ss.getD m zQ)<=yr g (ss.getD k zQ))).length<=μ:=wt (by lia)
 have l6:cu.length<μ:=yE (by lia)
 dsimp! [sD,kJ,θ l5,B8,θ l6,nxt,ku,uc]
 rfl
def Ss(n:Nat)(ss:List (Q3×Q3)):Prop:=∀s∈ss,PQ n s.1/\PQ n s.2/\bq s.1 s.2=true
def yM{s:Q3×Q3}(h:s∈ss):s.1∈zE ss/\s.2∈zE ss:=⟨Uy.mpr ⟨s,h,by simp⟩,Uy.mpr ⟨s,h,by simp⟩⟩
def Ss.pts(ok:Ss n ss):G6 n (zE ss):=λp h=>by
 obtain⟨s,hs,h⟩:=Uy.mp h;simp only[kg,QO,or_false] at h;rcases h with rfl|rfl
 ·exact(ok s hs).1
 ·exact(ok s hs).2.1
theorem Zd(ss:List (Q3×Q3)):(zE ss).length=2*ss.length:=by
 unfold zE
 induction ss with
 |nil=>rfl
 |cons s ss ih=>rw[UM,kW,ih,kZ];simp;lia
theorem Lg(hn:n<=8999)(ok:Ss n ss)(hl:ss.length<64):Gv (Yg [.list (ss.map eS)]) λd=>∃ps g,d=.list (ps.map ePr)/\zu n ss ps g/\ps.length<=4096:=by
 obtain⟨kd0,ek,g,qs,rfl,g0,gm,O⟩:=Xx hn ok.pts (by rw[Zd];lia)
 have hk:∀p∈zE ss,yn (.dT (qs.map kQ) (qs.map (eK g))) (eQ p)=some (eK g p):=λp h=>vk ((O.mem p).mpr h);generalize ekd:Dt.dT (qs.map kQ) (qs.map (eK g))=kd at*;have k1:∀s∈ss,yn kd (eQ s.1)=some (eK g s.1):=λs h=>hk _ (yM h).1;have k2:∀s∈ss,yn kd (eQ s.2)=some (eK g s.2):=λs h=>hk _ (yM h).2;have ixK1:∀p:Q3,af (eK g p) (.int 1)=some (.int (aP g p).2):=λp=>rfl;obtain⟨pm,up⟩:=Le (n:=ss.length) (r:=λi=>((kM ss.length).map λi=>aP g (ss.getD i zQ).1).getD i (0,0)) (lt:=λi j=>lt2 (((kM ss.length).map λi=>aP g (ss.getD i zQ).1).getD i (0,0)) (((kM ss.length).map λi=>aP g (ss.getD i zQ).1).getD j (0,0))) λ_ _ _ _=>rfl;have er:∀i,i<ss.length->((kM ss.length).map λi=>aP g (ss.getD i zQ).1).getD i (0,0)=aP g (ss.getD i zQ).1:=λi hi=>by
  rw[kG,kX,uM hi];rfl
 unfold Yg
 dsimp! [Ze (show ss.length<=2000000 by lia),ek]
 rw[yH (e:=eS) (h:=λs=>Dt.int (yt g s)) λs hs=>by
  dsimp! [yI,yR,k1 s hs,k2 s hs,ixK1,y8];rfl]
 dsimp! []
 rw[yH (e:=eS) (h:=λs=>Dt.int (yr g s)) λs hs=>by
  dsimp! [yI,yR,k1 s hs,k2 s hs,ixK1,y8];rfl]
 dsimp! []
 rw[yH (e:=eS) (h:=λs=>eK g s.2) λs hs=>by
  dsimp! [yI,yR,k2 s hs]]
 dsimp! [Yo,zq,kJ]
 rw[θ ⟨by lia,by lia⟩]
 dsimp! [xS,zv,QS]
 rw[K9 (h:=λi=>eK g (ss.getD i zQ).1) λi hi=>by
  have hi:=pe.mp hi;have:=dH (f:=eS) zQ hi;unfold eN at this
  dsimp! [this,yI,k1 _ (zh hi)]]
 simp only[kB];rw[xj (f:=tX) (h:=λi=>aP g (ss.getD i zQ).1) λi hi=>rfl];simp only[kB,Lc,tA];generalize (yP ss.length λi j=>lt2 (((kM ss.length).map λi=>aP g (ss.getD i zQ).1).getD i (0,0)) (((kM ss.length).map λi=>aP g (ss.getD i zQ).1).getD j (0,0)))=pp at*;have ln:pp.length=ss.length:=by rw[pm.length_eq,pE]
 have pn:∀a,a<ss.length->pp.getD a 0<ss.length:=λa ha=>by
  rw[kG,kH (by lia)]
  exact pe.mp (pm.mem_iff.mp (uq (by lia)))
 have up':∀a b,a<b->b<ss.length->lt2 (aP g (ss.getD (pp.getD b 0) zQ).1) (aP g (ss.getD (pp.getD a 0) zQ).1)=false:=λa b ab hb=>by
  rw[<-er _ (pn b hb),<-er _ (pn a (by lia))]
  exact up a b ab hb
 rw[uJ,<-nrB];refine yU (e:=eN) (xs:=pp) (σ:=List (Nat×Nat)×List Nat) (nrE ss kd g) (λi s=>s.2.length<=i/\s.1.length<=64*i/\(∀k∈s.2,k<ss.length)/\
   (∀a,a<i->pp.getD a 0∈s.2\/∃m,m<i/\lt2 (aP g (ss.getD (pp.getD a 0) zQ).2) (aP g (ss.getD (pp.getD m 0) zQ).1)=true)/\
   (∀a b,a<b->b<i->B4 g (ss.getD (pp.getD a 0) zQ) (ss.getD (pp.getD b 0) zQ)->(pp.getD b 0,pp.getD a 0)∈s.1)/\∀e∈s.1,e.1<ss.length/\e.2<ss.length) ([],[]) rfl
  ⟨pI _,pI _,λk hk=>(by cases hk),λa ha=>(by lia),λa b _ hb=>(by lia),λe he=>(by cases he)⟩ (λi m s hi hs=>?_) λs hs=>?_
 ·obtain⟨ps,st⟩:=s;obtain⟨h1,h2,h3,h4,h5,h6⟩:=hs;dsimp only at h1 h2 h3 h4 h5 h6;have cq:i<ss.length:=by rw[<-ln];exact(kE.mp hi).1
  have em:pp.getD i 0=m:=by rw[kG,hi];rfl
  have hm:=pn i cq;rw[em] at hm;have t:=Lf (ps:=ps) k1 hm h3 (by lia) (by lia)
  refine⟨_,t,?_⟩;generalize ef:(st.filter λk=> !lt2 (aP g (ss.getD k zQ).2) (aP g (ss.getD m zQ).1))=cu;have Lh:∀k,k∈cu↔k∈st/\(!lt2 (aP g (ss.getD k zQ).2) (aP g (ss.getD m zQ).1))=true:=λk=>by rw[<-ef];exact ke
  have l2:cu.length<=i:=by rw[<-ef];exact uK (pZ _ _) h1
  refine⟨by simp only[kW,QU];lia,?_,λk hk=>?_,λa ha=>?_,λa b ab hb RN=>?_,λe he=>?_⟩
  ·simp only[kW,kJ];have:=pZ (λk=>decide (yt g (ss.getD m zQ)<=yr g (ss.getD k zQ))) (cu.filter λk=>decide (yt g (ss.getD k zQ)<=yr g (ss.getD m zQ)));have:=pZ (λk=>decide (yt g (ss.getD k zQ)<=yr g (ss.getD m zQ))) cu;lia
  ·rcases pD.mp hk with z|z
   ·exact h3 k ((Lh k).mp z).1
   ·rw[ki.mp z];exact hm
  ·by_cases ai:a=i
   ·subst ai;rw[em];exact .inl (uQ _ (ki.mpr rfl))
   ·rcases h4 a (by lia) with h|⟨m',dW,z⟩
    ·cases ef':lt2 (aP g (ss.getD (pp.getD a 0) zQ).2) (aP g (ss.getD m zQ).1) with
     |false=>exact .inl (uO _ ((Lh _).mpr ⟨h,by rw[ef'];rfl⟩))
     |true=>exact .inr ⟨i,by lia,by rw[em];exact ef'⟩
    ·exact .inr ⟨m',by lia,z⟩
  ·by_cases bi:b=i
   ·subst bi;rw[em] at RN⊢;obtain⟨n1',n2',n3',n4'⟩:=RN;have tN:pp.getD a 0∈st:=by
     rcases h4 a ab with h|⟨m',dW,z⟩
     ·exact h
     ·exfalso
      have u:=up' m' b dW cq;rw[em] at u;have:lt2 (aP g (ss.getD (pp.getD a 0) zQ).2) (aP g (ss.getD m zQ).1)=true:=by
       by_cases eq:aP g (ss.getD m zQ).1=aP g (ss.getD (pp.getD m' 0) zQ).1
       ·rw[eq];exact z
       ·rcases e8.tot _ _ eq with q|q
        ·rw[u] at q;cases q
        ·exact e8.tr _ _ _ z q
      rw[this] at n1'
      cases n1'
    exact uQ _ (kh.mpr ⟨pp.getD a 0,ke.mpr ⟨ke.mpr ⟨(Lh _).mpr ⟨tN,by rw[n1'];rfl⟩,ζ n3'⟩,ζ n4'⟩,rfl⟩)
   ·exact uO _ (h5 a b ab (by lia) RN)
  ·rcases pD.mp he with h|h
   ·exact h6 e h
   ·obtain⟨q,t6,rfl⟩:=kh.mp h;exact⟨hm,h3 q ((Lh q).mp (ke.mp (ke.mp t6).1).1).1⟩
 ·obtain⟨ps,st⟩:=s;obtain⟨h1,h2,h3,h4,h5,h6⟩:=hs;dsimp only at h1 h2 h3 h4 h5 h6;rw[ln] at h2 h5
  dsimp! [nrE]
  refine⟨_,rfl,ps,g,rfl,⟨ok,λs hs=>⟨gm _ (yM hs).1,gm _ (yM hs).2⟩,h6,λa b ha hb ab RN=>?_⟩,by lia⟩
  have fnd:∀a,a<ss.length->∃ia,ia<ss.length/\pp.getD ia 0=a:=λa ha=>by
   have hm:a∈pp:=pm.mem_iff.mpr (pe.mpr ha);obtain⟨ia,hia⟩:=pJ.mp hm;have l1:=(kE.mp hia).1;refine⟨ia,by lia,?_⟩
   rw[kG,hia];rfl
  obtain⟨ia,a1,a2⟩:=fnd a ha;obtain⟨ib,b1,b2⟩:=fnd b hb;rcases Aq ia ib with z|z|z
  ·have:=h5 ia ib z b1 (by rw[a2,b2];exact RN)
   rw[a2,b2] at this;exact .inr this
  ·exact absurd (by rw[<-a2,<-b2,z]) ab
  ·have:=h5 ib ia z a1 (by rw[a2,b2];exact RN.symm)
   rw[a2,b2] at this;exact .inl this
end Nu
end
section
namespace Nu
noncomputable def eJ(ns:List Nat):Dt:=.dK (ns.map λk:Nat=>(.inl (k:Int):eh)) (ns.map λ_=>.bool true)
noncomputable def eY(L:List (Q3×List Nat)):Dt:=.dT ((L.map pG).map kQ) (L.map λx=>eJ x.2)
structure Ly(L:List (Q3×List Nat))(R:Q3->Nat->Prop):Prop where
 nd:(L.map pG).Nodup
 nn:∀x∈L,x.2.Nodup/\x.2≠[]
 iff:∀p i,R p i↔∃ns,(p,ns)∈L/\i∈ns
variable{ns:List Nat}
theorem Z6{i:Nat}:(.inl (i:Int):eh)∈ns.map (λk:Nat=>(.inl (k:Int):eh))↔i∈ns:=by grind
theorem Y3{κ:Type}[DecidableEq κ]:∀{ks:List κ}{k:κ},k∈ks->∃j,zV ks k=some j/\ks[j]?=some k
 |[],_,h=>by cases h
 |k'::ks,k,h=>by
  unfold zV
  by_cases e:k'=k
  ·rw[θ e,e];exact⟨0,rfl,rfl⟩
  ·rw[η e];obtain⟨j,h1,h2⟩:=Y3 ((kg.mp h).resolve_left λz=>e z.symm);exact⟨j+1,by rw[h1];rfl,h2⟩
theorem posK_none{κ:Type}[DecidableEq κ]:∀{ks:List κ}{k:κ},k∉ks->zV ks k=none
 |[],_,_=>rfl
 |k'::ks,k,h=>by
  unfold zV;rw[η λe=>h (by simp[e]),posK_none λz=>h (by simp[z])];rfl
theorem Yd{α β:Type}{f:α->β}{a b:α}:∀{l:List α}{j:Nat},l[j]?=some a->f a=f b->(l.set j b).map f=l.map f
 |[],_,h,_=>by cases h
 |c::l,0,h,e=>by cases h;simp[e]
 |c::l,j+1,h,e=>by
  rw[Qi,kN,kN,Yd (by simpa using h) e]
theorem V5{i:Nat}(l:ns.length<μ):xg (eJ ns) (eN i) (.bool true)=some (eJ (if i∈ns then ns else ns++[i])):=by
 unfold eJ eN;simp only[xg,wv,kB,kJ,θ l]
 congr 1
 unfold pK pV
 by_cases c:i∈ns
 ·rw[θ (Z6.mpr c),θ (Z6.mpr c),θ c]
  congr 1
  clear c l
  induction ns with
  |nil=>rfl
  |cons k ns ih=>rw[kN,kN,gI,ih];split<;>rfl
 ·grind
def jI{m:Nat}(nd:ns.Nodup)(h:∀k∈ns,k<m):ns.length<=m:=by
 have:=List.Nodup.length_le_of_subset nd (l₂:=kM m) λk hk=>pe.mpr (h k hk)
 rwa [pE] at this
def RO(R:Q3->Nat->Prop)(p:Q3)(i:Nat):Q3->Nat->Prop:=λq j=>R q j\/(q=p/\j=i)
theorem Li{L:List (Q3×List Nat)}{R:Q3->Nat->Prop}(h:Ly L R)(hR:∀q j,R q j->j<64)(hL:L.length<=900000)(p:Q3)(i:Nat):Gv (vM (eY L) [eQ p,eN i]) λd=>∃L',d=eY L'/\Ly L' (RO R p i)/\L'.length<=L.length+1:=by
 have hk:zY (eY L) (eQ p)=some (decide (p∈L.map pG)):=xH _ _ _;have M3:∀x∈L,x.2.length<μ:=λx hx=>yE (uK (jI (h.nn x hx).1 λk hk=>hR x.1 k ((h.iff x.1 k).mpr ⟨x.2,hx,hk⟩)) (by decide))
 unfold vM
 by_cases c:p∈L.map pG
 ·have cK:kQ p∈(L.map pG).map kQ:=xY.mpr c;obtain⟨j,hj,ej⟩:=Y3 cK;rw[kX,kX] at ej;obtain⟨q,ej,eq⟩:=uW.mp ej;obtain⟨x,ex,eq2⟩:=uW.mp ej;have eq3:x.1=p:=eq2.trans (vC eq);obtain⟨x1,ns⟩:=x;subst eq3;have hx:=kT ex;have ix:xv (eY L) (eQ x1)=some j:=by simp only[eY,xv,xB,kB,hj]
  have ch:(yZ (eY L))[j]?=some (eJ ns):=by simp only[eY,yZ,kX,ex,Um]
  have pj:=V5 (i:=i) (M3 _ hx);have cS:=(kE.mp ex).1;have msm:=Yd (f:=pG) (b:=(x1,if i∈ns then ns else ns++[i])) ex rfl;refine⟨eY (L.set j (x1,if i∈ns then ns else ns++[i])),?_,_,rfl,⟨?_,λx hx'=>?_,λq k=>?_⟩,by rw[Qv];lia⟩
  ·dsimp! [vg,qm,as2,hk,ζ c,j8,ix,ch,pj,Ik,w2]
   congr 1
   unfold setCh eY;dsimp only;rw[msm,ET]
  ·rw[msm];exact h.nd
  ·rcases List.mem_or_eq_of_mem_set hx' with z|z
   ·exact h.nn x z
   ·rw[z];obtain⟨n1,n2⟩:=h.nn _ hx;dsimp only at n1 n2⊢
    by_cases m:i∈ns
    ·rw[θ m];exact⟨n1,n2⟩
    ·grind
  ·have iu:∀k,k∈(if i∈ns then ns else ns++[i])↔k∈ns\/k=i:=λk=>by
    by_cases m:i∈ns
    ·rw[θ m];exact⟨.inl,λz=>z.elim id λz=>z▸m⟩
    ·rw[η m,pD,ki]
   have un:∀ms,(x1,ms)∈L->ms=ns:=λms hm=>by
    obtain⟨a,ha⟩:=pJ.mp hm;have la:=(kE.mp ha).1;have:a=j:=by
     have n1:(L.map pG)[a]?=some x1:=by rw[kX,ha];rfl
     have n2:(L.map pG)[j]?=some x1:=by rw[kX,ex];rfl
     rcases Aq a j with z|z|z
     ·have:=po.mp h.nd a j (by rw[kJ];lia) (by rw[kJ];lia) z
      rw[kH (by rw[kJ];lia)] at n1 n2
      exact absurd ((uD n1).trans (uD n2).symm) this
     ·exact z
     ·have:=po.mp h.nd j a (by rw[kJ];lia) (by rw[kJ];lia) z
      rw[kH (by rw[kJ];lia)] at n1 n2
      exact absurd ((uD n2).trans (uD n1).symm) this
    subst this;rw[ex] at ha
    cases ha;rfl
   have hset:∀y,y∈L.set j (x1,if i∈ns then ns else ns++[i])↔(y=(x1,if i∈ns then ns else ns++[i]))\/(y∈L/\y.1≠x1):=λy=>by
    constructor
    ·intro hy;obtain⟨a,ha⟩:=pJ.mp hy;rw[Aj] at ha
     by_cases e:j=a
     ·rw[θ e,θ (by lia)] at ha
      exact .inl (uD ha).symm
     ·rw[η e] at ha;refine .inr ⟨kT ha,λz=>?_⟩;have la:=(kE.mp ha).1;have n1:(L.map pG)[a]?=some x1:=by rw[kX,ha];show some y.1=_;rw[z]
      have n2:(L.map pG)[j]?=some x1:=by rw[kX,ex];rfl
      rw[kH (by rw[kJ];lia)] at n1 n2
      rcases Fv e with z|z
      ·exact po.mp h.nd j a (by rw[kJ];lia) (by rw[kJ];lia) z ((uD n2).trans (uD n1).symm)
      ·exact po.mp h.nd a j (by rw[kJ];lia) (by rw[kJ];lia) z ((uD n1).trans (uD n2).symm)
    ·rintro(rfl|⟨hy,ne⟩)
     ·exact kT (i:=j) (by rw[gJ cS])
     ·obtain⟨a,ha⟩:=pJ.mp hy;refine kT (i:=a) ?_;rw[hZ λz=>?_]
      ·exact ha
      ·rw[<-z,ex] at ha;cases ha;exact ne rfl
   unfold RO;rw[h.iff]
   constructor
   ·grind
   ·grind
 ·have cK:kQ p∉(L.map pG).map kQ:=λz=>c (xY.mp z);have ad:qW (eY L) (eQ p) (.dK [] [])=some (eY (L++[(p,[])])):=by
   simp only[eY,qW,xB,kB];rw[θ ⟨by rw[kJ,kJ];exact yE (by lia),by rw[JL];exact ι c⟩,ku,ku,ku]
   rfl
  have pos:zV ((L.map pG).map kQ++[kQ p]) (kQ p)=some L.length:=by
   clear ad hk M3 hR;have:∀ks:List KT,kQ p∉ks->zV (ks++[kQ p]) (kQ p)=some ks.length:=λks=>by
    induction ks with
    |nil=>intro _;show zV [kQ p] (kQ p)=_;unfold zV;rw[θ rfl];rfl
    |cons k ks ih=>
     intro n;rw[Qm];unfold zV;rw[η λe=>n (by simp[e]),ih λz=>n (by simp[z])];rfl
   have:=this _ cK;rw[kJ,kJ] at this;exact this
  have ix:xv (eY (L++[(p,[])])) (eQ p)=some L.length:=by
   simp only[eY,xv,xB,kB,ku,kN,UA,pos]
  have ch:(yZ (eY (L++[(p,[])])))[L.length]?=some (eJ []):=by
   simp only[eY,yZ,ku,kN,UA];rw[QH (by rw[kJ];lia),kJ,GK]
   rfl
  have pj:=V5 (ns:=[]) (i:=i) (by decide)
  rw[η (by simp)] at pj
  refine⟨eY (L++[(p,[i])]),?_,_,rfl,⟨?_,λx hx'=>?_,λq k=>?_⟩,by rw[kW];exact pI _⟩
  ·dsimp! [vg,qm,as2,hk,ι c,Yb,ad,j8,ix,ch,pj,Ik,w2]
   congr 1
   unfold setCh eY;simp only[ku,kN,UA];rw[List.set_append_right _ _ (by rw[kJ];lia),kJ,GK]
   rfl
  ·rw[ku];exact QG.mpr ⟨h.nd,QK _ _,λa ha b hb e=>c (by rw[ki.mp hb] at e;have e:a=p:=e;exact e▸ha)⟩
  ·rcases pD.mp hx' with z|z
   ·exact h.nn x z
   ·rw[ki.mp z];exact⟨QK _ _,by simp⟩
  ·unfold RO;rw[h.iff]
   constructor
   ·rintro(⟨ms,hm,dw⟩|⟨rfl,rfl⟩)
    ·exact⟨ms,uO _ hm,dw⟩
    ·exact⟨[k],uQ _ (by simp),by simp⟩
   ·grind
end Nu
variable{L:List (Q3×List Nat)}{R:Q3->Nat->Prop}{ss:List (Q3×Q3)}
namespace Nu
def xA{α σ β:Type}{e:α->Dt}{h:Dt->En->Option En}{b:En->Option Ou}{fg:List Nat}{K:Ou->Option β}{P:β->Prop}{Z:En}{xs:List α}(env:σ->En)(J:Nat->σ->Prop)(s0:σ)(eρ:Z=env s0)(h0:J 0 s0)(st:∀i a s,xs[i]?=some a->J i s->Gv (((h (e a) (env s)).bind b).bind (nxt fg)) λZ=>∃s',Z=env s'/\J (i+1) s')(k:∀s',J xs.length s'->Gv (K (.nx (env s'))) P):Gv ((ym h b fg (xs.map e) Z).bind K) P:=
 yU env J s0 eρ h0 (λi a s hi hj=>let⟨_,e1,s',e2,j⟩:=st i a s hi hj;⟨s',by rw[e1,e2],j⟩) k
theorem VK{α:Type}{f:α->Dt}(d0:α)(xs:List α):xR [.list (xs.map f)]=some ((kM xs.length).map λk=>.tuple [eN k,f (xs.getD k d0)]):=by
 show some _=_
 congr 1
 rw[kJ];refine UH λi=>?_;rw[By,kX,kX]
 by_cases c:i<xs.length
 ·rw[uM c,kH c];show some _=some (Dt.tuple [eN i,f (xs.getD i d0)]);rw[kG,kH c];rfl
 ·rw[uE (by rw[pE];lia),uE (l:=xs) (by lia)];rfl
def LS(L:List (Q3×List Nat))(s:Sl):Prop:=s=.ow false 2 (eY L)\/(L=[]/\s=.ow false 1 (.dT [] []))
theorem LS.as2{L:List (Q3×List Nat)}{s:Sl}(h:LS L s):as2 s=some (false,eY L):=by
 rcases h with rfl|⟨rfl,rfl⟩<;>rfl
def LS.frz{s:Sl}(h:LS L s):dD s=.fz (eY L):=by
 rcases h with rfl|⟨rfl,rfl⟩<;>rfl
def Ly.congr{R':Q3->Nat->Prop}(h:Ly L R)(e:∀p i,R p i↔R' p i):Ly L R':=⟨h.nd,h.nn,λp i=>(e p i).symm.trans (h.iff p i)⟩
noncomputable def RP(ss:List (Q3×Q3))(s:(List (Q3×List Nat))×Sl):En:=[.fz (.list (ss.map eS)),s.2,.un,.un,.un,.un,.un]
theorem zd3{q:Q3}{i k:Nat}:(k<i/\vN ss q k)\/(k=i/\i<ss.length/\(q=(ss.getD i zQ).1\/q=(ss.getD i zQ).2))↔k<i+1/\vN ss q k:=by
 rw[yB]
 constructor
 ·rintro(⟨h,h2⟩|⟨rfl,h⟩)
  ·exact⟨by lia,h2⟩
  ·exact⟨by lia,h⟩
 ·rintro⟨h,h2⟩
  by_cases c:k=i
  ·subst c;exact .inr ⟨rfl,h2⟩
  ·exact .inl ⟨by lia,h2⟩
def X5{s1:Sl}{ss:Sl}{x2 x3 x4 x5 x6:Sl}(hL:Ly L R)(hs:LS L s1)(hR:∀q j,R q j->j<64)(hl:L.length<=900000)(p:Q3)(i:Nat)(ga:En->Option (List Dt))(eg:ga [ss,s1,x2,x3,x4,x5,x6]=some [eQ p,eN i]):
  Gv (Nh 1 vM ga [ss,s1,x2,x3,x4,x5,x6]) λo=>∃L',o=.nx [ss,.ow false 2 (eY L'),x2,x3,x4,x5,x6]/\Ly L' (RO R p i)/\L'.length<=L.length+1:=by
 obtain⟨d,e,L',rfl,h1,h2⟩:=Li hL hR hl p i;refine⟨_,?_,L',rfl,h1,h2⟩
 dsimp! [Nh,eg,hs.as2,e]
theorem ze2{n:Nat}(hn:4*n+3<=8999)(ok:Ss n ss)(hl:ss.length<64):Gv (Y0 [.list (ss.map eS)]) λd=>∃L ps g,d=eY L/\zu n ss ps g/\Ly L (a8 ss ps)/\L.length<=20000:=by
 obtain⟨d0,en,ps,g,rfl,T,lps⟩:=Lg (by lia) ok hl
 unfold Y0
 dsimp! [VK zQ]
 rw[uJ];refine xA (σ:=(List (Q3×List Nat))×Sl) (RP ss) (λi s=>Ly s.1 (λq k=>k<i/\vN ss q k)/\LS s.1 s.2/\s.1.length<=2*i) ([],.ow false 1 (.dT [] [])) rfl ⟨⟨.nil,λx hx=>(by cases hx),λp i=>⟨λz=>(by lia),λ⟨_,z,_⟩=>(by cases z)⟩⟩,.inr ⟨rfl,rfl⟩,pI _⟩ (λi k s hi hs=>?_) λs hs=>?_
 ·obtain⟨L,s1⟩:=s;obtain⟨hL,hS,cB⟩:=hs;dsimp only at hL hS cB;have cq:i<ss.length:=by have:=(kE.mp hi).1;rwa [pE] at this
  rw[uM cq] at hi
  cases hi;have e2:eS (ss.getD i zQ)=.tuple ([(ss.getD i zQ).1,(ss.getD i zQ).2].map eQ):=rfl
  dsimp! [RP,e2]
  refine xA (e:=eQ) (xs:=[(ss.getD i zQ).1,(ss.getD i zQ).2]) (σ:=(List (Q3×List Nat))×Sl) (λs=>[.fz (.list (ss.map eS)),s.2,.fz (eN i),.fz (.tuple ([(ss.getD i zQ).1,(ss.getD i zQ).2].map eQ)),.un,.un,.un]) (λj s=>Ly s.1 (λq k=>(k<i/\vN ss q k)\/(k=i/\q∈[(ss.getD i zQ).1,(ss.getD i zQ).2].take j))/\LS s.1 s.2/\s.1.length<=2*i+j) (L,s1) rfl ⟨hL.congr λp k=>by simp,hS,cB⟩ (λj p s hj hs=>?_) λs hs=>?_
  ·obtain⟨L2,s2⟩:=s;obtain⟨C6,sU,dh⟩:=hs;dsimp only at C6 sU dh;have cS:j<2:=(kE.mp hj).1;simp only[gN,kB,Qu,Qi];refine(X5 C6 sU (λq k h=>by rcases h with⟨h,_⟩|⟨h,_⟩<;>lia) (by lia) p i _ (by dsimp! [])).bind λo hw=>?_
   obtain⟨L3,eo,h3,l3⟩:=hw;subst eo;refine⟨_,rfl,(L3,.ow false 2 (eY L3)),rfl,h3.congr λq k=>?_,.inl rfl,by dsimp only;lia⟩
   unfold RO;rw[pU,hj,pD];simp only[CL,ki]
   constructor
   ·rintro((z|z)|⟨z1,z2⟩)
    ·exact .inl z
    ·exact .inr ⟨z.1,.inl z.2⟩
    ·exact .inr ⟨z2,.inr z1⟩
   ·rintro(z|⟨z1,z2|z2⟩)
    ·exact .inl (.inl z)
    ·exact .inl (.inr ⟨z1,z2⟩)
    ·exact .inr ⟨z2,z1⟩
  ·obtain⟨L2,s2⟩:=s;obtain⟨C6,sU,dh⟩:=hs;dsimp only at C6 sU dh
   dsimp! [nxt]
   refine⟨_,rfl,(L2,s2),rfl,C6.congr λq k=>?_,sU,by simp only[kZ,uS] at dh⊢;lia⟩
   rw[<-zd3];simp only[kZ,uS,List.take_succ_cons,List.take_nil,kg,QO,or_false]
   constructor
   ·rintro(z|⟨z1,z2⟩)
    ·exact .inl z
    ·exact .inr ⟨z1,cq,z2⟩
   ·rintro(z|⟨z1,_,z2⟩)
    ·exact .inl z
    ·exact .inr ⟨z1,z2⟩
 ·obtain⟨L,s1⟩:=s;obtain⟨hL,hS,cB⟩:=hs;dsimp only at hL hS cB;rw[pE] at hL cB
  dsimp! [RP,en]
  rw[uJ];have hb:∀q k,a8 ss ps q k->k<64:=λq k h=>Nat.lt_trans (T.lies h).1 hl;refine xA (σ:=(List (Q3×List Nat))×Sl) (RP ss) (λi s=>Ly s.1 (a8 ss (ps.take i))/\LS s.1 s.2/\s.1.length<=128+4*i) (L,s1) rfl ⟨hL.congr λq k=>?_,hS,by dsimp only;lia⟩ (λi x s hi hs=>?_) λs hs=>?_
  ·unfold a8;rw[Bq];refine⟨λh=>.inl h.2,λh=>?_⟩;rcases h with h|⟨x,hx,_⟩
   ·exact⟨(yB.mp h).1,h⟩
   ·cases hx
  ·obtain⟨L2,s2⟩:=s;obtain⟨C6,sU,dh⟩:=hs;dsimp only at C6 sU dh;obtain⟨a,b⟩:=x;have hx:=kT hi;have cq:=(kE.mp hi).1;obtain⟨la,lb⟩:=T.lt _ hx;dsimp only at la lb;obtain⟨o1,o2,_⟩:=ok _ (zh la);obtain⟨r1,r2,_⟩:=ok _ (zh lb);have em:=Lb hn o1 o2 r1 r2;have eS':∀s:Q3×Q3,eS s=eS (s.1,s.2):=λs=>rfl
   dsimp! [RP,ePr,dH (f:=eS) zQ la,dH (f:=eS) zQ lb]
   rw[eS' (ss.getD a zQ),eS' (ss.getD b zQ),em]
   dsimp! [zap]
   have ind:∀q k,a8 ss (ps.take i) q k->a8 ss ps q k:=λq k h=>by
    rcases h with h|⟨y,hy,z⟩
    ·exact .inl h
    ·exact .inr ⟨y,UV hy,z⟩
   generalize er:fb (ss.getD a zQ).1 (ss.getD a zQ).2 (ss.getD b zQ).1 (ss.getD b zQ).2=r;have lr:(MY r).length<=2:=by cases r<;>simp[MY]
   refine xA (σ:=(List (Q3×List Nat))×Sl) (λs=>[.fz (.list (ss.map eS)),s.2,.un,.un,.un,.fz (eN a),.fz (eN b)]) (λj s=>Ly s.1 (λq k=>a8 ss (ps.take i) q k\/(q∈(MY r).take j/\(k=a\/k=b)))/\LS s.1 s.2/\s.1.length<=128+4*i+2*j) (L2,s2) rfl ⟨C6.congr λp k=>by simp,sU,dh⟩ (λj p s hj hs=>?_) λs hs=>?_
   ·obtain⟨L3,s3⟩:=s;obtain⟨RR,hS3,G7⟩:=hs;dsimp only at RR hS3 G7;have cS:j<2:=gR (kE.mp hj).1 lr;have bd:∀q k,(a8 ss (ps.take i) q k\/(q∈(MY r).take j/\(k=a\/k=b)))->k<64:=λq k h=>by
     rcases h with h|⟨_,h⟩
     ·exact hb q k (ind q k h)
     ·lia
    simp only[gN,kB,Qu,Qi,ao];rw[uJ];refine(X5 RR hS3 bd (by lia) p a _ (by dsimp! [])).bind λo hw=>?_
    obtain⟨L4,eo,h4,l4⟩:=hw;subst eo;rw[cf];refine(X5 h4 (.inl rfl) (λq k h=>by rcases h with h|⟨_,h⟩;exact bd q k h;lia) (by lia) p b _ (by dsimp! [])).bind λo hw=>?_
    obtain⟨L5,eo,h5,l5⟩:=hw;subst eo;refine⟨_,rfl,(L5,.ow false 2 (eY L5)),rfl,h5.congr λq k=>?_,.inl rfl,by dsimp only;lia⟩
    unfold RO;rw[pU,hj,pD];simp only[CL,ki]
    constructor
    ·rintro(((z|z)|⟨z1,z2⟩)|⟨z1,z2⟩)
     ·exact .inl z
     ·exact .inr ⟨.inl z.1,z.2⟩
     ·exact .inr ⟨.inr z1,.inl z2⟩
     ·exact .inr ⟨.inr z1,.inr z2⟩
    ·rintro(z|⟨z1|z1,z2⟩)
     ·exact .inl (.inl (.inl z))
     ·exact .inl (.inl (.inr ⟨z1,z2⟩))
     ·rcases z2 with z2|z2
      ·exact .inl (.inr ⟨z1,z2⟩)
      ·exact .inr ⟨z1,z2⟩
   ·obtain⟨L3,s3⟩:=s;obtain⟨RR,hS3,G7⟩:=hs;dsimp only at RR hS3 G7;rw[uY] at RR
    dsimp! [nxt]
    refine⟨_,rfl,(L3,s3),rfl,RR.congr λq k=>?_,hS3,by dsimp only;lia⟩
    unfold a8;rw[pU,hi];simp only[CL]
    constructor
    ·rintro((z|⟨y,hy,z⟩)|⟨z1,z2⟩)
     ·exact .inl z
     ·exact .inr ⟨y,uO _ hy,z⟩
     ·refine .inr ⟨(a,b),uQ _ (by simp),z2,?_⟩
      show F9 (fb _ _ _ _) q
      rw[er];exact WY.mp z1
    ·rintro(z|⟨y,hy,z,sh⟩)
     ·exact .inl (.inl z)
     ·rcases pD.mp hy with hy|hy
      ·exact .inl (.inr ⟨y,hy,z,sh⟩)
      ·rw[ki.mp hy] at z sh;refine .inr ⟨WY.mpr ?_,z⟩;rw[<-er];exact sh
  ·obtain⟨L2,s2⟩:=s;obtain⟨C6,sU,dh⟩:=hs;dsimp only at C6 sU dh;rw[uY] at C6;simp only[RP,cf,cL,Ah,Ai,sU.frz]
   dsimp! []
   exact⟨_,rfl,L2,ps,g,rfl,T,C6,by lia⟩
end Nu
end
section
variable{ss:List (Q3×Q3)}
namespace Nu
noncomputable def nM(ss:List (Q3×Q3))(q:Q3):List Nat:=(kM ss.length).filter λk=>aJ (ss.getD k zQ).1 (ss.getD k zQ).2 q
def vL{q:Q3}{k:Nat}:k∈nM ss q↔k<ss.length/\eI ss q k:=by
 unfold nM eI;rw[ke,pe]
def YA(ss:List (Q3×Q3))(q:Q3):(nM ss q).Pairwise (·<·):=Qe _ List.pairwise_lt_range
def Lj(ss:List (Q3×Q3))(q:Q3):(nM ss q).length<=ss.length:=uK (pZ _ _) (by rw[pE];exact pI _)
def Pw(ss:List (Q3×Q3))(q:Q3):(nM ss q).Nodup:=(YA ss q).imp λh=>QC h
noncomputable def M4(ss:List (Q3×Q3))(q:Q3):List Nat:=(nM ss q).filter λk=>decide ((ss.getD k zQ).1=q)
noncomputable def B5(ss:List (Q3×Q3))(q:Q3):List Nat:=(nM ss q).filter λk=> !(decide ((ss.getD k zQ).1=q)||decide ((ss.getD k zQ).2=q))
noncomputable def Lk(ss:List (Q3×Q3))(q:Q3):List Nat:=(nM ss q).filter λk=>decide ((ss.getD k zQ).2=q)
noncomputable def eT(ss:List (Q3×Q3))(q:Q3):Dt:=.tuple [eQ q,.list ((M4 ss q).map eN),.list ((B5 ss q).map eN),.list ((Lk ss q).map eN)]
def Ll(p:Q3)(s:Q3×Q3):Ni true true (eQ p) (eS s)=some (.bool (!(decide (s.1=p)||decide (s.2=p)))):=by
 have t:wN [eQ s.1,eQ s.2]=some [pQ s.1,pQ s.2]:=rfl;have c:∀q,(pQ q).canLay0=true:=λq=>by simp[pQ,UY,uz]
 have d:(pQ p).depth<=60:=by simp[pQ,UZ,QY]
 have a:uz [pQ s.1,pQ s.2]=true:=by simp[uz,c]
 unfold Ni eS;simp only[XA,kB,if_true,Rl,t];rw[θ ⟨c p,a,d⟩];simp only[List.any_cons,List.any_nil,WG,Fg]
def zcm{q:Q3}:Y4 [eQ q,.list ((nM ss q).map eN),.list (ss.map eS)]=some (eT ss q):=by
 have hi:∀k∈nM ss q,af (.list (ss.map eS)) (eN k)=some (eS (ss.getD k zQ)):=λk hk=>dH zQ (vL.mp hk).1;unfold Y4
 dsimp! []
 rw[wB (e:=eN) (h:=eN) (c:=λk=>decide ((ss.getD k zQ).1=q)) λk hk=>by
  dsimp! [hi k hk,yI,we]
  split<;>rfl]
 dsimp! []
 rw[wB (e:=eN) (h:=eN) (c:=λk=> !(decide ((ss.getD k zQ).1=q)||decide ((ss.getD k zQ).2=q))) λk hk=>by
  dsimp! [hi k hk,Ll]
  split<;>rfl]
 dsimp! []
 rw[wB (e:=eN) (h:=eN) (c:=λk=>decide ((ss.getD k zQ).2=q)) λk hk=>by
  dsimp! [hi k hk,yR,we]
  split<;>rfl]
 dsimp! []
 rfl
def Lm{a b:List Nat}(ha:a.Nodup)(hb:b.Nodup)(h:∀k,k∈a↔k∈b):a.Perm b:=(Ax ha hb).mpr h
theorem Vw{ns ms:List Nat}(nd:ns.Nodup)(up:ms.Pairwise (·<·))(h:∀k,k∈ns↔k∈ms)(l:ns.length<64):ww [.list (ns.map eN)]=some (.list (ms.map eN)):=by
 have m:zv xa (ns.map eN)=some (ns.map λk:Nat=>(k:Int)):=xj λk _=>rfl;have pm:=(Lm nd (up.imp λh=>QC h) h).map λk:Nat=>(k:Int);have e:jA (ns.map λk:Nat=>(k:Int))=ms.map λk:Nat=>(k:Int):=XC ((XV _).trans pm) (Vr _) (List.Pairwise.map _ (λa b h=>by lia) up)
 simp only[ww,tA,kB,m,kJ,θ l,e,uc];rfl
theorem zbd{n:Nat}(hn:4*n+3<=8999)(ok:Ss n ss)(hl:ss.length<64):Gv (YC [.list (ss.map eS)]) λd=>∃os ps g,d=.list (os.map (eT ss))/\zu n ss ps g/\Up os/\(∀q,q∈os↔∃i,a8 ss ps q i)/\os.length<=20000:=by
 obtain⟨d,el,L,ps,g,rfl,T,hL,ll⟩:=ze2 hn ok hl;have km:∀q,q∈L.map pG↔∃i,a8 ss ps q i:=λq=>by
  constructor
  ·intro h;obtain⟨⟨a,ns⟩,h1,rfl⟩:=kh.mp h;obtain⟨k,hk⟩:=DD _ (hL.nn _ h1).2;exact⟨k,(hL.iff _ _).mpr ⟨ns,h1,hk⟩⟩
  ·rintro⟨i,h⟩;obtain⟨ns,h1,_⟩:=(hL.iff _ _).mp h;exact kh.mpr ⟨_,h1,rfl⟩
 have kl:yl [eY L]=some (.list ((L.map pG).map eQ)):=by
  unfold eY yl;dsimp only;rw[θ,uc]
  ·rfl
  ·rw[Ut];intro k hk;obtain⟨q,_,rfl⟩:=kh.mp hk;exact ζ (wt (by decide:3<=8000000))
 obtain⟨d2,ei,os,rfl,up,hm,lo⟩:=VM (n:=4*n+3) hn (ps:=L.map pG) (λq h=>by
  obtain⟨i,hi⟩:=(km q).mp h;exact(T.lies hi).2.1) (by rw[kJ];lia)
 rw[kJ] at lo;have ho:∀q,q∈os↔∃i,a8 ss ps q i:=λq=>(hm q).trans (km q);have gt:∀q∈os,∃ns,yn (eY L) (eQ q)=some (eJ ns)/\ns.Nodup/\∀k,k∈ns↔k∈nM ss q:=λq hq=>by
  obtain⟨i,hi⟩:=(ho q).mp hq;obtain⟨x,hx,e⟩:=kh.mp ((hm q).mp hq);have key:∀(M:List (Q3×List Nat)),(M.map pG).Nodup->x∈M->cR ((M.map pG).map kQ) (M.map λx=>eJ x.2) (kQ x.1)=some (eJ x.2):=λM nd hx=>by
   induction M with
   |nil=>cases hx
   |cons y M ih=>
    rw[kN,kN,kN,cR];rw[kN] at nd;obtain⟨n1,n2⟩:=QN.mp nd
    by_cases c:kQ y.1=kQ x.1
    ·rw[θ c];rcases kg.mp hx with z|z
     ·rw[z]
     ·exact absurd (kh.mpr ⟨x,z,(vC c).symm⟩) n1
    ·grind
  subst e;refine⟨x.2,?_,(hL.nn x hx).1,λk=>?_⟩
  ·simp only[eY,yn,xB,kB];exact key L hL.nd hx
  ·rw[vL]
   constructor
   ·intro hk;obtain⟨h1,_,h2⟩:=T.lies ((hL.iff x.1 k).mpr ⟨x.2,hx,hk⟩);exact⟨h1,h2⟩
   ·rintro⟨h1,h2⟩;obtain⟨ns,h3,h4⟩:=(hL.iff x.1 k).mp (T.full h1 hi h2);have:x.2=ns:=by
     have a:=key L hL.nd hx;have b:cR ((L.map pG).map kQ) (L.map λx=>eJ x.2) (kQ x.1)=some (eJ ns):=by
      have:∀(M:List (Q3×List Nat)),(M.map pG).Nodup->(x.1,ns)∈M->x∈M->x.2=ns:=λM nd h1 h2=>by
       induction M with
       |nil=>cases h1
       |cons y M ih=>
        rw[kN] at nd;obtain⟨n1,n2⟩:=QN.mp nd;rcases kg.mp h1 with z1|z1<;>rcases kg.mp h2 with z2|z2
        ·rw[z2,<-z1]
        ·rw[<-z1] at n1;exact absurd (kh.mpr ⟨x,z2,rfl⟩) n1
        ·grind
        ·exact ih n2 z1 z2
      rw[<-this L hL.nd h3 hx];exact a
     have:∀(M:List (Q3×List Nat)),(M.map pG).Nodup->(x.1,ns)∈M->x∈M->x.2=ns:=λM nd h1 h2=>by
      induction M with
      |nil=>cases h1
      |cons y M ih=>
       rw[kN] at nd;obtain⟨n1,n2⟩:=QN.mp nd;rcases kg.mp h1 with z1|z1<;>rcases kg.mp h2 with z2|z2
       ·rw[z2,<-z1]
       ·grind
       ·grind
       ·exact ih n2 z1 z2
     exact this L hL.nd h3 hx
    rw[this];exact h4
 refine⟨.list (os.map (eT ss)),?_,os,ps,g,rfl,T,up,ho,by lia⟩
 unfold YC
 dsimp! [el,kl,ei]
 rw[yH (e:=eQ) (h:=eT ss) λq hq=>by
  obtain⟨ns,h1,h2,h3⟩:=gt q hq;have Ma:ns.length<64:=Qt (jI h2 λk hk=>(vL.mp ((h3 k).mp hk)).1) hl;have lk:yl [eJ ns]=some (.list (ns.map eN)):=by
   simp only[eJ,yl,uc];rfl
  dsimp! [h1,lk,Vw h2 (YA ss q) h3 Ma,zcm]]
 dsimp! []
end Nu
end
section
variable{K:List (Nat×Q3)}{k:Nat}{q:Q3}{os:List Q3}
namespace Nu
noncomputable def k2(f:Q3×Q3):KT:=[.inr [f.1.x,f.1.y,f.1.w],.inr [f.2.x,f.2.y,f.2.w]]
def Vp{f f':Q3×Q3}(h:k2 f=k2 f'):f=f':=by
 obtain⟨⟨_,_,_⟩,_,_,_⟩:=f;obtain⟨⟨_,_,_⟩,_,_,_⟩:=f'
 cases h;rfl
def Xj(f:Q3×Q3):xI (eS f)=some (k2 f):=rfl
noncomputable def eO(O:List ((Q3×Q3)×List Nat)):Dt:=.dT ((O.map pG).map k2) (O.map λx=>.list (x.2.map eN))
structure Wn(O:List ((Q3×Q3)×List Nat))(G8:Q3×Q3->Prop)(L:Q3×Q3->List Nat):Prop where
 nd:(O.map pG).Nodup
 mem:∀f,G8 f↔f∈O.map pG
 val:∀x∈O,x.2=L x.1
variable{O:List ((Q3×Q3)×List Nat)}{G8:Q3×Q3->Prop}{L:Q3×Q3->List Nat}
def Wn.congr{Mem':Q3×Q3->Prop}{L':Q3×Q3->List Nat}(h:Wn O G8 L)(hM:∀f,G8 f↔Mem' f)(hL:∀f,G8 f->L f=L' f):Wn O Mem' L':=
 ⟨h.nd,λf=>(hM f).symm.trans (h.mem f),λx hx=>(h.val x hx).trans (hL _ ((h.mem _).mpr (kh.mpr ⟨x,hx,rfl⟩)))⟩
theorem ZS{α β:Type}{O:List (α×β)}(nd:(O.map pG).Nodup){j:Nat}{a:α}{b c:β}(h:O[j]?=some (a,b)){y:α×β}(hy:y∈O.set j (a,c)):y=(a,c)\/(y∈O/\y.1≠a):=by
 have hj:=(kE.mp h).1;obtain⟨i,hi⟩:=pJ.mp hy;rw[Aj] at hi
 by_cases e:j=i
 ·rw[θ e,θ (by omega)] at hi
  exact .inl (uD hi).symm
 ·rw[η e] at hi;refine .inr ⟨kT hi,λz=>?_⟩;have la:=(kE.mp hi).1;have n1:(O.map pG)[i]?=some a:=by rw[kX,hi];show some y.1=_;rw[z]
  have n2:(O.map pG)[j]?=some a:=by rw[kX,h];rfl
  rw[kH (by rw[kJ];omega)] at n1 n2
  rcases Fv e with z|z
  ·exact po.mp nd j i (by rw[kJ];omega) (by rw[kJ];omega) z ((uD n2).trans (uD n1).symm)
  ·exact po.mp nd i j (by rw[kJ];omega) (by rw[kJ];omega) z ((uD n1).trans (uD n2).symm)
variable{f:Q3×Q3}
def ZE{fs:List (Q3×Q3)}:k2 f∈fs.map k2↔f∈fs:=⟨λh=>let⟨q,hq,e⟩:=kh.mp h;Vp e▸hq,λh=>kh.mpr ⟨f,h,rfl⟩⟩
theorem Ln(h:Wn O G8 L)(f:Q3×Q3)(k:Nat)(hn:¬G8 f->L f=[])(hO:O.length<=7000000)(hL:(L f).length<=1000):
  Gv (vQ (eO O) (eS f) (eN k)) λd=>∃O',d=eO O'/\Wn O' (λx=>G8 x\/x=f) (λx=>if x=f then L f++[k] else L x)/\O'.length<=O.length+1:=by
 have l0:O.length<μ:=yE (by lia)
 by_cases c:f∈O.map pG
 ·obtain⟨j,hj,ej⟩:=Y3 (ZE.mpr c);rw[kX,kX] at ej;obtain⟨q,ej,eq⟩:=uW.mp ej;obtain⟨x,ex,eq2⟩:=uW.mp ej;have eq3:x.1=f:=eq2.trans (Vp eq);obtain⟨x1,ns⟩:=x;subst eq3;dsimp only at*;have hx:=kT ex;have hv:ns=L x1:=h.val _ hx;have ms:=Yd (f:=pG) (b:=(x1,ns++[k])) ex rfl;have l1:ns.length<μ:=by rw[hv];exact yE (by lia)
  refine⟨eO (O.set j (x1,ns++[k])),?_,_,rfl,⟨by rw[ms];exact h.nd,λg=>?_,λy hy=>?_⟩,by rw[Qv];lia⟩
  ·unfold eO vQ;simp only[Xj,apD,kB,kJ,θ l0,hj,kX,ex,Um,θ l1,ms,ET,ku,kN,UA]
  ·rw[ms,<-h.mem];exact⟨λz=>z.elim id λz=>z▸(h.mem _).mpr c,.inl⟩
  ·rcases ZS h.nd ex hy with z|⟨z1,z2⟩
   ·rw[z,θ rfl,hv]
   ·rw[η z2];exact h.val y z1
 ·have nm:¬G8 f:=λz=>c ((h.mem f).mp z);have pn:zV ((O.map pG).map k2) (k2 f)=none:=posK_none λz=>c (ZE.mp z);refine⟨eO (O++[(f,[k])]),?_,_,rfl,⟨?_,λg=>?_,λy hy=>?_⟩,by rw[kW];exact pI _⟩
  ·unfold eO vQ;simp only[Xj,kB,kJ,θ l0,pn,ku,kN,UA]
  ·rw[ku];exact QG.mpr ⟨h.nd,QK _ _,λa ha b hb e=>c (by rw[ki.mp hb] at e;have e:a=f:=e;exact e▸ha)⟩
  ·rw[ku,pD,h.mem]
   simp
  ·rcases pD.mp hy with z|z
   ·rw[η λe=>c (kh.mpr ⟨y,z,e⟩)];exact h.val y z
   ·rw[ki.mp z,θ rfl,hn nm];rfl
noncomputable def eR(K:List (Nat×Q3)):Dt:=.dK (K.map λx=>(.inl (x.1:Int):eh)) (K.map λx=>eQ x.2)
noncomputable def bO:List (Nat×Q3)->Nat->Option Q3
 |[],_=>none
 |x::K,k=>if x.1=k then some x.2 else bO K k
theorem JZ{k:Nat}:∀(K:List (Nat×Q3)),yn (eR K) (eN k)=(bO K k).map eQ
 |[]=>rfl
 |x::K=>by
  have ih:=JZ (k:=k) K;simp only[eR,eN,yn,wv,kB] at ih⊢;rw[kN,kN,cR,bO,ih]
  by_cases e:x.1=k
  ·rw[θ (by rw[e]),θ e];rfl
  ·rw[η (λz=>e (by have:=HD z;lia)),η e]
theorem Px(k:Nat)(p:Q3)(l:K.length<=7000000):∃K',xg (eR K) (eN k) (eQ p)=some (eR K')/\K'.length<=K.length+1/\∀j,bO K' j=if j=k then some p else bO K j:=by
 have l0:(K.map λx=>(.inl (x.1:Int):eh)).length<μ:=by rw[kJ];exact yE (by lia)
 by_cases c:(.inl (k:Int):eh)∈K.map λx=>(.inl (x.1:Int):eh)
 ·refine⟨K.map λx=>if x.1=k then(x.1,p) else x,?_,by rw[kJ];lia,λj=>?_⟩
  ·unfold eR eN;simp only[xg,wv,kB,θ l0]
   congr 1
   unfold pK pV;rw[θ c,θ c];clear c l0 l
   congr 1
   ·rw[uc];refine UF λx _=>?_;show _=(IP ((if x.1=k then(x.1,p) else x).1:Int):eh)
    split<;>rfl
   ·induction K with
    |nil=>rfl
    |cons x K ih=>
     rw[kN,kN,gI,kN,kN,ih]
     by_cases e:x.1=k
     ·rw[θ (by rw[e]),θ e]
     ·rw[η (λz=>e (by have:=HD z;lia)),η e]
  ·have hk:∃x∈K,x.1=k:=by
    obtain⟨x,hx,e⟩:=kh.mp c;exact⟨x,hx,by have:=HD e;lia⟩
   clear c l0 l
   induction K with
   |nil=>obtain⟨x,hx,_⟩:=hk;cases hx
   |cons x K ih=>
    rw[kN,bO,bO]
    by_cases e:x.1=k
    ·rw[θ e];dsimp only
     by_cases ej:j=k
     ·rw[θ (by rw[e,ej]),θ ej]
     ·have nj:¬x.1=j:=λz=>ej (z.symm.trans e);rw[η nj,η ej,η nj]
      by_cases dw:∃x∈K,x.1=k
      ·rw[ih dw,η ej]
      ·congr 1
       have:∀M:List (Nat×Q3),(¬∃x∈M,x.1=k)->(M.map λx=>if x.1=k then(x.1,p) else x)=M:=λM hM=>by
        conv=>rhs;rw[<-List.map_id M]
        exact UF λx hx=>η λz=>hM ⟨x,hx,z⟩
       exact this K dw
    ·have dw:∃x∈K,x.1=k:=by
      obtain⟨y,hy,z⟩:=hk;rcases kg.mp hy with w|w
      ·rw[w] at z;exact absurd z e
      ·exact⟨y,w,z⟩
     rw[η e]
     by_cases ej:x.1=j
     ·rw[θ ej,θ ej,η λz=>e (ej.trans z)]
     ·rw[η ej,η ej,ih dw]
 ·refine⟨K++[(k,p)],?_,by rw[kW];exact pI _,λj=>?_⟩
  ·unfold eR eN;simp only[xg,wv,kB,θ l0]
   congr 1
   unfold pK pV;rw[η c,η c,ku,ku];rfl
  ·have hk:∀x∈K,x.1≠k:=λx hx z=>c (kh.mpr ⟨x,hx,by rw[z]⟩)
   clear c l0 l
   induction K with
   |nil=>
    show(if k=j then some p else none)=_
    by_cases e:j=k
    ·rw[θ e,θ e.symm]
    ·rw[η e,η λz=>e z.symm];rfl
   |cons x K ih=>
    rw[Qm,bO,bO,ih λy hy=>hk y (by simp[hy])]
    by_cases e:x.1=j
    ·rw[θ e,θ e,η λz=>hk x (by simp) (e.trans z)]
    ·rw[η e,η e]
noncomputable def zy(ss:List (Q3×Q3))(f:Q3×Q3):List Nat:=(nM ss f.2).filter λk=>aJ (ss.getD k zQ).1 (ss.getD k zQ).2 f.1
def yN{ss:List (Q3×Q3)}:k∈zy ss f↔k<ss.length/\eI ss f.1 k/\eI ss f.2 k:=by
 unfold zy;rw[ke,vL];exact⟨λ⟨⟨a,b⟩,c⟩=>⟨a,c,b⟩,λ⟨a,b,c⟩=>⟨⟨a,c⟩,b⟩⟩
def WP(ss:List (Q3×Q3))(f:Q3×Q3):(zy ss f).Pairwise (·<·):=Qe _ (YA ss f.2)
noncomputable def mQ(ss:List (Q3×Q3))(q:Q3):List Nat:=(nM ss q).filter λk=>decide ((ss.getD k zQ).1≠q)
def Xc{ss:List (Q3×Q3)}:k∈mQ ss q↔(k<ss.length/\eI ss q k)/\(ss.getD k zQ).1≠q:=by
 unfold mQ;rw[ke,vL,τ]
section
variable{n:Nat}{ss:List (Q3×Q3)}{ps:List (Nat×Nat)}{g:Int}
def XR(T:zu n ss ps g)(hk:k<ss.length):(ss.getD k zQ).1≠(ss.getD k zQ).2:=λz=>by
 have:=(T.ok _ (zh hk)).2.2;rw[z,zk] at this
 cases this
def cD{a b p r:Q3}(hab:bq a b=true)(hp:dt a b p=0)(hq:dt a b q=0)(hr:dt a b r=0):dt p q r=0:=by
 have e1:=y7 a b p q r;have e2:=ql a b p q r;rw[hp,hq,hr] at e1 e2;simp only[uL,gM] at e1 e2;rcases Xw hab with h|h
 ·exact(kj.mp e1.symm).resolve_right h
 ·exact(kj.mp e2.symm).resolve_right h
theorem cw.nb(T:zu n ss ps g)(h:cw ss ps f){i:Nat}(hi:i<ss.length)(o1:eI ss f.1 i)(o2:eI ss f.2 i):a8 ss ps f.1 i/\a8 ss ps f.2 i/\∀r,a8 ss ps r i->bq f.1 r=true->bq r f.2=true->False:=by
 obtain⟨j,h1,h2,h3,h4⟩:=h;obtain⟨j1,j2,j3⟩:=T.lies h1;obtain⟨_,j4,j5⟩:=T.lies h2;refine⟨T.full hi h1 o1,T.full hi h2 o2,λr hr r1 r2=>h4 r ?_ r1 r2⟩;obtain⟨_,r3,r4⟩:=T.lies hr;obtain⟨s1,s2,s3⟩:=T.ok _ (zh j1);have up:∀{z:Q3},PQ n z->PQ (4*n+3) z:=λh=>Pt.mono h (by lia)
 have c1:=(zg o1).1;have c2:=(zg o2).1;have c3:=(zg r4).1;obtain⟨t1,t2,t3⟩:=T.ok _ (zh hi);have cl:dt f.1 f.2 r=0:=cD t3 c1 c2 c3;exact T.full j1 hr (xE (up s1) (up s2) j2 j4 r3 h3 j3 j5 cl (zf r1) (zf r2))
def Py(T:zu n ss ps g)(hl:ss.length<64)(q:Q3):ww [.list ((B5 ss q++Lk ss q).map eN)]=some (.list ((mQ ss q).map eN)):=by
 have mem:∀k,k∈B5 ss q++Lk ss q↔k∈mQ ss q:=λk=>by
  unfold B5 Lk;rw[pD,ke,ke,Xc,vL];simp only[HE,ue,Uf,decide_eq_false_iff_not,τ]
  constructor
  ·rintro(⟨h1,h2,_⟩|⟨h1,h2⟩)
   ·exact⟨h1,h2⟩
   ·exact⟨h1,λz=>XR T h1.1 (z.trans h2.symm)⟩
  ·rintro⟨h1,h2⟩
   by_cases e:(ss.getD k zQ).2=q
   ·exact .inr ⟨h1,e⟩
   ·exact .inl ⟨h1,h2,e⟩
 have nd:(B5 ss q++Lk ss q).Nodup:=by
  have n0:=Pw ss q;refine QG.mpr ⟨n0.filter _,n0.filter _,λx hx y hy z=>?_⟩;have h1:=(ke.mp hx).2;have h2:=ξ (ke.mp hy).2;rw[z] at h1;simp only[HE,ue,Uf,decide_eq_false_iff_not] at h1;exact h1.2 h2
 exact Vw nd (Qe _ (YA ss q)) mem (Qt (jI nd λk hk=>(Xc.mp ((mem k).mp hk)).1.1) hl)
def Pz(ss:List (Q3×Q3))(ps:List (Nat×Nat))(dn:List Q3)(K:List (Nat×Q3)):Prop:=∀i q,a8 ss ps q i->q∈dn->(∀r,r∈dn->a8 ss ps r i->bq q r=false)->q≠(ss.getD i zQ).2->bO K i=some q
theorem za2{T:Q3->Prop}:∀{l:List Q3},Up l->(∃r,r∈l/\T r)->∃p,p∈l/\T p/\∀r,r∈l->T r->bq p r=false
 |[],_,⟨r,h,_⟩=>by cases h
 |a::l,pw,⟨r,hr,ht⟩=>by
  obtain⟨p1,p2⟩:=uI.mp pw
  by_cases z:∃r,r∈l/\T r
  ·obtain⟨p,h1,h2,h3⟩:=za2 p2 z;refine⟨p,pT _ h1,h2,λr hr tr=>?_⟩;rcases kg.mp hr with rfl|hr
   ·exact zf (p1 p h1)
   ·exact h3 r hr tr
  ·have ea:∀r,r∈a::l->T r->r=a:=λr hr tr=>by
    rcases kg.mp hr with h|h
    ·exact h
    ·exact absurd ⟨r,h,tr⟩ z
   exact⟨a,pH,ea r hr ht▸ht,λr hr tr=>by rw[ea r hr tr];exact zk a⟩
def xy{l:List Q3}(pw:Up l){r:Q3}(hk:l[k]?=some q):(r∈l.take k->bq r q=true)/\(r∈l->bq r q=true->r∈l.take k):=by
 have tB:=(kE.mp hk).1;have sp:l=l.take k++(q::l.drop (k+1)):=by
  conv=>lhs;rw[<-uP k l]
  rw[Qf tB]
  congr 2
  have:=kH tB;rw[hk] at this;exact(uD this).symm
 have pw':=pw;unfold Up at pw';rw[sp,Qs] at pw';refine⟨λh=>pw'.2.2 r h q pH,λh hb=>?_⟩;rw[sp] at h;rcases pD.mp h with h|h
 ·exact h
 ·rcases kg.mp h with h|h
  ·rw[h,zk] at hb;cases hb
  ·have:=(uI.mp pw'.2.1).1 r h;rw[zf hb] at this
   cases this
theorem Xf(T:zu n ss ps g)(pw:Up os)(ho:∀q,q∈os↔∃i,a8 ss ps q i){K:List (Nat×Q3)}{k i:Nat}{q:Q3}(hk:os[k]?=some q)(hq:a8 ss ps q i)(n1:(ss.getD i zQ).1≠q)(R:Pz ss ps (os.take k) K):
  ∃p,a8 ss ps p i/\cw ss ps (p,q)/\bO K i=some p:=by
 obtain⟨hi,pq,oq⟩:=T.lies hq;obtain⟨s1,s2,s3⟩:=T.ok _ (zh hi);obtain⟨_,i1,i2⟩:=zg oq;have up:∀{z:Q3},PQ n z->PQ (4*n+3) z:=λh=>Pt.mono h (by lia)
 have l1:a8 ss ps (ss.getD i zQ).1 i:=.inl (yB.mpr ⟨hi,.inl rfl⟩);have b1:bq (ss.getD i zQ).1 q=true:=by
  cases h:bq (ss.getD i zQ).1 q with
  |true=>rfl
  |false=>exact absurd (zJ (up s1) pq (by rw[h];decide) (by rw[i1];decide)) n1
 obtain⟨p,h1,h2,h3⟩:=za2 (T:=λr=>a8 ss ps r i) (List.Pairwise.sublist (DI k os) pw) ⟨_,(xy pw hk).2 ((ho _).mpr ⟨i,l1⟩) b1,l1⟩;have bp:=(xy pw hk (r:=p)).1 h1;refine⟨p,h2,⟨i,h2,hq,bp,λr hr r1 r2=>?_⟩,R i p h2 h1 h3 λz=>by rw[z,i2] at bp;cases bp⟩
 have:=h3 r ((xy pw hk).2 ((ho _).mpr ⟨i,hr⟩) r2) hr;rw[r1] at this
 cases this
def Pz.next(pw:Up os){K':List (Nat×Q3)}(hk:os[k]?=some q){bt:List Nat}(hbt:∀i,i∈bt↔a8 ss ps q i/\(ss.getD i zQ).2≠q)(hv:∀i:Nat,bO K' i=if i∈bt then some q else bO K i)(R:Pz ss ps (os.take k) K):Pz ss ps (os.take (k+1)) K':=λi r hr hm hl hn=>by
 have et:os.take (k+1)=os.take k++[q]:=by rw[pU,hk];rfl
 rw[et] at hm hl;rw[hv i];rcases pD.mp hm with hm|hm
 ·have nq:¬a8 ss ps q i:=λz=>by
   have:=hl q (uQ _ (ki.mpr rfl)) z;rw[(xy pw hk).1 hm] at this
   cases this
  rw[η (λz=>nq ((hbt i).mp z).1)];exact R i r hr hm (λx hx=>hl x (uO _ hx)) hn
 ·have e:=ki.mp hm;subst e;rw[θ ((hbt i).mpr ⟨hr,λz=>hn z.symm⟩)]
def Vv(T:zu n ss ps g)(pw:Up os)(ho:∀q,q∈os↔∃i,a8 ss ps q i){K:List (Nat×Q3)}{k:Nat}{f:Q3×Q3}(hk:os[k]?=some f.2)(R:Pz ss ps (os.take k) K)(hf:cw ss ps f)(i:Nat):(i∈mQ ss f.2/\(bO K i).getD zQ.1=f.1)↔i∈zy ss f:=by
 rw[yN,Xc];have lyq:∃i,a8 ss ps f.2 i:=let⟨i,_,h,_⟩:=hf;⟨i,h⟩;obtain⟨i0,l0⟩:=lyq;obtain⟨j0,k1,k2,k3,k4⟩:=hf;have hf:cw ss ps f:=⟨j0,k1,k2,k3,k4⟩
 constructor
 ·rintro⟨⟨⟨h1,h2⟩,h3⟩,h4⟩;obtain⟨p,p1,p2,p3⟩:=Xf T pw ho hk (T.full h1 l0 h2) h3 R;rw[p3] at h4;have h4:p=f.1:=h4;exact⟨h1,by rw[<-h4];exact(T.lies p1).2.2,h2⟩
 ·rintro⟨h1,h2,h3⟩;obtain⟨m1,m2,m3⟩:=cw.nb T hf h1 h2 h3;have Ru:(ss.getD i zQ).1≠f.2:=λz=>by
   obtain⟨_,i1,_⟩:=zg h2;rw[z,k3] at i1
   cases i1
  refine⟨⟨⟨h1,h3⟩,Ru⟩,?_⟩;obtain⟨p,p1,p2,p3⟩:=Xf T pw ho hk m2 Ru R;rw[p3];show p=f.1;obtain⟨_,_,_,q3,_⟩:=id p2;have q3:bq p f.2=true:=q3;have pp:=(T.lies p1).2.1;have pf:=(T.lies m1).2.1;obtain⟨r1,r2,r3⟩:=cw.nb T p2 h1 (T.lies p1).2.2 h3;refine zJ pp pf (λz=>r3 f.1 m1 z k3) λz=>m3 p p1 z q3
end
end Nu
end
section
variable{O:List ((Q3×Q3)×List Nat)}
namespace Nu
def OS(O:List ((Q3×Q3)×List Nat))(s:Sl):Prop:=s=.ow false 2 (eO O)\/(O=[]/\s=.ow false 1 (.dT [] []))
theorem OS.as2{O:List ((Q3×Q3)×List Nat)}{s:Sl}(h:OS O s):as2 s=some (false,eO O):=by
 rcases h with rfl|⟨rfl,rfl⟩<;>rfl
def OS.frz{s:Sl}(h:OS O s):dD s=.fz (eO O):=by
 rcases h with rfl|⟨rfl,rfl⟩<;>rfl
noncomputable def eP(ss:List (Q3×Q3))(f:Q3×Q3):Dt:=.tuple [eS f,.list ((zy ss f).map eN)]
def u7(fs:List (Q3×Q3)):Prop:=fs.Pairwise λa b=>fJ [a.1,a.2] [b.1,b.2]=true
def dZ{α:Type}{f:α->Dt}(xs ys:List α)(h:xs.length+ys.length<=8000000):zM (.list (xs.map f)) (.list (ys.map f))=some (.list ((xs++ys).map f)):=by
 simp only[zM,kJ,θ (wt h),ku]
theorem get_O{G8:Q3×Q3->Prop}{L:Q3×Q3->List Nat}(h:Wn O G8 L){f:Q3×Q3}(hf:f∈O.map pG):yn (eO O) (eS f)=some (.list ((L f).map eN)):=by
 simp only[eO,yn,Xj,kB];have hv:=h.val;clear h
 induction O with
 |nil=>cases hf
 |cons x O ih=>
  rw[kN,kN,kN,cR]
  by_cases c:k2 x.1=k2 f
  ·rw[θ c,hv x (by simp),Vp c]
  ·rw[η c];rw[kN] at hf;rcases kg.mp hf with z|z
   ·exact absurd (by rw[z]) c
   ·exact ih z λy hy=>hv y (by simp[hy])
theorem VB{n:Nat}(hn:4*n+3<=8999){ss:List (Q3×Q3)}(ok:Ss n ss)(hl:ss.length<64):Gv (cC [.list (ss.map eS)]) λd=>∃fs ps g,d=.list (fs.map (eP ss))/\zu n ss ps g/\u7 fs/\(∀f,f∈fs↔cw ss ps f)/\fs.length<=1300000:=by
 obtain⟨d0,es,os,ps,g,rfl,T,up,ho,lo⟩:=zbd hn ok hl;unfold cC
 dsimp! [es]
 rw[uJ];refine xA (σ:=(List ((Q3×Q3)×List Nat)×Sl)×List (Nat×Q3)) (λs=>[.fz (.list (ss.map eS)),s.1.2,.ow false 1 (eR s.2),.un,.un,.un,.un,.un])
  (λi s=>Wn s.1.1 (λf=>cw ss ps f/\f.2∈os.take i) (zy ss)/\OS s.1.1 s.1.2/\Pz ss ps (os.take i) s.2/\s.1.1.length<=64*i/\s.2.length<=128*i) (([],.ow false 1 (.dT [] [])),[]) rfl
  ⟨⟨.nil,λf=>(by simp),λx hx=>(by cases hx)⟩,.inr ⟨rfl,rfl⟩,λi q _ h=>(by rw[Bq] at h;cases h),pI _,pI _⟩ (λi q s hi hs=>?_) λs hs=>?_
 ·obtain⟨⟨O,sO⟩,K⟩:=s;obtain⟨hO,hS,hR,lO,lK⟩:=hs;dsimp only at hO hS hR lO lK;have cq:=(kE.mp hi).1;have mq:q∈os:=kT hi;obtain⟨i0,ly0⟩:=(ho q).mp mq;have nq:q∉os.take i:=λz=>by have:=(xy up hi).1 z;rw[zk] at this;cases this
  have et:∀r,r∈os.take (i+1)↔r∈os.take i\/r=q:=λr=>by rw[pU,hi,pD];simp
  have l1:(nM ss q).length<=ss.length:=Lj ss q;have l2:(B5 ss q).length<=(nM ss q).length:=pZ _ _;have l3:(Lk ss q).length<=(nM ss q).length:=pZ _ _;have l4:(M4 ss q).length<=(nM ss q).length:=pZ _ _;have l5:(mQ ss q).length<=(nM ss q).length:=pZ _ _;have rch:∀k∈mQ ss q,∃p,a8 ss ps p k/\cw ss ps (p,q)/\bO K k=some p:=λk hk=>by
   obtain⟨⟨h1,h2⟩,h3⟩:=Xc.mp hk;exact Xf T up ho hi (T.full h1 ly0 h2) h3 hR
  dsimp! [eT,dZ _ _ (show(B5 ss q).length+(Lk ss q).length<=8000000 by lia),Py T hl q]
  rw[uJ];refine xA (σ:=List ((Q3×Q3)×List Nat)×Sl) (λs=>[.fz (.list (ss.map eS)),s.2,.ow false 1 (eR K),.fz (eQ q),.fz (.list ((M4 ss q).map eN)),.fz (.list ((B5 ss q).map eN)),.fz (.list ((Lk ss q).map eN)),.un])
   (λj s=>Wn s.1 (λf=>(cw ss ps f/\f.2∈os.take i)\/(f.2=q/\∃k∈(mQ ss q).take j,(bO K k).getD zQ.1=f.1)) (λf=>if f.2=q then((mQ ss q).take j).filter λk=>decide ((bO K k).getD zQ.1=f.1) else zy ss f)/\OS s.1 s.2/\s.1.length<=64*i+j) (O,sO) rfl
   ⟨hO.congr (λf=>by simp) (λf hf=>(η λz:f.2=q=>nq (by rw[<-z];exact hf.2)).symm),hS,lO⟩ (λj k s hj hs=>?_) λs hs=>?_
  ·obtain⟨O2,s2⟩:=s;obtain⟨Kj,sU,lO2⟩:=hs;dsimp only at Kj sU lO2;have cS:=(kE.mp hj).1;obtain⟨p,p1,p2,p3⟩:=rch k (kT hj);have gk:yn (eR K) (eN k)=some (eQ p):=by rw[JZ,p3];rfl
   have rk:(bO K k).getD zQ.1=p:=by rw[p3];rfl
   have lf:(((mQ ss q).take j).filter λk=>decide ((bO K k).getD zQ.1=p)).length<=1000:=uK (pZ _ _) (by rw[pC];lia)
   obtain⟨d,ed,O3,rfl,hO3,lO3⟩:=Ln Kj (p,q) k (λnm=>by
    rw[θ rfl];refine List.filter_eq_nil_iff.mpr λk' dw z=>nm (.inr ⟨rfl,k',dw,ξ z⟩)) (by lia) (by rw[θ rfl];exact lf)
   refine⟨_,?_,(O3,.ow false 2 (eO O3)),rfl,hO3.congr (λf=>?_) (λf hf=>?_),.inl rfl,by dsimp only;lia⟩
   ·dsimp! [vG,gk,sU.as2]
    rw[show Dt.tuple [eQ p,eQ q]=eS (p,q) from rfl,ed]
    dsimp! []
   ·rw[pU,hj];simp only[CL,pD,ki]
    constructor
    ·rintro((z|⟨z1,k',z2,z3⟩)|z)
     ·exact .inl z
     ·exact .inr ⟨z1,k',.inl z2,z3⟩
     ·rw[z];exact .inr ⟨rfl,k,.inr rfl,rk⟩
    ·rintro(z|⟨z1,k',z2|z2,z3⟩)
     ·exact .inl (.inl z)
     ·exact .inl (.inr ⟨z1,k',z2,z3⟩)
     ·rw[z2,rk] at z3;exact .inr (Qo z3.symm z1)
   ·rw[pU,hj]
    by_cases c:f=(p,q)
    ·subst c;rw[θ rfl,θ rfl,θ rfl,gS]
     congr 1
     show[k]=DQ _ [k]
     rw[UB,θ (ζ rk)];rfl
    ·rw[η c]
     by_cases c2:f.2=q
     ·rw[θ c2,θ c2,gS];have:DQ (λk=>decide ((bO K k).getD zQ.1=f.1)) (some k).toList=[]:=by
       show DQ _ [k]=[]
       rw[UB,η λz=>c (Qo ((ξ z).symm.trans rk) c2)];rfl
      rw[this,QM]
     ·rw[η c2,η c2]
  ·obtain⟨O2,s2⟩:=s;obtain⟨Kj,sU,lO2⟩:=hs;dsimp only at Kj sU lO2;rw[uY] at Kj;have hO3:Wn O2 (λf=>cw ss ps f/\f.2∈os.take (i+1)) (zy ss):=Kj.congr (λf=>by
    rw[et]
    constructor
    ·rintro(⟨z1,z2⟩|⟨z1,k,z2,z3⟩)
     ·exact⟨z1,.inl z2⟩
     ·obtain⟨p,p1,p2,p3⟩:=rch k z2;rw[p3] at z3;have z3:p=f.1:=z3;have e:f=(p,q):=Qo z3.symm z1;rw[e];exact⟨p2,.inr rfl⟩
    ·rintro⟨z1,z2|z2⟩
     ·exact .inl ⟨z1,z2⟩
     ·obtain⟨k,m1,m2,m3,m4⟩:=id z1;have hk:k∈zy ss f:=yN.mpr ⟨(T.lies m1).1,(T.lies m1).2.2,(T.lies m2).2.2⟩;have:=(Vv T up ho (by rw[z2];exact hi) hR z1 k).mpr hk
      rw[z2] at this;exact .inr ⟨z2,k,this.1,this.2⟩) λf hf=>by
    by_cases c:f.2=q
    ·rw[θ c];have pf:cw ss ps f:=by
      rcases hf with z|⟨z1,k,z2,z3⟩
      ·exact z.1
      ·obtain⟨p,p1,p2,p3⟩:=rch k z2;rw[p3] at z3;have z3:p=f.1:=z3;have e:f=(p,q):=Qo z3.symm z1;rw[e];exact p2
     have hh:=Vv T up ho (by rw[c];exact hi) hR pf
     unfold mQ zy at*;rw[c] at hh⊢;rw[Cw];refine Br λk hk=>?_;have A8:=hh k;rw[ke,ke] at A8;rw[EX,ue,τ]
     constructor
     ·rintro⟨a,b⟩;exact(A8.mp ⟨⟨hk,b⟩,a⟩).2
     ·intro a;have:=A8.mpr ⟨hk,a⟩;exact⟨this.2,this.1.2⟩
    ·rw[η c]
   have km:=dZ (f:=eN) (M4 ss q) (B5 ss q) (by lia)
   dsimp! [km]
   refine xA (σ:=List (Nat×Q3)) (λs=>[.fz (.list (ss.map eS)),s2,.ow false 1 (eR s),.fz (eQ q),.fz (.list ((M4 ss q).map eN)),.fz (.list ((B5 ss q).map eN)),.fz (.list ((Lk ss q).map eN)),.un])
    (λj s=>s.length<=128*i+j/\∀k,bO s k=if k∈(M4 ss q++B5 ss q).take j then some q else bO K k) K rfl ⟨lK,λk=>by simp⟩ (λj k s hj hs=>?_) λs hs=>?_
   ·obtain⟨ls,hg⟩:=hs;have cS:=(kE.mp hj).1;rw[kW] at cS;obtain⟨K',e1,e2,e3⟩:=Px (K:=s) k q (by lia)
    refine⟨_,?_,K',rfl,by lia,λk'=>?_⟩
    ·dsimp! [e1]
    ·rw[e3,hg,pU,hj];simp only[CL,pD,ki]
     by_cases c:k'=k
     ·rw[θ c,θ (.inr c)]
     ·rw[η c]
      by_cases c2:k'∈(M4 ss q++B5 ss q).take j
      ·rw[θ c2,θ (.inl c2)]
      ·rw[η c2,η (λz=>z.elim c2 c)]
   ·obtain⟨ls,hg⟩:=hs;rw[uY] at hg
    dsimp! []
    refine⟨_,rfl,((O2,s2),s),rfl,hO3,sU,Pz.next up hi (λk=>?_) hg hR,by dsimp only;lia,by rw[kW] at ls;dsimp only;lia⟩
    unfold M4 B5;rw[pD,ke,ke,vL];simp only[HE,ue,Uf,decide_eq_false_iff_not,τ]
    constructor
    ·rintro(⟨⟨h1,h2⟩,h3⟩|⟨⟨h1,h2⟩,h3,h4⟩)
     ·exact⟨T.full h1 ly0 h2,λz=>XR T h1 (h3.trans z.symm)⟩
     ·exact⟨T.full h1 ly0 h2,h4⟩
    ·rintro⟨h1,h2⟩;obtain⟨a,_,b⟩:=T.lies h1
     by_cases c:(ss.getD k zQ).1=q
     ·exact .inl ⟨⟨a,b⟩,c⟩
     ·exact .inr ⟨⟨a,b⟩,c,h2⟩
 ·obtain⟨⟨O,sO⟩,K⟩:=s;obtain⟨hO,hS,hR,lO,lK⟩:=hs;dsimp only at hO hS hR lO lK;rw[uY] at hO;have hO:Wn O (cw ss ps) (zy ss):=hO.congr (λf=>⟨λz=>z.1,λz=>⟨z,let⟨k,_,h,_⟩:=z;(ho _).mpr ⟨k,h⟩⟩⟩) λ_ _=>rfl;have kl:yl [eO O]=some (.list ((O.map pG).map eS)):=by
   unfold eO yl;dsimp only;rw[θ,uc]
   ·rfl
   ·rw[Ut];intro k hk;obtain⟨f,_,rfl⟩:=kh.mp hk;show(decide (2<=μ)&&(decide (3<=μ)&&(decide (3<=μ)&&true)))=true;rw[ζ (wt (by decide:2<=8000000)),ζ (wt (by decide:3<=8000000))];rfl
  obtain⟨d,eb,fs,rfl,pm,upf⟩:=JH (n:=4*n+3) (m:=2) hn (e:=eS) (pts:=λf=>[f.1,f.2]) zQ (λ_=>rfl) (λa b h=>by injection h with h1 h2;injection h2 with h2 _;exact Qo h1 h2) (xs:=O.map pG) (λf hf=>by
   obtain⟨k,m1,m2,_⟩:=(hO.mem f).mpr hf;intro p hp;simp only[kg,QO,or_false] at hp;rcases hp with rfl|rfl
   ·exact(T.lies m1).2.1
   ·exact(T.lies m2).2.1) (λ_ _=>pI _) (by rw[kJ];lia) hO.nd
  simp only[cf,cL,Ah,Ai,hS.frz]
  dsimp! [kl,eb]
  rw[yH (e:=eS) (h:=eP ss) λf hf=>by
   dsimp! [get_O hO (pm.mem_iff.mp hf)]
   rfl]
  refine⟨_,rfl,fs,ps,g,rfl,T,upf,λf=>(pm.mem_iff).trans (hO.mem f).symm,?_⟩;rw[pm.length_eq,kJ];lia
end Nu
end
section
variable{α:Type}
namespace Nu
theorem Xy{p:Int->Option Bool}{c:Nat->Bool}{n:Nat}(hp:∀k,k<n->p (k:Int)=some (c k))(mono:∀k l,k<=l->l<n->c k=true->c l=true):∀(m lo hi:Nat),lo<=hi->hi<=n->hi-lo<m->(∀k,k<lo->c k=false)->(∀k,hi<=k->k<n->c k=true)->∃r:Nat,Im p m (lo:Int) (hi:Int)=some (r:Int)/\r<=n/\(∀k,k<r->c k=false)/\∀k,r<=k->k<n->c k=true
 |0,lo,hi,h1,h2,h3,_,_=>by lia
 |m+1,lo,hi,h1,h2,h3,h4,h5=>by
  unfold Im
  by_cases e:lo<hi
  ·rw[θ (by lia),show((lo:Int)+(hi:Int))/2=(((lo+hi)/2:Nat):Int) by lia,hp _ (by lia),kB]
   cases q:c ((lo+hi)/2) with
   |true=>
    rw[θ rfl];exact Xy hp mono m lo ((lo+hi)/2) (by lia) (by lia) (by lia) h4 λk hk hn=>mono _ k hk hn q
   |false=>
    rw[η (by decide),show(((lo+hi)/2:Nat):Int)+1=(((lo+hi)/2+1:Nat):Int) by lia]
    refine Xy hp mono m ((lo+hi)/2+1) hi (by lia) h2 (by lia) (λk hk=>?_) h5
    cases q2:c k with
    |false=>rfl
    |true=>rw[mono k _ (by lia) (by lia) q2] at q;cases q
  ·rw[η (by lia)]
   exact⟨lo,rfl,by lia,h4,λk hk hn=>h5 k (by lia) hn⟩
theorem Zm{js:List Nat}{f g:En->Option Dt}{Z:En}{ss:List Sl}{n:Nat}{c:Nat->Bool}(hg:g Z=some (.int (n:Int)))(hs:xS js Z=some ss)(hp:∀k:Nat,k<n->(f (.fz (.int (k:Int))::ss)).bind H1=some (c k))(mono:∀k l,k<=l->l<n->c k=true->c l=true):∃r:Nat,wu js f g Z=some (.int (r:Int))/\r<=n/\(∀k,k<r->c k=false)/\∀k,r<=k->k<n->c k=true:=by
 obtain⟨r,e1,e2,e3,e4⟩:=Xy (p:=λk=>(f (.fz (.int k)::ss)).bind H1) (n:=n) (c:=c) hp mono (n+1) 0 n (QB _) (pI _) (by lia) (λk hk=>by lia) (λk hk hn=>by lia)
 refine⟨r,?_,e2,e3,e4⟩;unfold wu;rw[hg,kB];show(xS js Z).bind _=_;rw[hs,kB,QS];have e1:Im (λk=>(f (.fz (.int k)::ss)).bind H1) (n+1) 0 (n:Int)=some (r:Int):=e1;rw[e1];rfl
def Lr{a b:Nat}(ha:a<4)(hb:b<4):wI (eN a) (eN b)=some (eN (a^^^b))/\a^^^b<4:=by
 have key:∀a b:Fin 4,Ei ((a.val:Nat):Int) ((b.val:Nat):Int)=((a.val^^^b.val:Nat):Int)/\a.val^^^b.val<4:=by decide+kernel
 obtain⟨k1,k2⟩:=key ⟨a,ha⟩ ⟨b,hb⟩;refine⟨?_,k2⟩;show some (Dt.int (Ei (a:Int) (b:Int)))=_;rw[k1];rfl
noncomputable def xs(l:List Nat):Nat:=l.foldl (·^^^·) 0
theorem Jf(l:List Nat):∀a,l.foldl (·^^^·) a=a^^^xs l:=by
 unfold xs
 induction l with
 |nil=>intro a;simp
 |cons b l ih=>
  intro a;rw[CW,CW,ih (a^^^b),ih (0^^^b),ID,Dc]
def xu(a:Nat)(l:List Nat):xs (a::l)=a^^^xs l:=by
 unfold xs;rw[CW,Jf];unfold xs;rw[ID]
def WV(a b:List Nat):xs (a++b)=xs a^^^xs b:=by
 unfold xs;rw[List.foldl_append,Jf];rfl
theorem Ls{a b:List Nat}(h:a.Perm b):xs a=xs b:=by
 induction h with
 |nil=>rfl
 |cons x _ ih=>rw[xu,xu,ih]
 |swap x y l=>rw[xu,xu,xu,xu,<-Dc,<-Dc,Nat.xor_comm y x]
 |trans _ _ i1 i2=>rw[i1,i2]
theorem YF:∀{l:List Nat},(∀a∈l,a<4)->xs l<4
 |[],_=>by decide
 |a::l,h=>by rw[xu];exact(Lr (h a (by simp)) (YF λb hb=>h b (by simp[hb]))).2
def zdg{l:List Nat}(h:∀a∈l,a<4):jX [.list (l.map eN)]=some (eN (xs l)):=by
 suffices Gv (jX [.list (l.map eN)]) λd=>d=eN (xs l) by obtain⟨d,e,rfl⟩:=this;exact e
 unfold jX
 dsimp! []
 rw[uJ];refine yU (σ:=Nat) (λs=>[.fz (.list (l.map eN)),.fz (eN s),.un]) (λi s=>s=xs (l.take i)) 0 rfl rfl (λi a s hi hs=>?_) λs hs=>?_
 ·have lt:s<4:=by rw[hs];exact YF λb hb=>h b (UV hb)
  obtain⟨x1,x2⟩:=Lr lt (h a (kT hi));refine⟨s^^^a,?_,?_⟩
  ·dsimp! [x1]
  ·rw[hs,pU,hi,WV]
   congr 1
   show a=xs [a]
   rw[xu];simp[xs]
 ·rw[uY] at hs;subst hs
  dsimp! []
  exact⟨_,rfl,rfl⟩
structure Ap(m:Nat)(fs:List (Q3×Q3)):Prop where
 ok:Ss m fs
 nd:fs.Nodup
 ap:∀e∈fs,∀f∈fs,e≠f->Apt e f
noncomputable def lvl(s:Q3×Q3):Bool:= !decide (s.1.x*s.2.w=s.2.x*s.1.w)
def PB{s:Q3×Q3}(h1:SQ s.1)(h2:SQ s.2):Yv [eS s]=some (.bool (!lvl s)):=by
 obtain⟨a1,_⟩:=U5 h1 h2;obtain⟨b1,_⟩:=U5 h2 h1;unfold Yv lvl
 dsimp! [yI,yR,vo,w9,a1,b1,xK,IE]
def jW{m:Nat}{s:Q3×Q3}(h:bq s.1 s.2=true):LP (dX s.1 s.2) (dY s.1 s.2):=by
 have:=yV.mp h;unfold Lt at this;rw[UL,UL] at this;exact this
def Ap.fan{m:Nat}{fs:List (Q3×Q3)}(A:Ap m fs){e f:Q3×Q3}(he:e∈fs)(hf:f∈fs)(ne:e≠f)(h:e.1=f.1):dt e.1 e.2 f.2≠0:=λz=>by
 obtain⟨e1,e2,e3⟩:=A.ok e he;obtain⟨f1,f2,f3⟩:=A.ok f hf;rcases A.ap e he f hf ne with q|q|⟨q,_⟩
 ·rw[h] at e3;rw[zf e3] at q;cases q
 ·rw[<-h] at f3;rw[zf f3] at q;cases q
 ·have z0:dt e.1 e.2 f.1=0:=by rw[<-h];exact yx _ _
  rcases q ⟨by rw[z0];rfl,by rw[z];rfl⟩ with q|q
  ·rw[<-h] at q;rw[q,zk] at e3;cases e3
  ·rw[h] at q;rw[q,zk] at f3;cases f3
theorem PC{p a b c:Q3}(ha:bq p a=true)(hb:bq p b=true)(hc:bq p c=true)(h1:0<dt p a b)(h2:0<dt p b c):0<dt p a c:=by
 have e1:=sc (s:=1) (penX p b a c);have e2:=sc (s:=1) (penY p b a c);have sw: -dt p b a=dt p a b:=by
  have:=Zf p a b;have:=yG p b a;have r1:dt p b a= -dt p a b:=by unfold dt aS bQ bR bX;grind
  lia
 rw[sw] at e1 e2;exact KZ e1 e2 (yV.mp hb) (yV.mp ha) (yV.mp hc) (kY h2) h1
theorem qO(p a b:Q3):dt p b a= -dt p a b:=by unfold dt aS bQ bR bX;grind
structure RS(fs:List (Q3×Q3))(t:Nat)(p:Q3)(l:List Nat):Prop where
 nd:l.Nodup
 mem:∀k,k∈l↔k<t/\k<fs.length/\(fs.getD k zQ).1=p
 up:l.Pairwise λa b=>0<dt p (fs.getD a zQ).2 (fs.getD b zQ).2
def jm{l:List α}(nd:l.Nodup)(d0:α){i j:Nat}(hi:i<l.length)(hj:j<l.length)(e:l.getD i d0=l.getD j d0):i=j:=by
 rw[kG,kG,kH hi,kH hj] at e;have e:l[i]=l[j]:=e;rcases Aq i j with z|z|z
 ·exact absurd e (po.mp nd i j hi hj z)
 ·exact z
 ·exact absurd e.symm (po.mp nd j i hj hi z)
theorem Lu{f:Q3->Dt}{qs:List Q3}{p:Q3}{v:Dt}(l:qs.length<μ):xg (.dT (qs.map kQ) (qs.map f)) (eQ p) v=some (.dT ((if p∈qs then qs else qs++[p]).map kQ) ((if p∈qs then qs else qs++[p]).map λq=>if q=p then v else f q)):=by
 simp only[xg,xB,kB];rw[θ (by rw[kJ];exact l)]
 unfold pK pV
 by_cases c:p∈qs
 ·rw[θ (xY.mpr c),θ (xY.mpr c),θ c]
  congr 2
  clear c l
  induction qs with
  |nil=>rfl
  |cons q qs ih=>
   rw[kN,kN,gI,kN,ih]
   by_cases e:q=p
   ·rw[θ (by rw[e]),θ e]
   ·rw[η λz=>e (vC z),η e]
 ·rw[η λz=>c (xY.mp z),η λz=>c (xY.mp z),η c,ku,ku]
  congr 2
  congr 1
  ·exact UF λq hq=>(η λz:q=p=>c (by rw[<-z];exact hq)).symm
  ·rw[Fw,θ rfl]
theorem jS{f:α->Dt}(l:List α)(r:Nat)(h:r<=l.length):xc (l.map f) none (some (r:Int))=(l.take r).map f/\xc (l.map f) (some (r:Int)) none=(l.drop r).map f:=by
 have e:tL l.length 0 (some (r:Int))=r:=by unfold tL;dsimp only;rw[η (by lia)];lia
 have e2:tL l.length l.length (some (r:Int))=r:=by unfold tL;dsimp only;rw[η (by lia)];lia
 have e0:tL l.length 0 none=0:=rfl;have e3:tL l.length l.length none=l.length:=rfl;unfold xc;rw[kJ,e,e2,e0,e3]
 constructor
 ·rw[Bj,IA,List.map_take]
 ·rw[List.map_drop,QT (by rw[uF,kJ];lia)]
def yT{l:List α}{i:Nat}(d0:α)(h:i<l.length):l.getD i d0=l[i]:=by rw[kG,kH h];rfl
def ixGI{f:α->Dt}{xs:List α}{i:Nat}(d0:α)(h:i<xs.length):af (.list (xs.map f)) (.int (i:Int))=some (f (xs.getD i d0)):=dH d0 h
noncomputable def eF(l:List Nat):Dt:=.list (l.map eN)
def yF{f:α->Dt}(l:List α):zq [.list (l.map f)]=some (eN l.length):=by
 show some (Dt.int ((l.map f).length:Nat))=_
 rw[kJ];rfl
theorem Lv{m:Nat}(hm:m<=100000){fs:List (Q3×Q3)}(A:Ap m fs)(hl:fs.length<=2000000):Gv (YR [.list (fs.map eS)]) λd=>∃(qs:List Q3)(Fn:Q3->List Nat),d=.dT (qs.map kQ) (qs.map λp=>eF (Fn p))/\(∀p,p∈qs↔∃k,k<fs.length/\(fs.getD k zQ).1=p)/\∀p,RS fs fs.length p (Fn p):=by
 have sq:∀k,k<fs.length->SQ (fs.getD k zQ).1/\SQ (fs.getD k zQ).2/\bq (fs.getD k zQ).1 (fs.getD k zQ).2=true:=λk hk=>by
  obtain⟨h1,h2,h3⟩:=A.ok _ (zh hk);exact⟨SQ.of h1 hm,SQ.of h2 hm,h3⟩
 unfold YR
 dsimp! [VK zQ]
 rw[uJ];refine yU (σ:=List Q3×(Q3->List Nat)) (λs=>[.fz (.list (fs.map eS)),.ow false 1 (.dT (s.1.map kQ) (s.1.map λp=>eF (s.2 p))),.un,.un,.un,.un]) (λt s=>(∀p,p∈s.1↔∃k,k<t/\k<fs.length/\(fs.getD k zQ).1=p)/\(∀p,RS fs t p (s.2 p))/\s.1.length<=t) ([],λ_=>[]) rfl
  ⟨λp=>⟨λh=>(by cases h),λ⟨k,h,_⟩=>(by lia)⟩,λp=>⟨.nil,λk=>⟨λh=>(by cases h),λh=>(by lia)⟩,.nil⟩,pI _⟩ (λt k s ht hs=>?_) λs hs=>?_
 ·obtain⟨qs,Fn⟩:=s;obtain⟨hq,hF,lq⟩:=hs;dsimp only at hq hF lq;have B6:t<fs.length:=by have:=(kE.mp ht).1;rwa [pE] at this
  rw[uM B6] at ht
  cases ht;generalize es:fs.getD t zQ=S at*;obtain⟨s1,s2,s3⟩:=sq t B6;rw[es] at s1 s2 s3;have F:=hF S.1;have tB:∀k∈Fn S.1,k<fs.length/\(fs.getD k zQ).1=S.1:=λk hk=>((F.mem k).mp hk).2;have lF:(Fn S.1).length<=t:=jI F.nd λk hk=>((F.mem k).mp hk).1;have gf:∀z,(zY (.dT (qs.map kQ) (qs.map λp=>eF (Fn p))) (eQ S.1)).bind (λc=>if c=true then yn (.dT (qs.map kQ) (qs.map λp=>eF (Fn p))) (eQ S.1) else some z)=if S.1∈qs then some (eF (Fn S.1)) else some z:=λz=>by
   rw[xH,kB]
   by_cases c:S.1∈qs
   ·rw[θ (ζ c),θ c,vk (f:=λp=>eF (Fn p)) c]
   ·rw[η (by simp[c]),η c]
  have gf2:(if S.1∈qs then some (eF (Fn S.1)) else some (.list []))=some (eF (Fn S.1)):=by
   by_cases c:S.1∈qs
   ·rw[θ c]
   ·rw[η c];have:Fn S.1=[]:=CH.mpr λk hk=>c ((hq _).mpr ⟨k,(F.mem k).mp hk⟩);rw[this];rfl
  let c:Nat->Bool:=λj=>decide (0<dt S.1 S.2 (fs.getD ((Fn S.1).getD j 0) zQ).2)
  have gj:∀j,j<(Fn S.1).length->(Fn S.1).getD j 0∈Fn S.1:=λj hj=>by rw[kG,kH hj];exact uq hj
  obtain⟨r,e1,e2,e3,e4⟩:=Zm (js:=[0,4,3]) (f:=d2 tW (aj jO (aa (d2 af (dV 3) (dC (.int 0))) (aa (d2 af (dV 3) (dC (.int 1))) (aa (d2 af (d2 af (dV 1) (d2 af (dV 2) (dV 0))) (dC (.int 1))) ae)))) (dC (.int 0))) (g:=aj zq (aa (dV 4) ae)) (Z:=[.fz (.list (fs.map eS)),.ow false 1 (.dT (qs.map kQ) (qs.map λp=>eF (Fn p))),.fz (eN t),.fz (eS S),.fz (.list ((Fn S.1).map eN)),.un]) (ss:=[.fz (.list (fs.map eS)),.fz (.list ((Fn S.1).map eN)),.fz (eS S)]) (c:=c) (n:=(Fn S.1).length) (by dsimp! [yF];rfl) rfl (λj hj=>by
    have hh:=tB _ (gj j hj);have ix1:=ixGI (f:=eN) 0 hj;have ix2:=dH (f:=eS) zQ hh.1;have q:=sq _ hh.1;have sp:∀z:Int,decide (0<aB z)=decide (0<z):=λz=>by
     rcases xr z with⟨h,e⟩|⟨h,e⟩|⟨h,e⟩<;>rw[e]<;>exact ω.mpr (by lia)
    dsimp! [yI,yR,eF,ix1,ix2,Va s1 s2 q.2.1,K7,sp]
    rfl) (λa b ab hb ha=>by
    rcases AW ab with ab|rfl
    ·have ma:=tB _ (gj a (by lia))
     have mb:=tB _ (gj b hb);have u:0<dt S.1 (fs.getD ((Fn S.1).getD a 0) zQ).2 (fs.getD ((Fn S.1).getD b 0) zQ).2:=by
      have:=po.mp F.up a b (by lia) hb ab
      rw[yT 0 (by lia:a<(Fn S.1).length),yT 0 hb]
      exact this
     have qa:=(sq _ ma.1).2.2;have qb:=(sq _ mb.1).2.2;rw[ma.2] at qa;rw[mb.2] at qb;exact ζ (PC s3 qa qb (ξ ha) u)
    ·exact ha)
  obtain⟨c1,c2⟩:=jS (f:=eN) (Fn S.1) r e2
  let nf:=(Fn S.1).take r++[t]++(Fn S.1).drop r
  have lt1:((Fn S.1).take r).length<=t:=by rw[pC];lia
  refine⟨(if S.1∈qs then qs else qs++[S.1],λp=>if p=S.1 then nf else Fn p),?_,λp=>?_,λp=>?_,?_⟩
  ·have lk1:((Fn S.1).take r).length+[t].length<=8000000:=by simp only[QU];lia
   have lk2:((Fn S.1).take r++[t]).length+((Fn S.1).drop r).length<=8000000:=by rw[kW,uF,QU];lia
   have kc1:=dZ (f:=eN) ((Fn S.1).take r) [t] lk1;have kc2:=dZ (f:=eN) ((Fn S.1).take r++[t]) ((Fn S.1).drop r) lk2;have pt:=Lu (f:=λp=>eF (Fn p)) (qs:=qs) (p:=S.1) (v:=.list (((Fn S.1).take r++[t]++(Fn S.1).drop r).map eN)) (yE (by lia))
   rw[Fw] at kc1
   dsimp! [yI,gf,gf2]
   simp only[eF] at e1 pt⊢
   dsimp! [e1,dE,oN,oS,R0,c1,c2,kc1,kc2,yI,pt]
   congr 5
   refine UF λp _=>?_;show _=Dt.list ((if p=S.1 then nf else Fn p).map eN)
   by_cases e:p=S.1
   ·rw[θ e,θ e]
   ·rw[η e,η e]
  ·have kk:(∃k,k<t+1/\k<fs.length/\(fs.getD k zQ).1=p)↔p∈qs\/p=S.1:=by
    rw[hq]
    constructor
    ·rintro⟨k,h1,h2,h3⟩
     by_cases e:k=t
     ·rw[e,es] at h3;exact .inr h3.symm
     ·exact .inl ⟨k,by lia,h2,h3⟩
    ·rintro(⟨k,h1,h2,h3⟩|h)
     ·exact⟨k,by lia,h2,h3⟩
     ·exact⟨t,by lia,B6,by rw[es];exact h.symm⟩
   rw[kk];show p∈(if S.1∈qs then qs else qs++[S.1])↔_
   by_cases c:S.1∈qs
   ·rw[θ c];exact⟨.inl,λh=>h.elim id λh=>h▸c⟩
   ·rw[η c,pD,ki]
  ·show RS fs (t+1) p (if p=S.1 then nf else Fn p)
   by_cases e:p=S.1
   ·rw[θ e];subst e;have mt:t∉Fn S.1:=λz=>by have:=((F.mem t).mp z).1;lia
    have pm:nf.Perm (t::Fn S.1):=by
     show((Fn S.1).take r++[t]++(Fn S.1).drop r).Perm _
     rw[ui,List.singleton_append];refine List.perm_middle.trans ?_;rw[uP]
    refine⟨pm.nodup_iff.mpr (QN.mpr ⟨mt,F.nd⟩),λk=>?_,?_⟩
    ·rw[pm.mem_iff,kg,F.mem]
     constructor
     ·rintro(h|⟨h1,h2,h3⟩)
      ·rw[h];exact⟨by lia,B6,by rw[es]⟩
      ·exact⟨by lia,h2,h3⟩
     ·rintro⟨h1,h2,h3⟩
      by_cases c:k=t
      ·exact .inl c
      ·exact .inr ⟨by lia,h2,h3⟩
    ·show((Fn S.1).take r++[t]++(Fn S.1).drop r).Pairwise _
     have hn:∀k∈Fn S.1,fs.getD k zQ≠S:=λk hk z=>by
      have h1:=(F.mem k).mp hk;have:=jm A.nd zQ h1.2.1 B6 (by rw[z,es])
      lia
     have mS:S∈fs:=by rw[<-es];exact zh B6
     have below:∀k∈(Fn S.1).take r,0<dt S.1 (fs.getD k zQ).2 S.2:=λk hk=>by
      obtain⟨j,hj⟩:=pJ.mp hk;rw[Uw] at hj
      by_cases lj:j<r
      ·rw[θ lj] at hj;have cS:=(kE.mp hj).1;have ej:(Fn S.1).getD j 0=k:=by rw[kG,hj];rfl
       have z:=of_decide_eq_false (e3 j lj);rw[ej] at z;have dw:=UV hk;have hh:=tB k dw;have nz:=A.fan mS (zh hh.1) (λq=>hn k dw q.symm) hh.2.symm;rw[qO];lia
      ·rw[η lj] at hj;cases hj
     have PD:∀k∈(Fn S.1).drop r,0<dt S.1 S.2 (fs.getD k zQ).2:=λk hk=>by
      obtain⟨j,hj⟩:=pJ.mp hk;rw[Uu] at hj;have cS:=(kE.mp hj).1;have ej:(Fn S.1).getD (r+j) 0=k:=by rw[kG,hj];rfl
      have z:=ξ (e4 (r+j) (by lia) cS)
      rw[ej] at z;exact z
     have up:=F.up;rw[<-uP r (Fn S.1),Qs] at up;rw[Qs,Qs];refine⟨⟨up.1,QK _ _,λa ha b hb=>?_⟩,up.2.1,λa ha b hb=>?_⟩
     ·rw[ki.mp hb,es];exact below a ha
     ·rcases pD.mp ha with ha|ha
      ·exact up.2.2 a ha b hb
      ·rw[ki.mp ha,es];exact PD b hb
   ·rw[η e];have F':=hF p;refine⟨F'.nd,λk=>?_,F'.up⟩;rw[F'.mem]
    constructor
    ·rintro⟨h1,h2,h3⟩;exact⟨by lia,h2,h3⟩
    ·rintro⟨h1,h2,h3⟩;refine⟨?_,h2,h3⟩
     by_cases c:k=t
     ·rw[c,es] at h3;exact absurd h3.symm e
     ·lia
  ·show(if S.1∈qs then qs else qs++[S.1]).length<=t+1
   by_cases c:S.1∈qs
   ·rw[θ c];lia
   ·rw[η c,kW,QU];lia
 ·obtain⟨qs,Fn⟩:=s;obtain⟨hq,hF,lq⟩:=hs;dsimp only at hq hF lq;rw[pE] at hq hF
  dsimp! []
  refine⟨_,rfl,qs,Fn,rfl,λp=>?_,hF⟩;rw[hq];exact⟨λ⟨k,h1,_,h3⟩=>⟨k,h1,h3⟩,λ⟨k,h1,h3⟩=>⟨k,h1,h1,h3⟩⟩
end Nu
end
section
namespace Nu
def RU(a b:Q3×Q3):Prop:=(0<=dt a.1 a.2 b.1/\0<=dt a.1 a.2 b.2)\/(dt b.1 b.2 a.1<=0/\dt b.1 b.2 a.2<=0)
theorem yb{a b:Q3}(h:bq a b=true):0<=dX a b:=by
 have:=yV.mp h;unfold Lt LP at this;simp only[UL] at this;lia
theorem wE{a b:Q3}(h:bq b a=false):0<=dX a b:=by
 unfold bq at h;rw[wV] at h;unfold dX;lia
theorem qL{s:Q3×Q3}(h:bq s.1 s.2=true)(l:lvl s=true):0<dX s.1 s.2:=by
 have h0:=yb h;unfold lvl at l;rw[Uf,decide_eq_false_iff_not] at l;unfold dX at*;lia
theorem PH{a b:Q3×Q3}{p:Q3}(ha:0<dX a.1 a.2)(hb:0<dX b.1 b.2)(a1:0<=dX a.1 p)(a2:0<=dX p a.2)(b1:0<=dX b.1 p)(b2:0<=dX p b.2)(h:RU a b):(dt a.1 a.2 p<=0->dt b.1 b.2 p<=0)/\(dt a.1 a.2 p<0->dt b.1 b.2 p<0):=by
 have pos:∀{x y:Int},0<=x->0<=y->0<=x*y:=λh1 h2=>pg h1 h2;have nle:∀{x y:Int},0<y->x*y<=0->x<=0:=λ{x y} hy h=>ES.mp λz=>by have:=uB z hy;lia
 have nlt:∀{x y:Int},0<y->x*y<0->x<0:=λ{x y} hy h=>EU.mp λz=>by have:=pg z (kY hy);lia
 rcases h with⟨h1,h2⟩|⟨h1,h2⟩
 ·have e:=y7 a.1 a.2 b.1 b.2 p;have q1:=pos h1 b2;have q2:=pos h2 b1;refine⟨λz=>nle ha ?_,λz=>nlt ha ?_⟩
  ·have:=pi z (kY hb);lia
  ·have:=pR z hb;lia
 ·have e:=y7 b.1 b.2 a.1 a.2 p;have q1:=pi h1 a2;have q2:=pi h2 a1;refine⟨λz=>nle ha ?_,λz=>nlt ha ?_⟩
  ·have:=pi z (kY hb);lia
  ·have:=pR z hb;lia
theorem wc{x y:Int}(h:aB x=aB y):(0<x/\0<y)\/(x<0/\y<0)\/(x=0/\y=0):=by
 rcases xr x with⟨a,b⟩|⟨a,b⟩|⟨a,b⟩<;>rcases xr y with⟨c,d⟩|⟨c,d⟩|⟨c,d⟩<;>rw[b,d] at h<;>lia
section
variable{m:Nat}{fs:List (Q3×Q3)}(A:Ap m fs){o z:Q3×Q3}{p:Q3}(ho:o∈fs)(hz:z∈fs)
include A ho hz
theorem Yt(hp:p=z.1\/p=z.2)(b1:bq o.1 p=true)(b2:bq o.2 p=false)(h0:dt o.1 o.2 p=0):o.2=p:=by
 obtain⟨o1,o2,o3⟩:=A.ok o ho;obtain⟨z1,z2,z3⟩:=A.ok z hz;have pp:PQ m p:=by rcases hp with e|e<;>rw[e]<;>assumption
 cases b3:bq p o.2 with
 |false=>exact xo o2 pp b2 b3
 |true=>
  exfalso
  have ne:o≠z:=λe=>by
   subst e;rcases hp with e|e
   ·rw[e,zk] at b1;cases b1
   ·rw[e,zk] at b3;cases b3
  have c1:∀{q:Q3},PQ m q->bq q p=true\/q=p->bq q o.2=true:=λ{q} hq h=>by
   rcases h with h|h
   ·exact yA hq pp o2 h b3
   ·rw[h];exact b3
  have c2:∀{q:Q3},PQ m q->bq p q=true\/q=p->bq o.1 q=true:=λ{q} hq h=>by
   rcases h with h|h
   ·exact yA o1 pp hq b1 h
   ·rw[h];exact b1
  have zlo:bq z.1 p=true\/z.1=p:=by
   rcases hp with e|e
   ·exact .inr e.symm
   ·rw[e];exact .inl z3
  have zhi:bq p z.2=true\/z.2=p:=by
   rcases hp with e|e
   ·rw[e];exact .inl z3
   ·exact .inr e.symm
  have k1:=c1 z1 zlo;have k2:=c2 z2 zhi;rcases A.ap o ho z hz ne with q|q|⟨q1,q2⟩
  ·rw[zf k1] at q;cases q
  ·rw[zf k2] at q;cases q
  have col:¬(dt o.1 o.2 z.1=0/\dt o.1 o.2 z.2=0):=λ⟨w1,w2⟩=>by
   rcases q1 ⟨by rw[w1];rfl,by rw[w2];rfl⟩ with q|q
   ·rw[q,zk] at k1;cases k1
   ·rw[q,zk] at k2;cases k2
  have nc:¬(aB (dt o.1 o.2 z.1)=0/\aB (dt o.1 o.2 z.2)=0):=λ⟨w1,w2⟩=>col ⟨zF.mp w1,zF.mp w2⟩;rcases q2 nc with q|q|q
  ·rcases hp with e|e
   ·rw[<-e,h0] at q col;exact col ⟨rfl,zF.mp q.symm⟩
   ·rw[<-e,h0] at q col;exact col ⟨zF.mp q,rfl⟩
  ·have zp:dt z.1 z.2 p=0:=by
    rcases hp with e|e
    ·rw[e];exact yx _ _
    ·rw[e];exact yj _ _
   have e1:=y7 z.1 z.2 o.1 o.2 p;have e2:=ql z.1 z.2 o.1 o.2 p;rw[zp,h0] at e1 e2;simp only[uL,Bg] at e1 e2;have L1:=yV.mp b1;have L2:=yV.mp b3;unfold Lt LP at L1 L2;simp only[UL] at L1 L2;have Ph:dt z.1 z.2 o.1=0/\dt z.1 z.2 o.2=0:=by
    have pos:∀{x y:Int},0<x->0<y->0<x*y:=λh1 h2=>uB h1 h2;rcases wc q with⟨s1,s2⟩|⟨s1,s2⟩|s
    ·exfalso
     rcases L2 with l|⟨l,l'⟩
     ·have:=pos s1 l;have:=pg (kY s2) (yb b1);lia
     ·rw[l,uR] at e1;have f0:dX o.1 p=0:=by
       rcases kj.mp (show dt z.1 z.2 o.2*dX o.1 p=0 by lia) with w|w
       ·lia
       ·exact w
      have f1:0<dY o.1 p:=by lia
      have:=pos s1 l';have:=pos s2 f1;lia
    ·exfalso
     have eE:∀{x y:Int},x<0->0<y->x*y<0:=λh1 h2=>pR h1 h2;rcases L2 with l|⟨l,l'⟩
     ·have:=eE s1 l;have:=pi (kY s2) (yb b1);lia
     ·rw[l,uR] at e1;have f0:dX o.1 p=0:=by
       rcases kj.mp (show dt z.1 z.2 o.2*dX o.1 p=0 by lia) with w|w
       ·lia
       ·exact w
      have f1:0<dY o.1 p:=by lia
      have:=eE s1 l';have:=eE s2 f1;lia
    ·exact s
   exact col (vm z1 z2 z3 Ph.1 Ph.2)
  ·have on:∀{w:Q3},w=o.1\/w=o.2->dt o.1 o.2 w=0:=λ{w} h=>by
    rcases h with e|e
    ·rw[e];exact yx _ _
    ·rw[e];exact yj _ _
   have pz:(p=z.1->dt o.1 o.2 z.1=0)/\(p=z.2->dt o.1 o.2 z.2=0):=⟨λe=>by rw[<-e];exact h0,λe=>by rw[<-e];exact h0⟩
   have n1:o.1≠p:=λe=>by rw[e,zk] at b1;cases b1
   have n2:o.2≠p:=λe=>by rw[e,zk] at b3;cases b3
   rcases hp with e|e
   ·refine col ⟨pz.1 e,on ?_⟩;rcases q with(q|q)|(q|q)
    ·exact absurd (q.trans e.symm) n1
    ·exact .inl q.symm
    ·exact absurd (q.trans e.symm) n2
    ·exact .inr q.symm
   ·refine col ⟨on ?_,pz.2 e⟩;rcases q with(q|q)|(q|q)
    ·exact .inl q.symm
    ·exact absurd (q.trans e.symm) n1
    ·exact .inr q.symm
    ·exact absurd (q.trans e.symm) n2
theorem Lw(lo:0<dX o.1 o.2)(lz:0<dX z.1 z.2)(b1:bq o.1 z.1=true)(b2:bq z.1 o.2=true):(0<dt o.1 o.2 z.1->RU o z)/\(dt o.1 o.2 z.1<0->RU z o):=by
 obtain⟨o1,o2,o3⟩:=A.ok o ho;obtain⟨z1,z2,z3⟩:=A.ok z hz;have ne:o≠z:=λe=>by subst e;rw[zk] at b1;cases b1
 have k2:=yA o1 z1 z2 b1 z3;rcases A.ap o ho z hz ne with q|q|⟨_,q2⟩
 ·rw[zf b2] at q;cases q
 ·rw[zf k2] at q;cases q
 have main:dt o.1 o.2 z.1≠0->aB (dt o.1 o.2 z.1)=aB (dt o.1 o.2 z.2)\/aB (dt z.1 z.2 o.1)=aB (dt z.1 z.2 o.2)\/o.2=z.2:=λnz=>by
  rcases q2 (λw=>nz (zF.mp w.1)) with q|q|(q|q)|q|q
  ·exact .inl q
  ·exact .inr (.inl q)
  ·rw[q,zk] at b1;cases b1
  ·rw[q,zk] at k2;cases k2
  ·rw[q,zk] at b2;cases b2
  ·exact .inr (.inr q)
 have e:=y7 z.1 z.2 o.1 o.2 z.1;rw[yx,uL] at e;have d1:=yb b1;have d2:=yb b2
 constructor
 ·intro h;rcases main (by lia) with q|q|q
  ·rcases wc q with s|s|s
   ·exact .inl ⟨by lia,by lia⟩
   ·lia
   ·lia
  ·have p1:=uB h lz;rcases wc q with s|s|s
   ·have:=pg (kY s.1) d2;have:=pg (kY s.2) d1;lia
   ·exact .inr ⟨by lia,by lia⟩
   ·exact .inr ⟨by lia,by lia⟩
  ·exact .inl ⟨by lia,by rw[<-q,yj];exact gq _⟩
 ·intro h;rcases main (by lia) with q|q|q
  ·rcases wc q with s|s|s
   ·lia
   ·exact .inr ⟨by lia,by lia⟩
   ·lia
  ·have p1:=pR h lz;rcases wc q with s|s|s
   ·exact .inl ⟨by lia,by lia⟩
   ·have:=pi (kY s.1) d2;have:=pi (kY s.2) d1;lia
   ·exact .inl ⟨by lia,by lia⟩
  ·exact .inr ⟨by lia,by rw[<-q,yj];exact gq _⟩
end
end Nu
variable{ms:List Nat}
namespace Nu
noncomputable def sV(x:Nat×Nat):Dt:=.tuple [eN x.1,eN x.2]
noncomputable def xU(fs:List (Q3×Q3))(i j:Nat):Bool:=
 (lvl (fs.getD j zQ)&&(bq (fs.getD j zQ).1 (fs.getD i zQ).1&&(bq (fs.getD i zQ).1 (fs.getD j zQ).2&&decide (dt (fs.getD j zQ).1 (fs.getD j zQ).2 (fs.getD i zQ).1<0))))||
 (decide ((fs.getD j zQ).1=(fs.getD i zQ).1)&&decide (0<dt (fs.getD i zQ).1 (fs.getD i zQ).2 (fs.getD j zQ).2))
noncomputable def xO(fs:List (Q3×Q3))(ms:List Nat)(i:Nat):Nat:=xs (((kM fs.length).filter (xU fs i)).map λj=>ms.getD j 0)
noncomputable def spT(fs:List (Q3×Q3))(ms:List Nat)(i:Nat):Nat×Nat:=(xO fs ms i,xO fs ms i^^^ms.getD i 0)
theorem Ym(a b:Nat):nA (eN a) (eN b)=some (.bool (decide (a<b))):=by
 show some (Dt.bool (decide ((a:Int)<(b:Int))))=_
 congr 2
 exact ω.mpr (by omega)
def PJ(h:Nat):Ic (λi j=>i+j) (eN h) (.int 1)=some (eN (h+1)):=rfl
noncomputable def PK:En->Option Bool:=cT (dB (d2 nA (dV 8) (aj zq (aa (aY 5) ae)))) (dB (d2 sB (d2 af (d2 af (dV 0) (d2 af (aY 5) (dV 8))) (dC (.int 1))) (dV 6)))
noncomputable def whB:En->Option Ou:=tM 8 (Ic λi j=>i+j) (dC (.int 1))
theorem M5{fs:List (Q3×Q3)}{st:List Nat}{p:Q3}(tN:∀k∈st,k<fs.length){x1 x2 x3 x4 x7 x9 x10 x11 x12:Sl}:∀(c h:Nat),(∀k,h<=k->k<h+c->k<st.length/\(fs.getD (st.getD k 0) zQ).2=p)->(h+c<st.length->(fs.getD (st.getD (h+c) 0) zQ).2≠p)->
  di [] PK whB (c+1) [.fz (.list (fs.map eS)),x1,x2,x3,x4,.ow false 1 (.list (st.map eN)),.fz (eQ p),x7,.fz (eN h),x9,x10,x11,x12]=some (.nx [.fz (.list (fs.map eS)),x1,x2,x3,x4,.ow false 1 (.list (st.map eN)),.fz (eQ p),x7,.fz (eN (h+c)),x9,x10,x11,x12])
 |0,h,_,h2=>by
  rw[di]
  by_cases l:h<st.length
  ·have m:=tN _ (show st.getD h 0∈st by rw[yT 0 l];exact uq l)
   have ne:¬(fs.getD (st.getD h 0) zQ).2=p:=h2 l
   dsimp! [PK,yF,Ym,ζ l,dH (f:=eN) 0 l,dH (f:=eS) zQ m,yR,we,ι ne,Bl]
  ·dsimp! [PK,yF,Ym,ι l,Bl]
 |c+1,h,h1,h2=>by
  rw[di];obtain⟨l,e⟩:=h1 h (pI _) (by lia)
  have m:=tN _ (show st.getD h 0∈st by rw[yT 0 l];exact uq l)
  have ih:=M5 tN (p:=p) (x1:=x1) (x2:=x2) (x3:=x3) (x4:=x4) (x7:=x7) (x9:=x9) (x10:=x10) (x11:=x11) (x12:=x12) c (h+1) (λk hk1 A8=>h1 k (by lia) (by lia)) (by rw[show h+1+c=h+(c+1) by lia];exact h2)
  rw[show h+1+c=h+(c+1) by lia] at ih
  have cc:PK [.fz (.list (fs.map eS)),x1,x2,x3,x4,.ow false 1 (.list (st.map eN)),.fz (eQ p),x7,.fz (eN h),x9,x10,x11,x12]=some true:=by
   dsimp! [PK,yF,Ym,ζ l,dH (f:=eN) 0 l,dH (f:=eS) zQ m,yR,we,ζ e]
  have bb:whB [.fz (.list (fs.map eS)),x1,x2,x3,x4,.ow false 1 (.list (st.map eN)),.fz (eQ p),x7,.fz (eN h),x9,x10,x11,x12]=some (.nx [.fz (.list (fs.map eS)),x1,x2,x3,x4,.ow false 1 (.list (st.map eN)),.fz (eQ p),x7,.fz (eN (h+1)),x9,x10,x11,x12]):=by
   dsimp! [whB,PJ]
  rw[cc,kB,θ rfl,bb,kB];exact ih
theorem set_I{α:Type}{f:α->Dt}{l:List α}{i:Nat}(h:i<l.length):L2.ixN (l.map f).length (i:Int)=some i:=by
 unfold L2.ixN;rw[kJ,θ (by lia),θ (by lia)]
 simp
def zax(k:Nat):xa (eN k)=some (k:Int):=rfl
noncomputable def fnB:En->Option Ou:=ao (qg 4 (dV 11) (aN (aa (dV 9) (aa (d2 wI (dV 9) (d2 af (dV 1) (dV 11))) ae)))) (ar 9 (d2 wI (dV 9) (d2 af (dV 1) (dV 11))))
noncomputable def mk(ms:List Nat)(l:List Nat):List Nat:=l.map λj=>ms.getD j 0
theorem WD(h4:∀a∈ms,a<4)(l:List Nat):∀a∈mk ms l,a<4:=λa ha=>by
 obtain⟨j,_,rfl⟩:=kh.mp ha
 by_cases c:j<ms.length
 ·exact h4 _ (by rw[yT 0 c];exact uq c)
 ·rw[kG,uE (by lia)];decide
theorem zeb{K:Ou->Option En}{P:En->Prop}(h4:∀a∈ms,a<4){gl:List Nat}(nd:gl.Nodup){told:List (Nat×Nat)}(hg:∀k∈gl,k<ms.length/\k<told.length){o0:Nat}(ho:o0<4){x0 x2 x3 x5 x6 x7 x8 x10 x11 x12:Sl}
  (k:∀(fK:List (Nat×Nat))(o':Nat)(y11:Sl),fK.length=told.length->(∀i,i∉gl->fK[i]?=told[i]?)->(∀u i,gl[u]?=some i->fK[i]?=some (o0^^^xs (mk ms (gl.take u)),o0^^^xs (mk ms (gl.take u))^^^ms.getD i 0))->
   Gv (K (.nx [x0,.fz (.list (ms.map eN)),x2,x3,.ow false 1 (.list (fK.map sV)),x5,x6,x7,x8,.fz (eN o'),x10,y11,x12])) P):
  Gv ((ym (gN 11) fnB [] (gl.map eN) [x0,.fz (.list (ms.map eN)),x2,x3,.ow false 1 (.list (told.map sV)),x5,x6,x7,x8,.fz (eN o0),x10,x11,x12]).bind K) P:=by
 refine yU (σ:=(List (Nat×Nat)×Nat)×Sl) (λs=>[x0,.fz (.list (ms.map eN)),x2,x3,.ow false 1 (.list (s.1.1.map sV)),x5,x6,x7,x8,.fz (eN s.1.2),x10,s.2,x12])
  (λu s=>s.1.1.length=told.length/\s.1.2=o0^^^xs (mk ms (gl.take u))/\(∀i,i∉gl.take u->s.1.1[i]?=told[i]?)/\∀v i,v<u->gl[v]?=some i->s.1.1[i]?=some (o0^^^xs (mk ms (gl.take v)),o0^^^xs (mk ms (gl.take v))^^^ms.getD i 0)) ((told,o0),x11) rfl
  ⟨rfl,by simp[mk,xs],λi _=>rfl,λv i hv=>by lia⟩ (λu i s hu hs=>?_) λs hs=>?_
 ·obtain⟨⟨T,o⟩,y⟩:=s;obtain⟨j1,j2,j3,j4⟩:=hs;dsimp only at j1 j2 j3 j4;have hi:=hg i (kT hu);have ol:o<4:=by rw[j2];exact(Lr ho (YF (WD h4 _))).2
  have ml:ms.getD i 0<4:=h4 _ (by rw[yT 0 hi.1];exact uq hi.1)
  obtain⟨x1,x2'⟩:=Lr ol ml;have st:=set_I (f:=sV) (l:=T) (i:=i) (by lia)
  refine⟨((T.set i (o,o^^^ms.getD i 0),o^^^ms.getD i 0),.fz (eN i)),?_,?_,?_,λk hk=>?_,λv k hv hk=>?_⟩
  ·dsimp! [fnB,dH (f:=eN) 0 hi.1,x1,qg,zax,st,ET]
   rfl
  ·rw[Qv];exact j1
  ·show o^^^ms.getD i 0=_
   rw[pU,hu,mk,ku,WV,<-Dc,<-mk,<-j2]
   congr 1
   show _=xs [ms.getD i 0]
   rw[xu];simp[xs]
  ·rw[pU,hu] at hk;have ne:i≠k:=λe=>hk (uQ _ (by rw[e];simp))
   rw[hZ ne];exact j3 k λz=>hk (uO _ z)
  ·by_cases e:v=u
   ·subst e;rw[hu] at hk
    cases hk;rw[gJ (by lia),<-j2]
   ·have ne:i≠k:=λz=>by
     subst z;have l1:=(kE.mp hk).1;have l2:=(kE.mp hu).1;have:=jm nd 0 l1 l2 (by rw[kG,kG,hk,hu])
     exact e this
    rw[hZ ne];exact j4 v k (by lia) hk
 ·obtain⟨⟨T,o⟩,y⟩:=s;obtain⟨j1,j2,j3,j4⟩:=hs;dsimp only at j1 j2 j3 j4;rw[uY] at j3;exact k T o y j1 j3 λu i hu=>j4 u i (kE.mp hu).1 hu
end Nu
end
section
variable{os:List Q3}
namespace Nu
def W0{a b:List Nat}(ha:a.Nodup)(hb:b.Nodup)(h:∀k,k∈a↔k∈b):a.Perm b:=(Ax ha hb).mpr h
def Lx{ms a b:List Nat}(h:a.Perm b):xs (mk ms a)=xs (mk ms b):=Ls (h.map _)
def PM(ms a b:List Nat):xs (mk ms (a++b))=xs (mk ms a)^^^xs (mk ms b):=by
 unfold mk;rw[ku,WV]
structure M6(fs:List (Q3×Q3))(dn:List Q3)(st:List Nat):Prop where
 nd:st.Nodup
 mem:∀j,j∈st↔j<fs.length/\lvl (fs.getD j zQ)=true/\(fs.getD j zQ).1∈dn/\(fs.getD j zQ).2∉dn
 up:st.Pairwise λa b=>RU (fs.getD a zQ) (fs.getD b zQ)
variable{fs:List (Q3×Q3)}
theorem M6.cut{m:Nat}(A:Ap m fs)(up:Up os)(ho:∀p,p∈os↔p∈zE fs){t:Nat}{p:Q3}(ht:os[t]?=some p){st:List Nat}(S:M6 fs (os.take t) st):
  (∀j∈st,bq (fs.getD j zQ).1 p=true/\bq (fs.getD j zQ).2 p=false)/\(∀j∈st,dt (fs.getD j zQ).1 (fs.getD j zQ).2 p=0->(fs.getD j zQ).2=p)/\
  ∀a b,a<=b->b<st.length->(dt (fs.getD (st.getD a 0) zQ).1 (fs.getD (st.getD a 0) zQ).2 p<=0->dt (fs.getD (st.getD b 0) zQ).1 (fs.getD (st.getD b 0) zQ).2 p<=0)/\(dt (fs.getD (st.getD a 0) zQ).1 (fs.getD (st.getD a 0) zQ).2 p<0->dt (fs.getD (st.getD b 0) zQ).1 (fs.getD (st.getD b 0) zQ).2 p<0):=by
 have h1:∀j∈st,bq (fs.getD j zQ).1 p=true/\bq (fs.getD j zQ).2 p=false:=λj hj=>by
  obtain⟨l,_,d1,d2⟩:=(S.mem j).mp hj;refine⟨(xy up ht).1 d1,?_⟩
  cases q:bq (fs.getD j zQ).2 p with
  |false=>rfl
  |true=>exact absurd ((xy up ht).2 ((ho _).mpr (yM (zh l)).2) q) d2
 obtain⟨z,hz,hp⟩:∃z∈fs,p=z.1\/p=z.2:=by
  obtain⟨z,hz,h⟩:=Uy.mp ((ho p).mp (kT ht));simp only[kg,QO,or_false] at h;exact⟨z,hz,h⟩
 refine⟨h1,λj hj h0=>Yt A (zh ((S.mem j).mp hj).1) hz hp (h1 j hj).1 (h1 j hj).2 h0,λa b ab hb=>?_⟩;rcases AW ab with ab|rfl
 ·have ma:st.getD a 0∈st:=by rw[yT 0 (by lia)];exact uq _
  have mb:st.getD b 0∈st:=by rw[yT 0 hb];exact uq _
  obtain⟨a1,a2,_⟩:=(S.mem _).mp ma;obtain⟨b1,b2,_⟩:=(S.mem _).mp mb;have u:=po.mp S.up a b (by lia) hb ab
  rw[<-yT 0 (by lia:a<st.length),<-yT 0 hb] at u
  exact PH (qL (A.ok _ (zh a1)).2.2 a2) (qL (A.ok _ (zh b1)).2.2 b2) (yb (h1 _ ma).1) (wE (h1 _ ma).2) (yb (h1 _ mb).1) (wE (h1 _ mb).2) u
 ·exact⟨id,id⟩
theorem M6.next{m:Nat}(A:Ap m fs)(up:Up os)(ho:∀p,p∈os↔p∈zE fs){t:Nat}{p:Q3}(ht:os[t]?=some p){st:List Nat}(S:M6 fs (os.take t) st){fan:List Nat}(F:RS fs fs.length p fan){lo hi:Nat}(h1:lo<=hi)(h2:hi<=st.length)
  (c1:∀k,k<lo->0<dt (fs.getD (st.getD k 0) zQ).1 (fs.getD (st.getD k 0) zQ).2 p)(c2:∀k,lo<=k->k<hi->(fs.getD (st.getD k 0) zQ).2=p)(c3:∀k,hi<=k->k<st.length->dt (fs.getD (st.getD k 0) zQ).1 (fs.getD (st.getD k 0) zQ).2 p<0):M6 fs (os.take (t+1)) (st.take lo++fan.filter (λk=>lvl (fs.getD k zQ))++st.drop hi):=by
 obtain⟨b1,z1,_⟩:=S.cut A up ho ht;have et:∀r,r∈os.take (t+1)↔r∈os.take t\/r=p:=λr=>by rw[pU,ht,pD];simp
 have np:p∉os.take t:=λz=>by have:=(xy up ht).1 z;rw[zk] at this;cases this
 have Lz:∀j∈st.take lo,j∈st/\0<dt (fs.getD j zQ).1 (fs.getD j zQ).2 p:=λj hj=>by
  obtain⟨k,hk⟩:=pJ.mp hj;rw[Uw] at hk
  by_cases l:k<lo
  ·rw[θ l] at hk;have e:st.getD k 0=j:=by rw[kG,hk];rfl
   exact⟨kT hk,e▸c1 k l⟩
  ·rw[η l] at hk;cases hk
 have LB:∀j∈st.drop hi,j∈st/\dt (fs.getD j zQ).1 (fs.getD j zQ).2 p<0:=λj hj=>by
  obtain⟨k,hk⟩:=pJ.mp hj;rw[Uu] at hk;have e:st.getD (hi+k) 0=j:=by rw[kG,hk];rfl
  exact⟨kT hk,e▸c3 (hi+k) (by lia) (kE.mp hk).1⟩
 have fL:∀j∈(fan.filter (λk=>lvl (fs.getD k zQ))),j<fs.length/\(fs.getD j zQ).1=p/\lvl (fs.getD j zQ)=true:=λj hj=>by
  obtain⟨a,b⟩:=ke.mp hj;obtain⟨_,c,d⟩:=(F.mem j).mp a;exact⟨c,d,b⟩
 have nst:∀j∈st,(fs.getD j zQ).1≠p:=λj hj e=>np (e▸((S.mem j).mp hj).2.2.1);have sp3:st=st.take lo++((st.drop lo).take (hi-lo)++st.drop hi):=by
  conv=>lhs;rw[<-uP lo st]
  congr 1
  conv=>lhs;rw[<-uP (hi-lo) (st.drop lo),AL]
  rw[show lo+(hi-lo)=hi by lia]
 have nd3:=S.nd;rw[sp3,QG] at nd3;have Ol:=S.up;rw[sp3,Qs] at Ol;have bef2:∀j∈st,dt (fs.getD j zQ).1 (fs.getD j zQ).2 p≠0->bq p (fs.getD j zQ).2=true:=λj hj nz=>by
  cases q:bq p (fs.getD j zQ).2 with
  |true=>rfl
  |false=>
   have l:=((S.mem j).mp hj).1;have pp:PQ m p:=A.ok.pts p ((ho p).mp (kT ht));have:=xo pp (A.ok _ (zh l)).2.1 q (b1 j hj).2;exact absurd (by rw[this];exact yj _ _) nz
 refine⟨?_,λj=>?_,?_⟩
 ·rw[QG,QG];refine⟨⟨nd3.1,F.nd.filter _,λa ha b hb e=>?_⟩,(List.nodup_append.mp nd3.2.1).2.1,λa ha b hb e=>?_⟩
  ·subst e;exact nst a (Lz a ha).1 (fL a hb).2.1
  ·subst e;rcases pD.mp ha with ha|ha
   ·exact nd3.2.2 a ha a (uQ _ hb) rfl
   ·exact nst a (LB a hb).1 (fL a ha).2.1
 ·rw[pD,pD]
  constructor
  ·have key:∀j∈st,dt (fs.getD j zQ).1 (fs.getD j zQ).2 p≠0->j<fs.length/\lvl (fs.getD j zQ)=true/\(fs.getD j zQ).1∈os.take (t+1)/\(fs.getD j zQ).2∉os.take (t+1):=λj hj nz=>by
    obtain⟨a,b,c,d⟩:=(S.mem j).mp hj;refine⟨a,b,(et _).mpr (.inl c),λz=>?_⟩;rcases(et _).mp z with z|z
    ·exact d z
    ·exact nz (by rw[<-z];exact yj _ _)
   rintro((h|h)|h)
   ·exact key j (Lz j h).1 (by have:=(Lz j h).2;lia)
   ·obtain⟨a,b,c⟩:=fL j h;refine⟨a,c,(et _).mpr (.inr b),λz=>?_⟩;have k3:=(A.ok _ (zh a)).2.2;rw[b] at k3;rcases(et _).mp z with z|z
    ·have:=(xy up ht).1 z;rw[zf k3] at this;cases this
    ·rw[z,zk] at k3;cases k3
   ·exact key j (LB j h).1 (by have:=(LB j h).2;lia)
  ·rintro⟨a,b,c,d⟩;rcases(et _).mp c with c|c
   ·have hj:j∈st:=(S.mem j).mpr ⟨a,b,c,λz=>d ((et _).mpr (.inl z))⟩;rw[sp3] at hj;rcases pD.mp hj with hj|hj
    ·exact .inl (.inl hj)
    ·rcases pD.mp hj with hj|hj
     ·exfalso
      obtain⟨k,hk⟩:=pJ.mp hj;rw[Uw] at hk
      by_cases l:k<hi-lo
      ·rw[θ l,Uu] at hk;have e:st.getD (lo+k) 0=j:=by rw[kG,hk];rfl
       have:=c2 (lo+k) (by lia) (by lia)
       rw[e] at this;exact d ((et _).mpr (.inr this))
      ·rw[η l] at hk;cases hk
     ·exact .inr hj
   ·exact .inl (.inr (ke.mpr ⟨(F.mem j).mpr ⟨a,a,c⟩,b⟩))
 ·rw[Qs,Qs];have nw:∀o∈st,∀z∈(fan.filter (λk=>lvl (fs.getD k zQ))),dt (fs.getD o zQ).1 (fs.getD o zQ).2 p≠0->(0<dt (fs.getD o zQ).1 (fs.getD o zQ).2 p->RU (fs.getD o zQ) (fs.getD z zQ))/\(dt (fs.getD o zQ).1 (fs.getD o zQ).2 p<0->RU (fs.getD z zQ) (fs.getD o zQ)):=λo Mf z hz nz=>by
   obtain⟨oa,ob,_⟩:=(S.mem o).mp Mf;obtain⟨za,zb,zc⟩:=fL z hz;have:=Lw A (zh oa) (zh za) (qL (A.ok _ (zh oa)).2.2 ob) (qL (A.ok _ (zh za)).2.2 zc) (by rw[zb];exact(b1 o Mf).1) (by rw[zb];exact bef2 o Mf nz)
   rw[zb] at this;exact this
  refine⟨⟨Ol.1,?_,λa ha b hb=>?_⟩,(List.pairwise_append.mp Ol.2.1).2.1,λa ha b hb=>?_⟩
  ·refine AG (λ{a b} ha hb h=>?_) (Qe _ F.up);obtain⟨_,a2,_⟩:=fL a ha;obtain⟨_,b2,_⟩:=fL b hb;refine .inl ⟨?_,?_⟩
   ·rw[b2,<-a2,yx];exact gq _
   ·rw[a2];exact kY h
  ·obtain⟨k1,k2⟩:=Lz a ha;exact(nw a k1 b hb (by lia)).1 k2
  ·rcases pD.mp ha with ha|ha
   ·exact Ol.2.2 a ha b (uQ _ hb)
   ·obtain⟨k1,k2⟩:=LB b hb;exact(nw b k1 a ha (by lia)).2 k2
end Nu
end
section
variable{fs:List (Q3×Q3)}
namespace Nu
theorem M6.over{m:Nat}(A:Ap m fs){os:List Q3}(up:Up os)(ho:∀p,p∈os↔p∈zE fs){t:Nat}{p:Q3}(ht:os[t]?=some p){st:List Nat}(S:M6 fs (os.take t) st){lo hi:Nat}(h2:hi<=st.length)
  (c1:∀k,k<lo->0<dt (fs.getD (st.getD k 0) zQ).1 (fs.getD (st.getD k 0) zQ).2 p)(c2:∀k,lo<=k->k<hi->(fs.getD (st.getD k 0) zQ).2=p)(c3:∀k,hi<=k->k<st.length->dt (fs.getD (st.getD k 0) zQ).1 (fs.getD (st.getD k 0) zQ).2 p<0)(j:Nat):
  j∈st.drop hi↔j<fs.length/\lvl (fs.getD j zQ)=true/\bq (fs.getD j zQ).1 p=true/\bq p (fs.getD j zQ).2=true/\dt (fs.getD j zQ).1 (fs.getD j zQ).2 p<0:=by
 obtain⟨b1,z1,_⟩:=S.cut A up ho ht
 constructor
 ·intro hj;obtain⟨k,hk⟩:=pJ.mp hj;rw[Uu] at hk;have e:st.getD (hi+k) 0=j:=by rw[kG,hk];rfl
  have d:=c3 (hi+k) (by lia) (kE.mp hk).1
  rw[e] at d;have hm:=kT hk;obtain⟨a,b,_,_⟩:=(S.mem j).mp hm;refine⟨a,b,(b1 j hm).1,?_,d⟩
  cases q:bq p (fs.getD j zQ).2 with
  |true=>rfl
  |false=>
   have pp:PQ m p:=A.ok.pts p ((ho p).mp (kT ht));have:=xo pp (A.ok _ (zh a)).2.1 q (b1 j hm).2;rw[this,yj] at d;lia
 ·rintro⟨a,b,c,d,e⟩;have hj:j∈st:=(S.mem j).mpr ⟨a,b,(xy up ht).2 ((ho _).mpr (yM (zh a)).1) c,λz=>by have:=(xy up ht).1 z;rw[zf d] at this;cases this⟩
  obtain⟨k,hk⟩:=pJ.mp hj;have ek:st.getD k 0=j:=by rw[kG,hk];rfl
  have kl:=(kE.mp hk).1;have:hi<=k:=by
   refine Hd.mp λz=>?_
   by_cases w:k<lo
   ·have:=c1 k w;rw[ek] at this;lia
   ·have:=c2 k (by lia) z
    rw[ek] at this;rw[this,zk] at d
    cases d
  refine pJ.mpr ⟨k-hi,?_⟩;rw[Uu,show hi+(k-hi)=k by lia]
  exact hk
theorem RS.behind{m:Nat}{p:Q3}{fan:List Nat}(F:RS fs fs.length p fan){u i:Nat}(hu:fan.reverse[u]?=some i)(j:Nat):j∈fan.reverse.take u↔j<fs.length/\(fs.getD j zQ).1=p/\0<dt p (fs.getD i zQ).2 (fs.getD j zQ).2:=by
 have up:=List.pairwise_reverse.mpr F.up;have Nf:=(kE.mp hu).1;have at':∀{v x},fan.reverse[v]?=some x->x∈fan:=λh=>QP.mp (kT h);have pw:∀{v w x y:Nat},v<w->fan.reverse[v]?=some x->fan.reverse[w]?=some y->0<dt p (fs.getD y zQ).2 (fs.getD x zQ).2:=λ{v w x y} vw hx hy=>by
  obtain⟨l1,e1⟩:=kE.mp hx;obtain⟨l2,e2⟩:=kE.mp hy;have:=po.mp up v w l1 l2 vw;rw[e1,e2] at this;exact this
 constructor
 ·intro h;obtain⟨v,hv⟩:=pJ.mp h;rw[Uw] at hv
  by_cases l:v<u
  ·rw[θ l] at hv;obtain⟨_,a,b⟩:=(F.mem j).mp (at' hv);exact⟨a,b,pw l hv hu⟩
  ·rw[η l] at hv;cases hv
 ·rintro⟨a,b,c⟩;obtain⟨v,hv⟩:=pJ.mp (QP.mpr ((F.mem j).mpr ⟨a,a,b⟩));have:v<u:=by
   refine Nat.not_le.mp λz=>?_;rcases AW z with z|z
   ·have:=pw z hu hv;rw[qO] at this;lia
   ·subst z;rw[hu] at hv
    cases hv;rw[wA] at c;lia
  exact pJ.mpr ⟨v,by rw[Uw,θ this];exact hv⟩
def Zw{l:List Nat}(h:l.Nodup):l.reverse.Nodup:=(Ao l).nodup_iff.mpr h
def Xu(k:Nat):R0 (eN k)=some (some (k:Int)):=rfl
theorem PN(z:Int):decide (aB z<=0)=decide (z<=0):=by
 rcases xr z with⟨h,e⟩|⟨h,e⟩|⟨h,e⟩<;>rw[e]<;>exact ω.mpr (by lia)
theorem zd2{m:Nat}(hm:m<=8999)(A:Ap m fs)(hl:fs.length<=1900000){ms:List Nat}(hms:ms.length=fs.length)(h4:∀a∈ms,a<4):bV [.list (fs.map eS),.list (ms.map eN)]=some (.list ((kM fs.length).map λi=>sV (spT fs ms i))):=by
 suffices Gv (bV [.list (fs.map eS),.list (ms.map eN)]) λd=>d=.list ((kM fs.length).map λi=>sV (spT fs ms i)) by obtain⟨d,e,rfl⟩:=this;exact e
 have sq:∀k,k<fs.length->SQ (fs.getD k zQ).1/\SQ (fs.getD k zQ).2:=λk hk=>by
  obtain⟨h1,h2,h3⟩:=A.ok _ (zh hk);exact⟨SQ.of h1 (by lia),SQ.of h2 (by lia)⟩
 obtain⟨df,ef,qs,Fn,rfl,hq,hF⟩:=Lv (by lia) A (by lia)
 obtain⟨d0,ei,os,rfl,up,ho,lo'⟩:=VM hm A.ok.pts (by rw[Zd];lia)
 generalize edf:Dt.dT (qs.map kQ) (qs.map λp=>eF (Fn p))=df at*;unfold bV
 dsimp! []
 rw[yH (e:=eS) (h:=λs=>eL s.1 s.2) λs hs=>by
  obtain⟨h1,h2,_⟩:=A.ok s hs
  dsimp! [yI,yR,YX (SQ.of h1 (by lia)) (SQ.of h2 (by lia))]]
 dsimp! [ef]
 rw[yH (e:=eS) (h:=λ_=>sV (0,0)) λs hs=>rfl]
 dsimp! [Ze (show fs.length<=2000000 by lia),ei]
 rw[uJ];refine xA (σ:=(List (Nat×Nat)×List Nat)×Sl) (λs=>[.fz (.list (fs.map eS)),.fz (.list (ms.map eN)),.ow false 1 (.list (fs.map λs=>eL s.1 s.2)),.fz df,.ow false 1 (.list (s.1.1.map sV)),.ow false 1 (.list (s.1.2.map eN)),.un,.un,.un,.un,.un,s.2,.un])
  (λt s=>s.1.1.length=fs.length/\(∀i,i<fs.length->(fs.getD i zQ).1∈os.take t->s.1.1[i]?=some (spT fs ms i))/\M6 fs (os.take t) s.1.2) ((fs.map λ_=>(0,0),[]),.un) (by rw[uc];rfl)
  ⟨by rw[kJ],λi _ h=>(by rw[Bq] at h;cases h),.nil,λj=>⟨λh=>(by cases h),λh=>(by rw[Bq] at h;cases h.2.2.1)⟩,.nil⟩ (λt p s ht hs=>?_) λs hs=>?_
 ·obtain⟨⟨told,st⟩,s11⟩:=s;obtain⟨j1,j2,S⟩:=hs;dsimp only at j1 j2 S;obtain⟨b1,z1,mono⟩:=S.cut A up ho ht;have tN:∀k∈st,k<fs.length:=λk hk=>((S.mem k).mp hk).1;have lst:st.length<=fs.length:=jI S.nd tN;have pp:PQ m p:=A.ok.pts p ((ho p).mp (kT ht));have sp:=SQ.of pp (by lia:m<=100000)
  have gst:∀k,k<st.length->st.getD k 0∈st:=λk hk=>by rw[yT 0 hk];exact uq hk
  let c:Nat->Bool:=λk=>decide (dt (fs.getD (st.getD k 0) zQ).1 (fs.getD (st.getD k 0) zQ).2 p<=0)
  obtain⟨lo,e1,e2,e3,e4⟩:=Zm (js:=[5,2,6]) (f:=d2 H2 (aj xD (aa (d2 af (aY 2) (d2 af (aY 1) (dV 0))) (aa (dV 3) ae))) (dC (.int 0))) (g:=aj zq (aa (aY 5) ae)) (Z:=[.fz (.list (fs.map eS)),.fz (.list (ms.map eN)),.ow false 1 (.list (fs.map λs=>eL s.1 s.2)),.fz df,.ow false 1 (.list (told.map sV)),.ow false 1 (.list (st.map eN)),.fz (eQ p),.un,.un,.un,.un,s11,.un]) (ss:=[.rd (.list (st.map eN)),.rd (.list (fs.map λs=>eL s.1 s.2)),.fz (eQ p)]) (c:=c) (n:=st.length) (by dsimp! [yF];rfl) rfl (λk hk=>by
    have A8:=tN _ (gst k hk)
    dsimp! [ixGI (f:=eN) 0 hk,dH (f:=λs:Q3×Q3=>eL s.1 s.2) zQ A8,jd (sq _ A8).1 (sq _ A8).2 sp,U4,PN]
    rfl) (λa b ab hb ha=>ζ ((mono a b ab hb).1 (ξ ha)))
  have e1:wu [5,2,6] (d2 H2 (aj xD (aa (d2 af (aY 2) (d2 af (aY 1) (dV 0))) (aa (dV 3) ae))) (dC (.int 0))) (aj zq (aa (aY 5) ae)) [.fz (.list (fs.map eS)),.fz (.list (ms.map eN)),.ow false 1 (.list (fs.map λs=>eL s.1 s.2)),.fz df,.ow false 1 (.list (told.map sV)),.ow false 1 (.list (st.map eN)),.fz (eQ p),.un,.un,.un,.un,s11,.un]=some (eN lo):=e1;obtain⟨cnt,w1,w2,w3⟩:∃cnt,lo+cnt<=st.length/\(∀k,lo<=k->k<lo+cnt->k<st.length/\(fs.getD (st.getD k 0) zQ).2=p)/\(lo+cnt<st.length->(fs.getD (st.getD (lo+cnt) 0) zQ).2≠p):=by
   have:∀r,∃cnt,cnt<=r/\(lo+r<=st.length->lo+cnt<=st.length/\(∀k,lo<=k->k<lo+cnt->k<st.length/\(fs.getD (st.getD k 0) zQ).2=p)/\(cnt<r->(fs.getD (st.getD (lo+cnt) 0) zQ).2≠p)):=λr=>by
    induction r with
    |zero=>exact⟨0,pI _,λh=>⟨h,λk a b=>by lia,λh=>by lia⟩⟩
    |succ r ih=>
     obtain⟨cnt,i1,i2⟩:=ih
     by_cases f:cnt<r
     ·exact⟨cnt,by lia,λh=>let⟨a,b,d⟩:=i2 (by lia);⟨a,b,λ_=>d f⟩⟩
     ·have ec:cnt=r:=by lia
      subst ec
      by_cases g:lo+cnt<st.length/\(fs.getD (st.getD (lo+cnt) 0) zQ).2=p
      ·refine⟨cnt+1,pI _,λh=>?_⟩;obtain⟨a,b,_⟩:=i2 (by lia)
       refine⟨by lia,λk k1 k2=>?_,λz=>by lia⟩
       by_cases q:k<lo+cnt
       ·exact b k k1 q
       ·have:k=lo+cnt:=by lia
        rw[this];exact g
      ·refine⟨cnt,by lia,λh=>?_⟩
       obtain⟨a,b,_⟩:=i2 (by lia)
       exact⟨a,b,λ_ z=>g ⟨by lia,z⟩⟩
   obtain⟨cnt,i1,i2⟩:=this (st.length-lo);obtain⟨a,b,d⟩:=i2 (by lia)
   exact⟨cnt,a,b,λz=>d (by lia)⟩
  have hhi:lo+cnt<=st.length:=w1;have c1:∀k,k<lo->0<dt (fs.getD (st.getD k 0) zQ).1 (fs.getD (st.getD k 0) zQ).2 p:=λk hk=>by have:=of_decide_eq_false (e3 k hk);lia
  have c2:∀k,lo<=k->k<lo+cnt->(fs.getD (st.getD k 0) zQ).2=p:=λk h1 h2=>(w2 k h1 h2).2;have c3:∀k,lo+cnt<=k->k<st.length->dt (fs.getD (st.getD k 0) zQ).1 (fs.getD (st.getD k 0) zQ).2 p<0:=λk h1 h2=>by
   refine(mono (lo+cnt) k h1 h2).2 ?_;have l0:lo+cnt<st.length:=by lia
   have q:=ξ (e4 (lo+cnt) (by lia) l0)
   have q2:dt (fs.getD (st.getD (lo+cnt) 0) zQ).1 (fs.getD (st.getD (lo+cnt) 0) zQ).2 p≠0:=λz=>w3 l0 (z1 _ (gst _ l0) z);lia
  have wh:=qA (M5 (fs:=fs) (st:=st) (p:=p) tN (x1:=.fz (.list (ms.map eN))) (x2:=.ow false 1 (.list (fs.map λs=>eL s.1 s.2))) (x3:=.fz df) (x4:=.ow false 1 (.list (told.map sV))) (x7:=.fz (eN lo)) (x9:=.un) (x10:=.un) (x11:=s11) (x12:=.un) cnt lo w2 w3) (2000000-(cnt+1));rw[show cnt+1+(2000000-(cnt+1))=2000000 by lia] at wh
  have wh:jo 2000000 [] PK whB _=_:=wh;unfold PK whB tM at wh;generalize ehi:lo+cnt=hi at*;obtain⟨_,cu2⟩:=jS (f:=eN) st hi hhi;obtain⟨cu1,_⟩:=jS (f:=eN) st lo (by lia)
  have mx:=zdg (WD h4 (st.drop hi));have gf:(zY df (eQ p)).bind (λc=>if c=true then yn df (eQ p) else some (.list []))=some (.list ((Fn p).map eN)):=by
   rw[<-edf,xH,kB]
   by_cases c:p∈qs
   ·rw[θ (ζ c),vk (f:=λp=>eF (Fn p)) c];rfl
   ·rw[η (by simp[c])]
    have:Fn p=[]:=CH.mpr λk hk=>c ((hq _).mpr ⟨k,((hF p).mem k).mp hk|>.1,((hF p).mem k).mp hk|>.2.2⟩);rw[this];rfl
  have F:=hF p;have hfl:∀k∈Fn p,k<fs.length:=λk hk=>((F.mem k).mp hk).1;have lfan:(Fn p).length<=fs.length:=jI F.nd hfl;have rv:C8 [.list ((Fn p).map eN)]=some ((Fn p).reverse.map eN):=by
   show some ((Fn p).map eN).reverse=_
   rw[Gq]
  dsimp! [e1,wh,dE,Xu,oS,oN,cu2]
  rw[yH (e:=eN) (h:=λj=>eN (ms.getD j 0)) λj hj=>by
   dsimp! [dH (f:=eN) 0 (show j<ms.length by rw[hms];exact tN j (Au hj))]]
  rw[show(st.drop hi).map (λj=>eN (ms.getD j 0))=(mk ms (st.drop hi)).map eN by unfold mk;rw[uc];rfl]
  dsimp! [mx,gf,rv]
  rw[uJ,<-fnB];refine zeb h4 (Zw F.nd) (λk hk=>by have:=hfl k (QP.mp hk);lia) (YF (WD h4 _)) λfK o' y11 k1 k2 k3=>?_
  dsimp! []
  rw[wB (e:=eN) (h:=eN) (c:=λk=>lvl (fs.getD k zQ)) λk hk=>by
   have:=hfl k hk
   dsimp! [dH (f:=eS) zQ this,PB (sq k this).1 (sq k this).2,IE]
   split<;>rfl]
  have ll:((Fn p).filter λk=>lvl (fs.getD k zQ)).length<=fs.length:=uK (pZ _ _) lfan;have kc1:=dZ (f:=eN) (st.take lo) ((Fn p).filter λk=>lvl (fs.getD k zQ)) (by rw[pC];lia)
  have kc2:=dZ (f:=eN) (st.take lo++(Fn p).filter λk=>lvl (fs.getD k zQ)) (st.drop hi) (by rw[kW,pC,uF];lia)
  dsimp! [dE,Xu,oS,oN,cu1,cu2,kc1,kc2]
  refine⟨_,rfl,((fK,st.take lo++(Fn p).filter (λk=>lvl (fs.getD k zQ))++st.drop hi),y11),rfl,k1.trans j1,λi cq dW=>?_,S.next A up ho ht F (by lia) hhi c1 c2 c3⟩
  dsimp only
  by_cases e:(fs.getD i zQ).1=p
  ·have mi:i∈Fn p:=(F.mem i).mpr ⟨cq,cq,e⟩;obtain⟨u,hu⟩:=pJ.mp (QP.mpr mi);have key:xs (mk ms (st.drop hi))^^^xs (mk ms ((Fn p).reverse.take u))=xO fs ms i:=by
    rw[<-PM];refine Lx (W0 ?_ (List.nodup_range.filter _) λj=>?_)
    ·refine QG.mpr ⟨S.nd.sublist (List.drop_sublist _ _),(Zw F.nd).sublist (DI _ _),λa ha b hb z=>?_⟩;subst z;have x1:=((S.over A up ho ht hhi c1 c2 c3 a).mp ha).2.2.1;have x2:=((F.behind (m:=m) hu a).mp hb).2.1;rw[x2,zk] at x1
     cases x1
    ·rw[pD,S.over A up ho ht hhi c1 c2 c3,F.behind (m:=m) hu,ke,pe];unfold xU;rw[e];simp only[Bool.or_eq_true,ue,τ]
     constructor
     ·rintro(⟨a,b,c',d,f⟩|⟨a,b,c'⟩)
      ·exact⟨a,.inl ⟨b,c',d,f⟩⟩
      ·exact⟨a,.inr ⟨b,c'⟩⟩
     ·rintro⟨a,⟨b,c',d,f⟩|⟨b,c'⟩⟩
      ·exact .inl ⟨a,b,c',d,f⟩
      ·exact .inr ⟨a,b,c'⟩
   rw[k3 u i hu,key];rfl
  ·have nf:i∉(Fn p).reverse:=λz=>e ((F.mem i).mp (QP.mp z)).2.2;rw[k2 i nf];refine j2 i cq ?_;rw[pU,ht,pD] at dW;rcases dW with z|z
   ·exact z
   ·exact absurd (by simpa using z) e
 ·obtain⟨⟨told,st⟩,s11⟩:=s;obtain⟨j1,j2,S⟩:=hs;dsimp only at j1 j2 S;rw[uY] at j2
  dsimp! []
  refine⟨_,rfl,?_⟩
  congr 1
  refine UH λi=>?_;rw[kX,kX]
  by_cases l:i<fs.length
  ·rw[j2 i l ((ho _).mpr (yM (zh l)).1),uM l];rfl
  ·rw[uE (by lia),uE (by rw[pE];lia)];rfl
end Nu
end
section
namespace Nu
noncomputable def aX(s:Q3×Q3)(q:Q3):Bool:=decide (0<=dX s.1 q)&&(decide (0<dX q s.2)&&decide (dt s.1 s.2 q<0))
theorem yv{x y:Int}(hy:0<y):(0<x*y↔0<x)/\(x*y<0↔x<0):=by
 constructor
 ·exact⟨λh=>EU.mp λz=>by have:=pi z (kY hy);lia,λh=>uB h hy⟩
 ·exact⟨λh=>EU.mp λz=>by have:=pg z (kY hy);lia,λh=>pR h hy⟩
section
variable{m:Nat}{fs:List (Q3×Q3)}(A:Ap m fs){a s:Q3×Q3}{M:Q3}(ha:a∈fs)(hs:s∈fs)
include A ha hs
theorem Z5(la:0<dX a.1 a.2)(h1:bq s.1 a.2=true)(h2:bq a.1 s.2=true)(ne:a≠s)(M0:dt a.1 a.2 M=0)(M1:0<dX a.1 M)(M2:0<dX M a.2)(nz:dX s.1 M=0->dt a.1 a.2 s.1≠0):
  ∃up:Bool,(∀v,v=s.1\/v=s.2->0<=dX a.1 v->0<=dX v a.2->dt a.1 a.2 v≠0->(0<dt a.1 a.2 v↔up=true))/\
   (0<=dX s.1 a.1->0<=dX a.1 s.2->dt s.1 s.2 a.1≠0->(dt s.1 s.2 a.1<0↔up=true))/\
   (0<=dX s.1 M->0<dX M s.2->(dt s.1 s.2 M<0↔up=true)):=by
 obtain⟨a1,a2,a3⟩:=A.ok a ha;obtain⟨s1,s2,s3⟩:=A.ok s hs;have eM:=y7 a.1 a.2 s.1 s.2 M;have eP:=y7 a.1 a.2 s.1 s.2 a.1;have fM:=y7 s.1 s.2 a.1 a.2 M;rw[M0] at eM fM;rw[yx] at eP;simp only[uL,Bg] at eM eP fM;have pos:∀{x y:Int},0<=x->0<=y->0<=x*y:=λh1 h2=>pg h1 h2;have PP:∀{x y:Int},x<=0->0<=y->x*y<=0:=λh1 h2=>pi h1 h2;have G9:∀{x y:Int},0<x->0<y->0<x*y:=λh1 h2=>uB h1 h2;have H0:∀{x y:Int},x<0->0<y->x*y<0:=λh1 h2=>pR h1 h2;rcases A.ap a ha s hs ne with q|q|⟨q1,q2⟩
 ·rw[zf h1] at q;cases q
 ·rw[zf h2] at q;cases q
 have col:¬(dt a.1 a.2 s.1=0/\dt a.1 a.2 s.2=0):=λ⟨w1,w2⟩=>by
  rcases q1 ⟨by rw[w1];rfl,by rw[w2];rfl⟩ with q|q
  ·rw[q,zk] at h1;cases h1
  ·rw[q,zk] at h2;cases h2
 have nc:¬(aB (dt a.1 a.2 s.1)=0/\aB (dt a.1 a.2 s.2)=0):=λ⟨w1,w2⟩=>col ⟨zF.mp w1,zF.mp w2⟩;have U:0<=dt a.1 a.2 s.1->0<=dt a.1 a.2 s.2->∃up:Bool,(∀v,v=s.1\/v=s.2->0<=dX a.1 v->0<=dX v a.2->dt a.1 a.2 v≠0->(0<dt a.1 a.2 v↔up=true))/\(0<=dX s.1 a.1->0<=dX a.1 s.2->dt s.1 s.2 a.1≠0->(dt s.1 s.2 a.1<0↔up=true))/\(0<=dX s.1 M->0<dX M s.2->(dt s.1 s.2 M<0↔up=true)):=λd1 d2=>by
  refine⟨true,λv hv _ _ n=>⟨λ_=>rfl,λ_=>?_⟩,λx1 x2 n=>⟨λ_=>rfl,λ_=>?_⟩,λx1 x2=>⟨λ_=>rfl,λ_=>?_⟩⟩
  ·rcases hv with e|e<;>rw[e] at n⊢<;>lia
  ·grind
  ·refine(yv la).2.mp ?_;have p1:=pos d1 (kY x2);have p2:=pos d2 x1
   by_cases z:dt a.1 a.2 s.1=0
   ·have n1:dX s.1 M≠0:=λw=>nz w z;have n2:dt a.1 a.2 s.2≠0:=λw=>col ⟨z,w⟩;have:=G9 (show 0<dt a.1 a.2 s.2 by lia) (show 0<dX s.1 M by lia)
    lia
   ·have:=G9 (show 0<dt a.1 a.2 s.1 by lia) x2
    lia
 have Dn:dt a.1 a.2 s.1<=0->dt a.1 a.2 s.2<=0->∃up:Bool,(∀v,v=s.1\/v=s.2->0<=dX a.1 v->0<=dX v a.2->dt a.1 a.2 v≠0->(0<dt a.1 a.2 v↔up=true))/\(0<=dX s.1 a.1->0<=dX a.1 s.2->dt s.1 s.2 a.1≠0->(dt s.1 s.2 a.1<0↔up=true))/\(0<=dX s.1 M->0<dX M s.2->(dt s.1 s.2 M<0↔up=true)):=λd1 d2=>by
  refine⟨false,λv hv _ _ n=>⟨λz=>?_,λz=>(by cases z)⟩,λx1 x2 n=>⟨λz=>?_,λz=>(by cases z)⟩,λx1 x2=>⟨λz=>?_,λz=>(by cases z)⟩⟩
  ·rcases hv with e|e<;>rw[e] at n z<;>lia
  ·have:=PP d1 x2;have:=PP d2 x1;have:=H0 z la;lia
  ·have:=PP d1 (kY x2);have:=PP d2 x1;have:=H0 z la;lia
 rcases q2 nc with q|q|q
 ·rcases wc q with z|z|z
  ·exact U (by lia) (by lia)
  ·exact Dn (by lia) (by lia)
  ·exact absurd z col
 ·by_cases u:0<=dt a.1 a.2 s.1/\0<=dt a.1 a.2 s.2
  ·exact U u.1 u.2
  by_cases d:dt a.1 a.2 s.1<=0/\dt a.1 a.2 s.2<=0
  ·exact Dn d.1 d.2
  have ev:∀v,v=s.1\/v=s.2->dt a.1 a.2 v*dX s.1 s.2+dt s.1 s.2 a.1*dX v a.2+dt s.1 s.2 a.2*dX a.1 v=0:=λv hv=>by
   have:=y7 s.1 s.2 a.1 a.2 v;have z:dt s.1 s.2 v=0:=by
    rcases hv with e|e
    ·rw[e];exact yx _ _
    ·rw[e];exact yj _ _
   rw[z,uL] at this;lia
  have ds:0<=dX s.1 s.2:=yb s3;have sumx:∀v:Q3,0<v.w->dX v a.2=0->dX a.1 v=0->False:=λv hw z1 z2=>by
   have:v.w*dX a.1 a.2=a.1.w*dX v a.2+a.2.w*dX a.1 v:=by unfold dX;grind
   rw[z1,z2,uR,uR] at this;have:=G9 hw la;lia
  have vw:∀v,v=s.1\/v=s.2->0<v.w:=λv hv=>by
   rcases hv with e|e
   ·rw[e];exact s1.pos
   ·rw[e];exact s2.pos
  rcases wc q with⟨z1,z2⟩|⟨z1,z2⟩|⟨z1,z2⟩
  ·refine⟨false,λv hv x1 x2 n=>⟨λz=>?_,λz=>(by cases z)⟩,λx1 x2 n=>⟨λz=>by lia,λz=>(by cases z)⟩,λx1 x2=>⟨λz=>?_,λz=>(by cases z)⟩⟩
   ·have e:=ev v hv;have p0:=pos (kY z) ds;have p1:=pos (kY z1) x2;have p2:=pos (kY z2) x1;have w1:=(kj.mp (show dt s.1 s.2 a.1*dX v a.2=0 by lia)).resolve_left (by lia)
    have w2:=(kj.mp (show dt s.1 s.2 a.2*dX a.1 v=0 by lia)).resolve_left (by lia)
    exact(sumx v (vw v hv) w1 w2).elim
   ·have:=H0 z la;have:=G9 z1 M2;have:=G9 z2 M1;lia
  ·refine⟨true,λv hv x1 x2 n=>⟨λ_=>rfl,λ_=>?_⟩,λx1 x2 n=>⟨λ_=>rfl,λ_=>z1⟩,λx1 x2=>⟨λ_=>rfl,λ_=>?_⟩⟩
   ·have e:=ev v hv;rcases gL (dt a.1 a.2 v) 0 with z|z
    ·exfalso
     have p0:=PP (kY z) ds;have p1:=PP (kY z1) x2;have p2:=PP (kY z2) x1;have w1:=(kj.mp (show dt s.1 s.2 a.1*dX v a.2=0 by lia)).resolve_left (by lia)
     have w2:=(kj.mp (show dt s.1 s.2 a.2*dX a.1 v=0 by lia)).resolve_left (by lia)
     exact sumx v (vw v hv) w1 w2
    ·lia
   ·refine(yv la).2.mp ?_;have:=H0 z1 M2;have:=H0 z2 M1;lia
  ·exact absurd (vm s1 s2 s3 z1 z2) col
 ·have on:∀{w:Q3},w=a.1\/w=a.2->dt a.1 a.2 w=0:=λ{w} h=>by
   rcases h with e|e
   ·rw[e];exact yx _ _
   ·rw[e];exact yj _ _
  have z:dt a.1 a.2 s.1=0\/dt a.1 a.2 s.2=0:=by grind
  by_cases u:0<=dt a.1 a.2 s.1/\0<=dt a.1 a.2 s.2
  ·exact U u.1 u.2
  ·exact Dn (by lia) (by lia)
end
noncomputable def zR(a s:Q3×Q3):Bool:=(lvl s&&(bq s.1 a.1&&(bq a.1 s.2&&decide (dt s.1 s.2 a.1<0))))||(decide (s.1=a.1)&&decide (0<dt a.1 a.2 s.2))
def Z4(fs:List (Q3×Q3))(i j:Nat):xU fs i j=zR (fs.getD i zQ) (fs.getD j zQ):=rfl
noncomputable def dL(a:Q3×Q3)(M v:Q3):Bool:=bq a.1 v&&(decide (0<=dX v M)&&decide (0<dt a.1 a.2 v))
noncomputable def fY(M v:Q3):Bool:=decide (dX v M=0)&&decide (0<dY M v)
theorem zB{p q r:Q3}(hp:0<p.w)(hq:0<q.w)(hr:0<r.w):(0<=dX p q->0<=dX q r->0<=dX p r)/\(0<=dX p q->0<dX q r->0<dX p r)/\(0<dX p q->0<=dX q r->0<dX p r):=by
 have e:q.w*dX p r=r.w*dX p q+p.w*dX q r:=by unfold dX;grind
 have sg:=yv (x:=dX p r) hq;rw[ud] at e;refine⟨λh1 h2=>?_,λh1 h2=>?_,λh1 h2=>?_⟩
 ·refine ES.mp λz=>?_;have:=sg.2.mpr z;have:=pg (kY hr) h1;have:=pg (kY hp) h2;omega
 ·refine sg.1.mp ?_;have:=pg (kY hr) h1;have:=uB hp h2;omega
 ·refine sg.1.mp ?_;have:=uB hr h1;have:=pg (kY hp) h2;omega
theorem y6(p q:Q3):dX q p= -dX p q:=by unfold dX;grind
def wJ{p q:Q3}(h:0<dX p q):bq p q=true:=by
 refine yV.mpr (.inl ?_);rw[UL];exact h
def YW{p q:Prop}[Decidable p][Decidable q](h:p↔q):decide p=decide q:=ω.mpr h
section
variable{m:Nat}{fs:List (Q3×Q3)}(A:Ap m fs){a s:Q3×Q3}{M:Q3}(ha:a∈fs)(hs:s∈fs)
include A ha hs
theorem LF(la:0<dX a.1 a.2)(Mw:0<M.w)(M0:dt a.1 a.2 M=0)(M1:0<dX a.1 M)(M2:0<dX M a.2):(dL a M s.1^^dL a M s.2)=(zR a s^^aX s M):=by
 obtain⟨a1,a2,a3⟩:=A.ok a ha;obtain⟨s1,s2,s3⟩:=A.ok s hs;have wa:=a1.pos;have LG:=a2.pos;have ws:=s1.pos;have fj:=s2.pos
 by_cases ne:a=s
 ·subst ne;have r1:dL a M a.1=false:=by unfold dL;rw[zk];rfl
  have r2:dL a M a.2=false:=by unfold dL;rw[yj];simp
  have r3:zR a a=false:=by unfold zR;rw[zk,yj];simp
  have r4:aX a M=false:=by unfold aX;rw[M0];simp
  rw[r1,r2,r3,r4]
 have nz:∀v,v=s.1\/v=s.2->bq a.1 v=true->0<=dX v M->dt a.1 a.2 v≠0:=λv hv h1 h2 h0=>by
  have vp:PQ m v:=by rcases hv with e|e<;>rw[e]<;>assumption
  have vl:=(zB vp.pos Mw LG).2.1 h2 M2;have b2:bq a.2 v=false:=zf (wJ vl);have:=Yt A ha hs hv h1 b2 h0;rw[this] at vl;unfold dX at vl;lia
 have s12:=yb s3;have tV:∀{x:Bool},0<=dX s.1 M->0<dX M s.2->(dt s.1 s.2 M<0↔x=true)->aX s M=x:=λ{x} h1 h2 h3=>by
  unfold aX;rw[ζ h1,ζ h2]
  cases x
  ·exact ι λz=>nomatch h3.mp z
  ·exact ζ (h3.mpr rfl)
 have u8:¬0<dX M s.2->aX s M=false:=λh=>by unfold aX;rw[ι h];simp
 have abQ_l:¬0<=dX s.1 M->aX s M=false:=λh=>by unfold aX;rw[ι h];rfl
 have R_b:∀{v},bq a.1 v=false->dL a M v=false:=λh=>by unfold dL;rw[h];rfl
 have R_x:∀{v},¬0<=dX v M->dL a M v=false:=λh=>by unfold dL;rw[ι h];simp
 have PR:∀{v}{x:Bool},bq a.1 v=true->0<=dX v M->(0<dt a.1 a.2 v↔x=true)->dL a M v=x:=λ{v x} h1 h2 h3=>by
  unfold dL;rw[h1,ζ h2]
  cases x
  ·exact ι λz=>nomatch h3.mp z
  ·exact ζ (h3.mpr rfl)
 have nl:∀{v:Q3},¬0<=dX v M->0<dX M v:=λ{v} h=>by rw[y6];lia
 have nr:∀{v:Q3},0<=dX v M->¬0<dX M v:=λ{v} h=>by rw[y6];lia
 cases c1:bq s.1 a.1 with
 |true=>
  have q1:dL a M s.1=false:=R_b (zf c1);have n1:¬s.1=a.1:=λe=>by rw[e,zk] at c1;cases c1
  have x1:0<dX s.1 M:=(zB ws wa Mw).2.1 (yb c1) M1
  cases c2:bq a.1 s.2 with
  |false=>
   have q2:dL a M s.2=false:=R_b c2;have q3:zR a s=false:=by unfold zR;rw[c2,ι n1];simp
   have q4:aX s M=false:=u8 (nr (kY ((zB fj wa Mw).2.1 (wE c2) M1)));rw[q1,q2,q3,q4]
  |true=>
   have pn:dt s.1 s.2 a.1≠0:=λz=>by
    have:=Yt A hs ha (.inl rfl) c1 (zf c2) z;rw[this,zk] at c2;cases c2
   have b1:bq s.1 a.2=true:=yA s1 a1 a2 c1 a3;obtain⟨up,u1,u2,u3⟩:=Z5 A ha hs la b1 c2 ne M0 M1 M2 λz=>by lia
   by_cases l:0<=dX s.2 M
   ·have lv:lvl s=true:=by
     cases z:lvl s with
     |true=>rfl
     |false=>
      exfalso
      unfold lvl at z;rw[Cp,τ] at z;have d0:dX s.1 s.2=0:=by unfold dX;lia
      have k1:=yb c1;have k2:=yb c2;have e:a.1.w*dX s.1 s.2=s.2.w*dX s.1 a.1+s.1.w*dX a.1 s.2:=by unfold dX;grind
      rw[d0,uR] at e;have m1:=pg (kY fj) k1;have m2:=pg (kY ws) k2;have y1:=(kj.mp (show s.2.w*dX s.1 a.1=0 by lia)).resolve_left (by lia)
      have e2:=Wt s.1 s.2 a.1;have y2:=(kj.mp (show s.1.w*dX a.1 s.2=0 by lia)).resolve_left (by lia)
      rw[y1,y2,uR,uL,IF] at e2;exact pn ((kj.mp e2).resolve_left (by lia))
    have q2:dL a M s.2=up:=PR c2 l (u1 s.2 (.inr rfl) (yb c2) (kY ((zB fj Mw LG).2.1 l M2)) (nz s.2 (.inr rfl) c2 l));have q3:zR a s=up:=by
     have:=u2 (yb c1) (yb c2) pn;unfold zR;rw[lv,c1,c2,ι n1]
     cases up
     ·rw[ι λz=>nomatch this.mp z];rfl
     ·rw[ζ (this.mpr rfl)];rfl
    have q4:aX s M=false:=u8 (nr l);rw[q1,q2,q3,q4];cases up<;>rfl
   ·have q2:dL a M s.2=false:=R_x l;have x2:=nl l;have lv:lvl s=true:=by
     have:=(zB ws Mw fj).2.2 x1 (kY x2);unfold lvl;rw[ι (λz=>by unfold dX at this;lia)];rfl
    have q3:zR a s=up:=by
     have:=u2 (yb c1) (yb c2) pn;unfold zR;rw[lv,c1,c2,ι n1]
     cases up
     ·rw[ι λz=>nomatch this.mp z];rfl
     ·rw[ζ (this.mpr rfl)];rfl
    have q4:aX s M=up:=tV (kY x1) x2 (u3 (kY x1) x2);rw[q1,q2,q3,q4];cases up<;>rfl
 |false=>
  by_cases e:s.1=a.1
  ·have q1:dL a M s.1=false:=R_b (by rw[e];exact zk _)
   have c2:bq a.1 s.2=true:=by rw[<-e];exact s3
   have q3:zR a s=decide (0<dt a.1 a.2 s.2):=by unfold zR;rw[c1,ζ e];simp
   by_cases l:0<=dX s.2 M
   ·have q2:dL a M s.2=decide (0<dt a.1 a.2 s.2):=by unfold dL;rw[c2,ζ l];rfl
    rw[q1,q2,q3,u8 (nr l)];simp
   ·have q2:dL a M s.2=false:=R_x l;have x2:=nl l;have x1:0<dX s.1 M:=by rw[e];exact M1
    have eM:=y7 a.1 a.2 s.1 s.2 M;have z1:dt a.1 a.2 s.1=0:=by rw[e];exact yx _ _
    rw[M0,z1] at eM;simp only[uL,gM] at eM;have fZ:(dt s.1 s.2 M<0↔decide (0<dt a.1 a.2 s.2)=true):=by
     rw[τ];have k1:=yv (x:=dt s.1 s.2 M) la;have k2:=yv (x:=dt a.1 a.2 s.2) x1;rw[<-k1.2,<-k2.1];lia
    rw[q1,q2,q3,tV (kY x1) x2 fZ];simp
  ·have c3:bq a.1 s.1=true:=(WL s1 a1 e).resolve_left (by rw[c1];decide)
   have c2:bq a.1 s.2=true:=yA a1 s1 s2 c3 s3;have q3:zR a s=false:=by unfold zR;rw[c1,ι e];simp
   by_cases l:0<=dX s.1 M
   ·have b1:bq s.1 a.2=true:=wJ ((zB ws Mw LG).2.1 l M2);have n1:=nz s.1 (.inl rfl) c3 l;obtain⟨up,u1,u2,u3⟩:=Z5 A ha hs la b1 c2 ne M0 M1 M2 λ_=>n1;have q1:dL a M s.1=up:=PR c3 l (u1 s.1 (.inl rfl) (yb c3) (kY ((zB ws Mw LG).2.1 l M2)) n1)
    by_cases l2:0<=dX s.2 M
    ·have q2:dL a M s.2=up:=PR c2 l2 (u1 s.2 (.inr rfl) (yb c2) (kY ((zB fj Mw LG).2.1 l2 M2)) (nz s.2 (.inr rfl) c2 l2));rw[q1,q2,q3,u8 (nr l2)];cases up<;>rfl
    ·have q2:dL a M s.2=false:=R_x l2;rw[q1,q2,q3,tV l (nl l2) (u3 l (nl l2))];cases up<;>rfl
   ·have x1:=nl l;have l2:¬0<=dX s.2 M:=λz=>by
     have:=(zB Mw ws fj).2.2 x1 s12;have:=nr z;lia
    rw[R_x l,R_x l2,q3,abQ_l l]
end
theorem va{p q r:Q3}(hp:0<p.w)(hq:0<q.w)(hr:0<r.w):(0<=dY p q->0<=dY q r->0<=dY p r)/\(0<=dY p q->0<dY q r->0<dY p r)/\(0<dY p q->0<=dY q r->0<dY p r):=by
 have e:q.w*dY p r=r.w*dY p q+p.w*dY q r:=by unfold dY;grind
 have sg:=yv (x:=dY p r) hq;rw[ud] at e;refine⟨λh1 h2=>?_,λh1 h2=>?_,λh1 h2=>?_⟩
 ·refine ES.mp λz=>?_;have:=sg.2.mpr z;have:=pg (kY hr) h1;have:=pg (kY hp) h2;omega
 ·refine sg.1.mp ?_;have:=pg (kY hr) h1;have:=uB hp h2;omega
 ·refine sg.1.mp ?_;have:=uB hr h1;have:=pg (kY hp) h2;omega
theorem vX(p q:Q3):dY q p= -dY p q:=by unfold dY;grind
theorem Vq(a b r:Q3):dt a b r*a.w=dX a b*dY a r-dY a b*dX a r:=by unfold dt dX dY aS bQ bR bX;grind
def XG(a b r:Q3):dt a b r*r.w=dY a r*dX r b-dX a r*dY r b:=by rw[ud];exact Wt a b r
theorem xN{p q:Q3}(h:dX p q=0):bq p q=decide (0<dY p q):=by
 cases e:bq p q with
 |true=>
  have:=yV.mp e;unfold Lt LP at this;simp only[UL] at this;exact(ζ (by omega)).symm
 |false=>
  refine(ι λz=>?_).symm;have:bq p q=true:=yV.mpr (.inr ⟨by rw[UL];exact h,by rw[UL];exact z⟩)
  rw[e] at this;cases this
section
variable{m:Nat}{fs:List (Q3×Q3)}(A:Ap m fs){a s:Q3×Q3}{M:Q3}(ha:a∈fs)(hs:s∈fs)
include A ha hs
theorem LH(ua:dX a.1 a.2=0)(Mw:0<M.w)(M0:dX a.1 M=0)(M1:0<dY a.1 M)(M2:0<dY M a.2):(fY M s.1^^fY M s.2)=((zR a s^^aX s M)^^decide (s=a)):=by
 obtain⟨a1,a2,a3⟩:=A.ok a ha;obtain⟨s1,s2,s3⟩:=A.ok s hs;have wa:=a1.pos;have LG:=a2.pos;have ws:=s1.pos;have fj:=s2.pos;have ya:0<dY a.1 a.2:=(va wa Mw LG).2.1 (kY M1) M2;have xn:∀p q:Q3,dX q p= -dX p q:=y6;have Ma2:dX M a.2=0:=by
  have e:M.w*dX a.1 a.2=a.2.w*dX a.1 M+a.1.w*dX M a.2:=by unfold dX;grind
  rw[ua,M0,uR,uR,Bg] at e;exact(kj.mp e.symm).resolve_left (by lia)
 by_cases ne:s=a
 ·subst ne;have r1:fY M s.1=false:=by unfold fY;rw[ι (show ¬0<dY M s.1 by rw[vX];lia)];simp
  have r2:fY M s.2=true:=by unfold fY;rw[ζ (show dX s.2 M=0 by rw[xn];lia),ζ M2];rfl
  have r3:zR s s=false:=by unfold zR;rw[zk,yj];simp
  have r4:aX s M=false:=by unfold aX;rw[ι (show ¬0<dX M s.2 by lia)];simp
  rw[r1,r2,r3,r4];simp
 rw[ι ne,FM];have s12:=yb s3;have xP:∀{v:Q3},0<v.w->(0<dX v M->0<dX v a.1)/\(dX v M=0->dX v a.1=0)/\(dX v M<0->dX v a.1<0):=λ{v} hv=>by
  have e:M.w*dX v a.1=a.1.w*dX v M+v.w*dX M a.1:=by unfold dX;grind
  rw[xn a.1 M,M0,gv,uR,gM,ud] at e;have sg:=yv (x:=dX v a.1) Mw;refine⟨λh=>sg.1.mp ?_,λh=>?_,λh=>sg.2.mp ?_⟩
  ·have:=uB wa h;lia
  ·rw[h,uR] at e;exact(kj.mp e).resolve_right (by lia)
  ·have:=pR h wa;rw[ud] at this;lia
 have Rx:∀{v:Q3},dX v M≠0->fY M v=false:=λh=>by unfold fY;rw[ι h];rfl
 have da:∀r:Q3,dt a.1 a.2 r*a.1.w= -(dY a.1 a.2*dX a.1 r):=λr=>by rw[Vq,ua,uL,IG]
 rcases(by lia:0<dX s.1 M\/dX s.1 M=0\/dX s.1 M<0) with c1|c1|c1
 ·have q1:fY M s.1=false:=Rx (by lia)
  have p1:=(xP ws).1 c1;have b1:bq s.1 a.1=true:=wJ p1;have n1:¬s.1=a.1:=λe=>by rw[e,zk] at b1;cases b1
  rcases(by lia:0<dX s.2 M\/dX s.2 M=0\/dX s.2 M<0) with c2|c2|c2
  ·have b2:bq a.1 s.2=false:=zf (wJ ((xP fj).1 c2));have q3:zR a s=false:=by unfold zR;rw[b2,ι n1];simp
   have q4:aX s M=false:=by unfold aX;rw[ι (show ¬0<dX M s.2 by rw[xn];lia)];simp
   rw[q1,Rx (by lia),q3,q4]
  ·have p2:=(xP fj).2.1 c2;have p2':dX a.1 s.2=0:=by rw[xn];lia
   have lv:lvl s=true:=by
    have:=(zB ws Mw fj).2.2 c1 (by rw[xn];lia)
    unfold lvl;rw[ι (λz=>by unfold dX at this;lia)];rfl
   have q4:aX s M=false:=by unfold aX;rw[ι (show ¬0<dX M s.2 by rw[xn];lia)];simp
   have q3:zR a s=decide (0<dY a.1 s.2):=by
    unfold zR;rw[lv,b1,xN p2',ι n1]
    by_cases y:0<dY a.1 s.2
    ·have e:=XG s.1 s.2 a.1;rw[p2',uR,IG] at e;have:=uB p1 y;have:dt s.1 s.2 a.1<0:=(yv wa).2.mp (by lia)
     rw[ζ y,ζ this];rfl
    ·rw[ι y];simp
   have q2:fY M s.2=decide (0<dY M s.2):=by unfold fY;rw[ζ c2];rfl
   have fZ:0<dY a.1 s.2↔0<dY M s.2:=by
    refine⟨λh=>?_,λh=>(va wa Mw fj).2.1 (kY M1) h⟩;rcases gL 0 (dY M s.2) with z|z
    ·exact z
    ·exfalso
     have b2:bq a.1 s.2=true:=by rw[xN p2'];exact ζ h
     have y2:0<dY s.2 a.2:=(va fj Mw LG).2.1 (by rw[vX];lia) M2
     have x2:dX s.2 a.2=0:=by
      have e:M.w*dX s.2 a.2=a.2.w*dX s.2 M+s.2.w*dX M a.2:=by unfold dX;grind
      rw[c2,Ma2,uR,uR,gM] at e;exact(kj.mp e).resolve_left (by lia)
     have b3:bq s.2 a.2=true:=by rw[xN x2];exact ζ y2
     have z0:dt a.1 a.2 s.2=0:=by
      have:=da s.2;rw[p2',uR,gv] at this;exact(kj.mp this).resolve_right (by lia)
     have:=Yt A ha hs (.inr rfl) b2 (zf b3) z0;rw[this,zk] at b3;cases b3
   rw[q1,q2,q3,q4,YW fZ];simp
  ·have p2:=(xP fj).2.2 c2;have lv:lvl s=true:=by
    have:=(zB ws Mw fj).2.2 c1 (by rw[xn];lia)
    unfold lvl;rw[ι (λz=>by unfold dX at this;lia)];rfl
   have x2:0<dX M s.2:=by rw[xn];lia
   have b2:bq a.1 s.2=true:=wJ (by rw[xn];lia)
   have q3:zR a s=decide (dt s.1 s.2 a.1<0):=by unfold zR;rw[lv,b1,b2,ι n1];simp
   have q4:aX s M=decide (dt s.1 s.2 M<0):=by unfold aX;rw[ζ (kY c1),ζ x2];rfl
   have b3:bq s.1 a.2=true:=yA s1 a1 a2 b1 a3;have d1:0<dt a.1 a.2 s.1:=(yv wa).1.mp (by
    rw[da,xn s.1 a.1];have:=uB ya p1;rw[DP];lia)
   have d2:dt a.1 a.2 s.2<0:=(yv wa).2.mp (by
    rw[da,xn s.2 a.1];have:=uB ya (show 0< -dX s.2 a.1 by lia)
    lia)
   have same:aB (dt s.1 s.2 a.1)=aB (dt s.1 s.2 a.2):=by
    rcases A.ap a ha s hs (λe=>ne e.symm) with q|q|⟨_,q2⟩
    ·rw[zf b3] at q;cases q
    ·rw[zf b2] at q;cases q
    rcases q2 (λz=>by have:=zF.mp z.1;lia) with q|q|q
    ·rw[ZK d1,VU d2] at q;lia
    ·exact q
    ·grind
   have eM:=ql s.1 s.2 a.1 a.2 M;have aM:dt a.1 a.2 M=0:=by
    have:=da M;rw[M0,uR,gv] at this;exact(kj.mp this).resolve_right (by lia)
   rw[aM,uL,Bg] at eM;have fZ:dt s.1 s.2 a.1<0↔dt s.1 s.2 M<0:=by
    rcases wc same with⟨z1,z2⟩|⟨z1,z2⟩|⟨z1,z2⟩
    ·have:=uB z1 M2;have:=uB z2 M1;have:=(yv (x:=dt s.1 s.2 M) ya).1.mp (by lia)
     lia
    ·have:=pR z1 M2;have:=pR z2 M1;have:=(yv (x:=dt s.1 s.2 M) ya).2.mp (by lia)
     lia
    ·have:=(vm s1 s2 s3 z1 z2).1;lia
   rw[q1,Rx (by lia),q3,q4,YW fZ];simp
 ·have p1:=(xP ws).2.1 c1;have x2:0<=dX M s.2:=(zB Mw ws fj).1 (by rw[xn];lia) s12
  have xP2:0<=dX a.1 s.2:=(zB wa ws fj).1 (by rw[xn];lia) s12
  have q3:zR a s=false:=by
   unfold zR;have f1:(bq s.1 a.1&&(bq a.1 s.2&&decide (dt s.1 s.2 a.1<0)))=false:=by
    rw[xN p1]
    by_cases y:0<dY s.1 a.1
    ·have e:=XG s.1 s.2 a.1;rw[p1,uL,GI] at e;have:=pg (kY y) xP2;rw[ι (show ¬dt s.1 s.2 a.1<0 from λz=>by have:=pR z wa;lia)]
     simp
    ·rw[ι y];rfl
   have f2:decide (0<dt a.1 a.2 s.2)=false:=ι λz=>by
    have:=uB z wa;have:=pg (kY ya) xP2;have:=da s.2;lia
   rw[f1,f2];simp
  by_cases lv:dX s.1 s.2=0
  ·have c2:dX s.2 M=0:=by
    have e:s.1.w*dX s.2 M=M.w*dX s.2 s.1+s.2.w*dX s.1 M:=by unfold dX;grind
    rw[xn s.1 s.2,lv,c1,gv,uR,uR,gM] at e;exact(kj.mp e).resolve_left (by lia)
   have ys:0<dY s.1 s.2:=by
    have:=s3;rw[xN lv] at this;exact ξ this
   have q4:aX s M=false:=by unfold aX;rw[ι (show ¬0<dX M s.2 by rw[xn];lia)];simp
   have q1:fY M s.1=decide (0<dY M s.1):=by unfold fY;rw[ζ c1];rfl
   have q2:fY M s.2=decide (0<dY M s.2):=by unfold fY;rw[ζ c2];rfl
   have fZ:0<dY M s.1↔0<dY M s.2:=by
    refine⟨λh=>(va Mw ws fj).2.2 h (kY ys),λh=>?_⟩;rcases gL 0 (dY M s.1) with z|z
    ·exact z
    ·exfalso
     have y1:0<dY s.1 a.2:=(va ws Mw LG).2.1 (by rw[vX];lia) M2
     have y2:0<dY a.1 s.2:=(va wa Mw fj).2.1 (kY M1) h;have z1:dt a.1 a.2 s.1=0:=by
      have:=da s.1;rw[xn s.1 a.1,p1,gv,uR,gv] at this;exact(kj.mp this).resolve_right (by lia)
     have p2:=(xP fj).2.1 c2;have z2:dt a.1 a.2 s.2=0:=by
      have:=da s.2;rw[xn s.2 a.1,p2,gv,uR,gv] at this;exact(kj.mp this).resolve_right (by lia)
     have g1:dX s.1 a.2=0:=by
      have e:M.w*dX s.1 a.2=a.2.w*dX s.1 M+s.1.w*dX M a.2:=by unfold dX;grind
      rw[c1,Ma2,uR,uR,gM] at e;exact(kj.mp e).resolve_left (by lia)
     have b1:bq s.1 a.2=true:=by rw[xN g1];exact ζ y1
     have b2:bq a.1 s.2=true:=by rw[xN (by rw[xn];lia)];exact ζ y2
     rcases A.ap a ha s hs (λe=>ne e.symm) with q|q|⟨q1',_⟩
     ·rw[zf b1] at q;cases q
     ·rw[zf b2] at q;cases q
     ·rcases q1' ⟨by rw[z1];rfl,by rw[z2];rfl⟩ with q|q
      ·rw[q,zk] at b1;cases b1
      ·rw[q,zk] at b2;cases b2
   rw[q1,q2,q3,q4,YW fZ];simp
  ·have x3:0<dX M s.2:=(zB Mw ws fj).2.1 (by rw[xn];lia) (by lia)
   have q2:fY M s.2=false:=Rx (by rw[xn];lia)
   have q1:fY M s.1=decide (0<dY M s.1):=by unfold fY;rw[ζ c1];rfl
   have q4:aX s M=decide (dt s.1 s.2 M<0):=by unfold aX;rw[ζ (show 0<=dX s.1 M by lia),ζ x3];rfl
   have fZ:0<dY M s.1↔dt s.1 s.2 M<0:=by
    have e:=XG s.1 s.2 M;rw[c1,uL,GI] at e;rw[<-(yv (x:=dt s.1 s.2 M) Mw).2,e,(yv (x:=dY s.1 M) x3).2,vX];lia
   rw[q1,q2,q3,q4,YW fZ];simp
 ·have x1:=(xP ws).2.2 c1;have c2:dX s.2 M≠0:=λz=>by
   have:=(zB Mw ws fj).2.2 (by rw[xn];lia) s12
   rw[xn] at this;lia
  have q3:zR a s=false:=by
   have b1:bq s.1 a.1=false:=zf (wJ (by rw[xn];lia))
   unfold zR;rw[b1,ι (λe:s.1=a.1=>by rw[e] at x1;unfold dX at x1;lia)];simp
  have q4:aX s M=false:=by unfold aX;rw[ι (show ¬0<=dX s.1 M by lia)];rfl
  rw[Rx (by lia),Rx c2,q3,q4]
end
noncomputable def ah(l:List Bool):Bool:=l.foldr (·^^·) false
def zS(a:Bool)(l:List Bool):ah (a::l)=(a^^ah l):=rfl
section
variable{α β:Type}
theorem wY(f g:α->Bool):∀l:List α,ah (l.map λa=>f a^^g a)=(ah (l.map f)^^ah (l.map g))
 |[]=>rfl
 |a::l=>by
  rw[kN,kN,kN,zS,zS,zS,wY f g l]
  cases f a<;>cases g a<;>cases ah (l.map f)<;>cases ah (l.map g)<;>rfl
theorem Y5{f:α->Bool}:∀{l:List α},(∀a∈l,f a=false)->ah (l.map f)=false
 |[],_=>rfl
 |a::l,h=>by rw[kN,zS,h a (by simp),Y5 λb hb=>h b (by simp[hb])];rfl
def yk{f g:α->Bool}{l:List α}(h:∀a∈l,f a=g a):ah (l.map f)=ah (l.map g):=by rw[UF h]
theorem vA(b:Bool)(f:α->Bool):∀l:List α,ah (l.map λa=>b&&f a)=(b&&ah (l.map f))
 |[]=>by cases b<;>rfl
 |a::l=>by
  rw[kN,kN,zS,zS,vA b f l]
  cases b<;>cases f a<;>cases ah (l.map f)<;>rfl
theorem YY(f:α->β->Bool)(m:List β):∀l:List α,ah (l.map λa=>ah (m.map λb=>f a b))=ah (m.map λb=>ah (l.map λa=>f a b))
 |[]=>(Y5 λ_ _=>rfl).symm
 |a::l=>by
  rw[kN,zS,YY f m l,<-wY];rfl
theorem Xi[DecidableEq α]{R:α->Bool}{x:α}:∀{l:List α},l.Nodup->x∈l->ah (l.map λv=>R v&&decide (x=v))=R x
 |[],_,h=>by cases h
 |v::l,nd,h=>by
  obtain⟨n1,n2⟩:=QN.mp nd;rw[kN,zS]
  by_cases e:x=v
  ·subst e;rw[Y5 λw hw=>by rw[ι (λz:x=w=>n1 (by rw[z];exact hw))];simp]
   simp
  ·rw[ι e,Xi n2 ((kg.mp h).resolve_left e)]
   simp
end
def Evn(fs:List (Q3×Q3))(E:Nat->Bool):Prop:=∀v,(ah ((kM fs.length).map λj=>E j&&decide ((fs.getD j zQ).1=v))^^ah ((kM fs.length).map λj=>E j&&decide ((fs.getD j zQ).2=v)))=false
def M7{fs:List (Q3×Q3)}{E:Nat->Bool}(h:Evn fs E)(R:Q3->Bool){V:List Q3}(nd:V.Nodup)(hV:∀s∈fs,s.1∈V/\s.2∈V):ah ((kM fs.length).map λj=>E j&&(R (fs.getD j zQ).1^^R (fs.getD j zQ).2))=false:=by
 have one:∀(p:Q3×Q3->Q3),(∀s∈fs,p s∈V)->ah ((kM fs.length).map λj=>E j&&R (p (fs.getD j zQ)))=ah (V.map λv=>R v&&ah ((kM fs.length).map λj=>E j&&decide (p (fs.getD j zQ)=v))):=λp hp=>by
  rw[yk (g:=λj=>ah (V.map λv=>E j&&(R v&&decide (p (fs.getD j zQ)=v)))) λj hj=>by
   rw[vA,Xi nd (hp _ (zh (pe.mp hj)))]]
  rw[YY];refine yk λv _=>?_;rw[<-vA];refine yk λj _=>?_
  cases E j<;>cases R v<;>rfl
 rw[yk (g:=λj=>(E j&&R (fs.getD j zQ).1)^^(E j&&R (fs.getD j zQ).2)) λj _=>by cases E j<;>simp]
 rw[wY,one pG λs hs=>(hV s hs).1,one Ey λs hs=>(hV s hs).2,<-wY];refine Y5 λv _=>?_;have:=h v
 cases R v
 ·rfl
 ·rw[UO,UO];exact this
structure RX(a:Q3×Q3)(M:Q3):Prop where
 w:0<M.w
 on:dt a.1 a.2 M=0
 lv:0<dX a.1 a.2->0<dX a.1 M/\0<dX M a.2
 up:dX a.1 a.2=0->dX a.1 M=0/\0<dY a.1 M/\0<dY M a.2
theorem zag(l:List Q3):∃V:List Q3,V.Nodup/\∀p∈l,p∈V:=by
 induction l with
 |nil=>exact⟨[],.nil,λp h=>(by cases h)⟩
 |cons a l ih=>
  obtain⟨V,h1,h2⟩:=ih
  by_cases c:a∈V
  ·exact⟨V,h1,λp hp=>(kg.mp hp).elim (λe=>e▸c) (h2 p)⟩
  ·exact⟨a::V,QN.mpr ⟨c,h1⟩,λp hp=>(kg.mp hp).elim (λe=>by rw[e];simp) λz=>pT _ (h2 p z)⟩
section
variable{m:Nat}{fs:List (Q3×Q3)}(A:Ap m fs){E:Nat->Bool}(hE:Evn fs E){i:Nat}(hi:i<fs.length){M:Q3}(hM:RX (fs.getD i zQ) M)
include A hE hi hM
theorem PU(la:0<dX (fs.getD i zQ).1 (fs.getD i zQ).2):ah ((kM fs.length).map λj=>E j&&xU fs i j)=ah ((kM fs.length).map λj=>E j&&aX (fs.getD j zQ) M):=by
 obtain⟨V,nd,hV⟩:=zag (zE fs);have s:=M7 hE (dL (fs.getD i zQ) M) nd λs hs=>⟨hV _ (yM hs).1,hV _ (yM hs).2⟩;obtain⟨M1,M2⟩:=hM.lv la;rw[yk (g:=λj=>(E j&&xU fs i j)^^(E j&&aX (fs.getD j zQ) M)) λj hj=>by
  rw[LF A (zh hi) (zh (pe.mp hj)) la hM.w hM.on M1 M2,Z4]
  cases E j<;>simp] at s
 rw[wY] at s;generalize ah ((kM fs.length).map λj=>E j&&xU fs i j)=x at*;generalize ah ((kM fs.length).map λj=>E j&&aX (fs.getD j zQ) M)=y at*
 cases x<;>cases y<;>first|rfl|cases s
theorem PV(ua:dX (fs.getD i zQ).1 (fs.getD i zQ).2=0):(ah ((kM fs.length).map λj=>E j&&xU fs i j)^^E i)=ah ((kM fs.length).map λj=>E j&&aX (fs.getD j zQ) M):=by
 obtain⟨V,nd,hV⟩:=zag (zE fs);have s:=M7 hE (fY M) nd λs hs=>⟨hV _ (yM hs).1,hV _ (yM hs).2⟩;obtain⟨M0,M1,M2⟩:=hM.up ua;rw[yk (g:=λj=>((E j&&xU fs i j)^^(E j&&aX (fs.getD j zQ) M))^^(E j&&decide (i=j))) λj hj=>by
  rw[LH A (zh hi) (zh (pe.mp hj)) ua hM.w M0 M1 M2,Z4];have:decide (fs.getD j zQ=fs.getD i zQ)=decide (i=j):=ω.mpr ⟨λe=>jm A.nd zQ hi (pe.mp hj) e.symm,λe=>by rw[e]⟩
  rw[this]
  cases E j<;>simp] at s
 rw[wY,wY] at s;rw[Xi (R:=E) (l:=kM fs.length) EC (pe.mpr hi)] at s;generalize ah ((kM fs.length).map λj=>E j&&xU fs i j)=x at*;generalize ah ((kM fs.length).map λj=>E j&&aX (fs.getD j zQ) M)=y at*;generalize E i=u at*
 cases u<;>cases x<;>cases y<;>first|rfl|cases s
end
theorem ZV(b:Nat):∀l:List Nat,(xs l).testBit b=ah (l.map λa=>a.testBit b)
 |[]=>by simp[xs,ah]
 |a::l=>by rw[xu,HQ,ZV b l];rfl
theorem JO{f:Nat->Bool}{p:Nat->Bool}:∀l:List Nat,ah ((l.filter p).map f)=ah (l.map λj=>f j&&p j)
 |[]=>rfl
 |a::l=>by
  rw[UB,kN,zS,<-JO l]
  cases p a
  ·simp
  ·simp[zS]
def X9{m:Nat}{fs:List (Q3×Q3)}(A:Ap m fs){ms:List Nat}{b:Nat}(hE:Evn fs λj=>(ms.getD j 0).testBit b){i:Nat}(hi:i<fs.length){M:Q3}(hM:RX (fs.getD i zQ) M):
  (0<dX (fs.getD i zQ).1 (fs.getD i zQ).2->(spT fs ms i).1.testBit b=ah ((kM fs.length).map λj=>(ms.getD j 0).testBit b&&aX (fs.getD j zQ) M))/\
  (dX (fs.getD i zQ).1 (fs.getD i zQ).2=0->(spT fs ms i).2.testBit b=ah ((kM fs.length).map λj=>(ms.getD j 0).testBit b&&aX (fs.getD j zQ) M))/\(spT fs ms i).2.testBit b=((spT fs ms i).1.testBit b^^(ms.getD i 0).testBit b):=by
 have e1:(xO fs ms i).testBit b=ah ((kM fs.length).map λj=>(ms.getD j 0).testBit b&&xU fs i j):=by
  unfold xO;rw[ZV,uc];exact JO (f:=λj=>(ms.getD j 0).testBit b) _
 have e2:(spT fs ms i).2.testBit b=((spT fs ms i).1.testBit b^^(ms.getD i 0).testBit b):=HQ ..;refine⟨λla=>?_,λua=>?_,e2⟩
 ·show(xO fs ms i).testBit b=_
  rw[e1];exact PU A hE hi hM la
 ·rw[e2];show((xO fs ms i).testBit b^^_)=_;rw[e1];exact PV A hE hi hM ua
noncomputable def zw(a:Q3×Q3):Q3:=⟨a.1.x*a.2.w+a.2.x*a.1.w,a.1.y*a.2.w+a.2.y*a.1.w,2*a.1.w*a.2.w⟩
theorem YV{a:Q3×Q3}(h1:0<a.1.w)(h2:0<a.2.w)(hb:bq a.1 a.2=true):RX a (zw a):=by
 have e1:dX a.1 (zw a)=dX a.1 a.2*a.1.w:=by unfold dX zw;grind
 have e2:dX (zw a) a.2=dX a.1 a.2*a.2.w:=by unfold dX zw;grind
 have f1:dY a.1 (zw a)=dY a.1 a.2*a.1.w:=by unfold dY zw;grind
 have f2:dY (zw a) a.2=dY a.1 a.2*a.2.w:=by unfold dY zw;grind
 refine⟨?_,?_,λla=>?_,λua=>?_⟩
 ·show 0<2*a.1.w*a.2.w
  exact uB (uB (by decide) h1) h2
 ·unfold dt aS zw bQ bR bX;grind
 ·rw[e1,e2];exact⟨uB la h1,uB la h2⟩
 ·rw[xN ua] at hb;have:=ξ hb;rw[e1,ua,uL,f1,f2];exact⟨rfl,uB this h1,uB this h2⟩
end Nu
variable{k:Nat}
namespace Nu
theorem Wz{α:Type}{f:α->Bool}:∀{l:List α}(d0:α),(∀i j,i<l.length->j<l.length->f (l.getD i d0)=true->f (l.getD j d0)=true->i=j)->ah (l.map f)=decide (∃a∈l,f a=true)
 |[],_,_=>by simp[ah]
 |a::l,d0,h=>by
  have ih:=Wz (f:=f) (l:=l) d0 λi j hi hj h1 h2=>by
   have:=h (i+1) (j+1) (by simpa using hi) (by simpa using hj) (by simpa using h1) (by simpa using h2)
   lia
  rw[kN,zS,ih]
  cases e:f a with
  |false=>
   rw[Bn];refine ω.mpr ⟨λ⟨b,hb,z⟩=>⟨b,by simp[hb],z⟩,λ⟨b,hb,z⟩=>?_⟩
   rcases kg.mp hb with w|w
   ·rw[w,e] at z;cases z
   ·exact⟨b,w,z⟩
  |true=>
   have no:¬∃b∈l,f b=true:=by
    rintro⟨b,hb,z⟩;obtain⟨j,hj⟩:=pJ.mp hb;have lj:=(kE.mp hj).1;have:=h 0 (j+1) (by simp) (by simpa using lj) (by simpa using e) (by
     have:(a::l).getD (j+1) d0=b:=by rw[kG,pX,hj];rfl
     rw[this];exact z)
    lia
   rw[ι no,ζ ⟨a,by simp,e⟩];rfl
section
variable{n:Nat}{ss:List (Q3×Q3)}{ps:List (Nat×Nat)}{g:Int}
noncomputable instance{q:Q3}{i:Nat}:Decidable (a8 ss ps q i):=Classical.propDecidable _
noncomputable def stC(ss:List (Q3×Q3))(ps:List (Nat×Nat)):List Q3:=zE ss++ps.flatMap λx=>MY (mtI ss x)
def wH{q:Q3}{i:Nat}(h:a8 ss ps q i):q∈stC ss ps:=by
 unfold stC;rcases h with h|⟨x,hx,_,h⟩
 ·obtain⟨l,z⟩:=yB.mp h;refine uO _ ?_;rcases z with z|z
  ·rw[z];exact(yM (zh l)).1
  ·rw[z];exact(yM (zh l)).2
 ·exact uQ _ (Uy.mpr ⟨x,hx,WY.mpr h⟩)
theorem WN{T:Q3->Prop}{R:Q3->Q3->Bool}(ir:∀a,R a a=false)(tr:∀a b c,T a->T b->T c->R a b=true->R b c=true->R a c=true):∀{l:List Q3},(∃r,r∈l/\T r)->∃p,p∈l/\T p/\∀r,r∈l->T r->R r p=false
 |[],⟨r,h,_⟩=>by cases h
 |a::l,⟨r,hr,ht⟩=>by
  by_cases z:∃r,r∈l/\T r
  ·obtain⟨p,h1,h2,h3⟩:=WN ir tr z
   by_cases ta:T a/\R a p=true
   ·exact⟨a,by simp,ta.1,λr hr q=>(kg.mp hr).elim (λe=>e▸ir _) λhr=>Qc.mpr λx=>Bool.eq_false_iff.mp (h3 r hr q) (tr _ _ _ q ta.1 h2 x ta.2)⟩
   ·exact⟨p,by simp[h1],h2,λr hr q=>(kg.mp hr).elim (λe=>Qc.mpr λx=>ta (e▸⟨q,x⟩)) λhr=>h3 r hr q⟩
  ·have ea:∀r,r∈a::l->T r->r=a:=λr hr q=>(kg.mp hr).resolve_right λh=>z ⟨r,h,q⟩;exact⟨a,by simp,ea r hr ht▸ht,λr hr q=>ea r hr q▸ir _⟩
def Yi{T:Q3->Prop}(hT:∀q,T q->PQ k q){l:List Q3}:(∃r,r∈l/\T r)->∃p,p∈l/\T p/\∀r,r∈l->T r->bq r p=false:=WN zk λ_ _ _ a b c=>yA (hT _ a) (hT _ b) (hT _ c)
def YN{T:Q3->Prop}(hT:∀q,T q->PQ k q){l:List Q3}:(∃r,r∈l/\T r)->∃p,p∈l/\T p/\∀r,r∈l->T r->bq p r=false:=WN (R:=λa b=>bq b a) zk λ_ _ _ a b c x y=>yA (hT _ c) (hT _ b) (hT _ a) y x
noncomputable def sd:Bool->Q3×Q3->Q3
 |false,x=>x.1
 |true,x=>x.2
noncomputable def dR:Bool->Q3->Q3->Bool
 |false,p,q=>bq p q
 |true,p,q=>bq q p
variable(T:zu n ss ps g){fs:List (Q3×Q3)}(nd:fs.Nodup)(hf:∀f,f∈fs↔cw ss ps f)
include T nd hf
theorem V9(b:Bool)(hk:k<ss.length)(v:Q3):ah ((kM fs.length).map λj=>decide (k∈zy ss (fs.getD j zQ))&&decide (sd b (fs.getD j zQ)=v))=decide (a8 ss ps v k/\v≠sd (!b) (ss.getD k zQ)):=by
 have gm:∀i,i<fs.length->k∈zy ss (fs.getD i zQ)->a8 ss ps (sd b (fs.getD i zQ)) k/\a8 ss ps (sd (!b) (fs.getD i zQ)) k/\dR b (sd b (fs.getD i zQ)) (sd (!b) (fs.getD i zQ))=true/\∀r,a8 ss ps r k->dR b (sd b (fs.getD i zQ)) r=true->dR b r (sd (!b) (fs.getD i zQ))=true->False:=λi h ho=>by
  have p:=(hf _).mp (zh h);obtain⟨_,o1,o2⟩:=yN.mp ho;obtain⟨l1,l2,l3⟩:=cw.nb T p hk o1 o2;obtain⟨_,_,_,x,_⟩:=p
  cases b
  ·exact⟨l1,l2,x,l3⟩
  ·exact⟨l2,l1,x,λr h y z=>l3 r h z y⟩
 have st:∀q,a8 ss ps q k->dR b (sd (!b) (ss.getD k zQ)) q=false:=λq h=>by
  have:=zg (T.lies h).2.2
  cases b
  ·exact this.2.2
  ·exact this.2.1
 have PX:∀p q,a8 ss ps p k->a8 ss ps q k->dR b p q=false->dR b q p=false->p=q:=λp q hp hq x y=>by
  cases b
  ·exact xo (T.lies hp).2.1 (T.lies hq).2.1 x y
  ·exact xo (T.lies hp).2.1 (T.lies hq).2.1 y x
 rw[Wz 0 λi j hi hj h1 h2=>?_]
 ·refine ω.mpr ⟨λ⟨j,hj,z⟩=>?_,λ⟨h1,h2⟩=>?_⟩
  ·rw[ue,τ,τ] at z;obtain⟨l1,l2,x,_⟩:=gm j (pe.mp hj) z.1;rw[z.2] at l1 x;refine⟨l1,λe=>?_⟩;rw[e,st _ l2] at x;cases x
  ·have e2:a8 ss ps (sd (!b) (ss.getD k zQ)) k:=.inl (yB.mpr ⟨hk,by cases b;exact .inr rfl;exact .inl rfl⟩)
   have b2:dR b v (sd (!b) (ss.getD k zQ))=true:=by
    cases q:dR b v (sd (!b) (ss.getD k zQ)) with
    |true=>rfl
    |false=>exact absurd (PX _ _ h1 e2 q (st v h1)) h2
   obtain⟨w,w2,w3,w4⟩:∃w,a8 ss ps w k/\dR b v w=true/\∀r,a8 ss ps r k->dR b v r=true->dR b r w=true->False:=by
    cases b
    ·obtain⟨w,_,⟨w2,w3⟩,w4⟩:=Yi (k:=4*n+3) (T:=λq=>a8 ss ps q k/\bq v q=true) (λq h=>(T.lies h.1).2.1) ⟨_,wH e2,e2,b2⟩;exact⟨w,w2,w3,λr h x y=>by have:=w4 r (wH h) ⟨h,x⟩;rw[show bq r w=true from y] at this;cases this⟩
    ·obtain⟨w,_,⟨w2,w3⟩,w4⟩:=YN (k:=4*n+3) (T:=λq=>a8 ss ps q k/\bq q v=true) (λq h=>(T.lies h.1).2.1) ⟨_,wH e2,e2,b2⟩;exact⟨w,w2,w3,λr h x y=>by have:=w4 r (wH h) ⟨h,x⟩;rw[show bq w r=true from y] at this;cases this⟩
   obtain⟨f,e,pc⟩:∃f,(sd b f=v/\k∈zy ss f)/\cw ss ps f:=by
    have o1:=(T.lies h1).2.2;have o2:=(T.lies w2).2.2
    cases b
    ·exact⟨(v,w),⟨rfl,yN.mpr ⟨hk,o1,o2⟩⟩,k,h1,w2,w3,w4⟩
    ·exact⟨(w,v),⟨rfl,yN.mpr ⟨hk,o2,o1⟩⟩,k,w2,h1,w3,λr h x y=>w4 r h y x⟩
   obtain⟨j,hj⟩:=pJ.mp ((hf _).mpr pc);refine⟨j,pe.mpr (kE.mp hj).1,?_⟩;have ej:fs.getD j zQ=f:=by rw[kG,hj];rfl
   rw[ej,ζ e.1,ζ e.2];rfl
 ·rw[pE] at hi hj;have gr:∀i,i<fs.length->(kM fs.length).getD i 0=i:=λi h=>by rw[kG,uM h];rfl
  rw[gr i hi,ue,τ,τ] at h1;rw[gr j hj,ue,τ,τ] at h2;obtain⟨_,l2,bi,l3⟩:=gm i hi h1.1;obtain⟨_,m2,bj,m3⟩:=gm j hj h2.1;rw[h1.2] at bi l3;rw[h2.2] at bj m3;have e:=PX _ _ l2 m2 (Qc.mpr λq=>m3 _ l2 bi q) (Qc.mpr λq=>l3 _ m2 bj q);have e':=h1.2.trans h2.2.symm;refine jm nd zQ hi hj ?_
  cases b
  ·exact Qo e' e
  ·exact Qo e e'
theorem PY{sel:Nat->Bool}(hs:∀v,ah ((kM ss.length).map λk=>sel k&&(decide ((ss.getD k zQ).1=v)^^decide ((ss.getD k zQ).2=v)))=false):Evn fs λj=>ah ((kM ss.length).map λk=>sel k&&decide (k∈zy ss (fs.getD j zQ))):=λv=>by
 have one:∀(p:Q3×Q3->Q3),ah ((kM fs.length).map λj=>ah ((kM ss.length).map λk=>sel k&&decide (k∈zy ss (fs.getD j zQ)))&&decide (p (fs.getD j zQ)=v))=ah ((kM ss.length).map λk=>sel k&&ah ((kM fs.length).map λj=>decide (k∈zy ss (fs.getD j zQ))&&decide (p (fs.getD j zQ)=v))):=λp=>by
  rw[yk (g:=λj=>ah ((kM ss.length).map λk=>sel k&&(decide (k∈zy ss (fs.getD j zQ))&&decide (p (fs.getD j zQ)=v)))) λj _=>by
   rw[Hp,<-vA];refine yk λk _=>?_;generalize decide (p (fs.getD j zQ)=v)=a;generalize decide (k∈zy ss (fs.getD j zQ))=b
   cases sel k<;>cases a<;>cases b<;>rfl]
  rw[YY];refine yk λk _=>?_;rw[<-vA]
 show(ah ((kM fs.length).map λj=>_&&decide (sd false (fs.getD j zQ)=v))^^ah ((kM fs.length).map λj=>_&&decide (sd true (fs.getD j zQ)=v)))=false
 rw[one (sd false),one (sd true),<-wY];rw[yk (g:=λk=>sel k&&(decide ((ss.getD k zQ).1=v)^^decide ((ss.getD k zQ).2=v))) λk hk=>?_]
 ·exact hs v
 have hk:=pe.mp hk;have e1:=V9 T nd hf false hk v;have e2:=V9 T nd hf true hk v;rw[e1,e2];have l1:a8 ss ps (ss.getD k zQ).1 k:=.inl (yB.mpr ⟨hk,.inl rfl⟩);have l2:a8 ss ps (ss.getD k zQ).2 k:=.inl (yB.mpr ⟨hk,.inr rfl⟩);have ne:=XR T hk
 cases sel k
 ·rfl
 rw[UO,UO,UO]
 by_cases a:(ss.getD k zQ).1=v
 ·rw[ζ ⟨a▸l1,λe=>ne (a.trans e)⟩,ι (λz=>z.2 a.symm),ζ a,ι λz=>ne (a.trans z.symm)]
 ·by_cases b:(ss.getD k zQ).2=v
  ·rw[ι (λz=>z.2 b.symm),ζ ⟨b▸l2,λe=>a e.symm⟩,ι a,ζ b]
  ·rw[ι a,ι b]
   by_cases c:a8 ss ps v k
   ·rw[ζ ⟨c,λe=>b e.symm⟩,ζ ⟨c,λe=>a e.symm⟩];rfl
   ·rw[ι λz=>c z.1,ι λz=>c z.1]
end
end Nu
end
section
namespace Nu
section
variable{n:Nat}{ss:List (Q3×Q3)}{ps:List (Nat×Nat)}{g:Int}(T:zu n ss ps g){fs:List (Q3×Q3)}(nd:fs.Nodup)(hf:∀f,f∈fs↔cw ss ps f)
include T nd hf
theorem zcf{k:Nat}(hk:k<ss.length){q:Q3}(qw:0<q.w):ah ((kM fs.length).map λj=>decide (k∈zy ss (fs.getD j zQ))&&aX (fs.getD j zQ) q)=aX (ss.getD k zQ) q:=by
 have gm:∀i,i<fs.length->cw ss ps (fs.getD i zQ):=λi h=>(hf _).mp (zh h);have gr:∀i,i<(kM fs.length).length->(kM fs.length).getD i 0=i:=λi h=>by grind
 obtain⟨k1,k2,k3⟩:=T.ok _ (zh hk);have same:∀{f:Q3×Q3},eI ss f.1 k->eI ss f.2 k->0<=dX f.1 q->0<dX q f.2->0<f.1.w->0<f.2.w->0<dX (ss.getD k zQ).1 (ss.getD k zQ).2/\(dt f.1 f.2 q<0↔dt (ss.getD k zQ).1 (ss.getD k zQ).2 q<0):=λ{f} o1 o2 h1 h2 w1 w2=>by
  have df:0<dX f.1 f.2:=(zB w1 qw w2).2.1 h1 h2;have e:=y7 (ss.getD k zQ).1 (ss.getD k zQ).2 f.1 f.2 q;obtain⟨z1,i1,i2⟩:=zg o1;obtain⟨z2,j1,j2⟩:=zg o2;rw[z1,z2,uL,uL,gM,gM] at e;have dk:0<dX (ss.getD k zQ).1 (ss.getD k zQ).2:=by
   have a:=(zB k1.pos w1 w2).2.1 (wE i1) df;exact(zB k1.pos w2 k2.pos).2.2 a (wE j2)
  refine⟨dk,?_⟩;rw[<-(yv (x:=dt (ss.getD k zQ).1 (ss.getD k zQ).2 q) df).2,e,(yv (x:=dt f.1 f.2 q) dk).2]
 have sp:∀{f:Q3×Q3},aX f q=true↔0<=dX f.1 q/\0<dX q f.2/\dt f.1 f.2 q<0:=λ{f}=>by
  unfold aX;rw[ue,ue,τ,τ,τ]
 rw[Wz 0 λi j hi hj h1 h2=>?_]
 ·have:(∃a∈kM fs.length,(decide (k∈zy ss (fs.getD a zQ))&&aX (fs.getD a zQ) q)=true)↔aX (ss.getD k zQ) q=true:=by
   constructor
   ·rintro⟨j,hj,z⟩;have hj:=pe.mp hj;rw[ue,τ] at z;obtain⟨z1,z2⟩:=z;obtain⟨_,o1,o2⟩:=yN.mp z1;obtain⟨l1,l2,_⟩:=cw.nb T (gm j hj) hk o1 o2;have p1:=(T.lies l1).2.1.pos;have p2:=(T.lies l2).2.1.pos;obtain⟨x1,x2,x3⟩:=sp.mp z2;obtain⟨dk,ds⟩:=same o1 o2 x1 x2 p1 p2;obtain⟨_,i1,_⟩:=zg o1;obtain⟨_,_,j2⟩:=zg o2;exact sp.mpr ⟨(zB k1.pos p1 qw).1 (wE i1) x1,(zB qw p2 k2.pos).2.2 x2 (wE j2),ds.mp x3⟩
   ·intro z;obtain⟨x1,x2,x3⟩:=sp.mp z;have e1:a8 ss ps (ss.getD k zQ).1 k:=.inl (yB.mpr ⟨hk,.inl rfl⟩);have e2:a8 ss ps (ss.getD k zQ).2 k:=.inl (yB.mpr ⟨hk,.inr rfl⟩);obtain⟨p,_,⟨p2,p3⟩,p4⟩:=YN (k:=4*n+3) (T:=λr=>a8 ss ps r k/\0<=dX r q) (λr h=>(T.lies h.1).2.1) (l:=stC ss ps) ⟨_,wH e1,e1,x1⟩;obtain⟨_,pp,op⟩:=T.lies p2;have np:p≠(ss.getD k zQ).2:=λe=>by
     rw[e] at p3;rw[y6] at p3;lia
    have bp:bq p (ss.getD k zQ).2=true:=by
     cases w:bq p (ss.getD k zQ).2 with
     |true=>rfl
     |false=>exact absurd (xo pp (T.lies e2).2.1 w (zg op).2.2) np
    obtain⟨w,_,⟨w2,w3⟩,w4⟩:=Yi (k:=4*n+3) (T:=λr=>a8 ss ps r k/\bq p r=true) (λr h=>(T.lies h.1).2.1) (l:=stC ss ps) ⟨_,wH e2,e2,bp⟩;have pc:cw ss ps (p,w):=⟨k,p2,w2,w3,λr hr r1 r2=>by have:=w4 r (wH hr) ⟨hr,r1⟩;rw[r2] at this;cases this⟩
    obtain⟨_,pw,ow⟩:=T.lies w2;have xw:0<dX q w:=by
     rcases gL 0 (dX q w) with y|y
     ·exact y
     ·have:=p4 w (wH w2) ⟨w2,by rw[y6];lia⟩
      rw[w3] at this;cases this
    obtain⟨j,hj⟩:=pJ.mp ((hf _).mpr pc);have lj:=(kE.mp hj).1;have ej:fs.getD j zQ=(p,w):=by grind
    refine⟨j,pe.mpr lj,?_⟩;rw[ej,ζ (yN.mpr ⟨hk,op,ow⟩),UO];exact sp.mpr ⟨p3,xw,(same (f:=(p,w)) op ow p3 xw pp.pos pw.pos).2.mpr x3⟩
  cases y:aX (ss.getD k zQ) q with
  |true=>exact ζ (this.mpr y)
  |false=>exact ι λz=>by grind
 ·rw[gr i hi,ue,τ] at h1;rw[gr j hj,ue,τ] at h2;rw[pE] at hi hj;obtain⟨_,o1,o2⟩:=yN.mp h1.1;obtain⟨_,o3,o4⟩:=yN.mp h2.1;obtain⟨l1,l2,l3⟩:=cw.nb T (gm i hi) hk o1 o2;obtain⟨m1,m2,m3⟩:=cw.nb T (gm j hj) hk o3 o4;obtain⟨x1,x2,_⟩:=sp.mp h1.2;obtain⟨y1,y2,_⟩:=sp.mp h2.2;obtain⟨_,_,_,bi,_⟩:=gm i hi;obtain⟨_,_,_,bj,_⟩:=gm j hj;have pl1:=(T.lies l1).2.1;have pl2:=(T.lies l2).2.1;have pm1:=(T.lies m1).2.1;have pm2:=(T.lies m2).2.1;have n1:bq (fs.getD i zQ).1 (fs.getD j zQ).1=false:=by
   cases z:bq (fs.getD i zQ).1 (fs.getD j zQ).1 with
   |false=>rfl
   |true=>
    exfalso
    have w:bq (fs.getD j zQ).1 (fs.getD i zQ).2=true:=wJ ((zB pm1.pos qw pl2.pos).2.1 y1 x2);exact l3 _ m1 z w
  have n2:bq (fs.getD j zQ).1 (fs.getD i zQ).1=false:=by
   cases z:bq (fs.getD j zQ).1 (fs.getD i zQ).1 with
   |false=>rfl
   |true=>
    exfalso
    have w:bq (fs.getD i zQ).1 (fs.getD j zQ).2=true:=wJ ((zB pl1.pos qw pm2.pos).2.1 x1 y2);exact m3 _ l1 z w
  have ef:=xo pl1 pm1 n1 n2;refine jm nd zQ hi hj (Qo ef (xo pl2 pm2 ?_ ?_))
  ·grind
  ·grind
theorem zb7(sel:Nat->Bool){q:Q3}(qw:0<q.w):ah ((kM fs.length).map λj=>ah ((kM ss.length).map λk=>sel k&&decide (k∈zy ss (fs.getD j zQ)))&&aX (fs.getD j zQ) q)=ah ((kM ss.length).map λk=>sel k&&aX (ss.getD k zQ) q):=by
 rw[yk (g:=λj=>ah ((kM ss.length).map λk=>sel k&&(decide (k∈zy ss (fs.getD j zQ))&&aX (fs.getD j zQ) q))) λj _=>by
  rw[Hp,<-vA];refine yk λk _=>?_;generalize aX (fs.getD j zQ) q=a;generalize decide (k∈zy ss (fs.getD j zQ))=b
  cases sel k<;>cases a<;>cases b<;>rfl]
 rw[YY];refine yk λk hk=>?_;rw[vA,zcf T nd hf (pe.mp hk) qw]
end
def xW{n:Nat}{ss:List (Q3×Q3)}{ps:List (Nat×Nat)}{g:Int}(T:zu n ss ps g){fs:List (Q3×Q3)}(up:u7 fs)(hf:∀f,f∈fs↔cw ss ps f):Ap (4*n+3) fs where
 ok:=λf h=>by
  obtain⟨k,h1,h2,h3,_⟩:=(hf f).mp h;exact⟨(T.lies h1).2.1,(T.lies h2).2.1,h3⟩
 nd:=up.imp λ{a b} h e=>by rw[e,qT] at h;cases h
 ap:=λe he f u9 ne=>T.apart ((hf e).mp he) ((hf f).mp u9) ne
def VA:(5<=μ)=True:=eq_true (by decide)
end Nu
variable{v:Q3->List Q3}
namespace Nu
noncomputable def eG(L:List (Q3×List Q3)):Dt:=.dT ((L.map pG).map kQ) (L.map λx=>.list (x.2.map eQ))
structure Gr(L:List (Q3×List Q3))(val:Q3->List Q3):Prop where
 nd:(L.map pG).Nodup
 mem:∀p,p∈L.map pG↔val p≠[]
 val:∀x∈L,x.2=val x.1
variable{L:List (Q3×List Q3)}
def Gr.congr{v':Q3->List Q3}(h:Gr L v)(e:∀p,v p=v' p):Gr L v':=⟨h.nd,λp=>by rw[<-e];exact h.mem p,λx hx=>by rw[<-e];exact h.val x hx⟩
theorem za7(h:Gr L v)(p q:Q3)(hL:L.length<=7000000)(hv:(v p).length<=7000000):Gv (vQ (eG L) (eQ p) (eQ q)) λd=>∃L',d=eG L'/\Gr L' (λx=>if x=p then v p++[q] else v x)/\L'.length<=L.length+1:=by
 have l0:L.length<μ:=yE (by lia)
 by_cases c:p∈L.map pG
 ·obtain⟨j,hj,ej⟩:=Y3 (xY.mpr c);rw[kX,kX] at ej;obtain⟨q',ej,eq⟩:=uW.mp ej;obtain⟨x,ex,eq2⟩:=uW.mp ej;have eq3:x.1=p:=eq2.trans (vC eq);obtain⟨x1,ns⟩:=x;subst eq3;dsimp only at*;have hx:=kT ex;have Pf:ns=v x1:=h.val _ hx;have ms:=Yd (f:=pG) (b:=(x1,ns++[q])) ex rfl;have l1:ns.length<μ:=by rw[Pf];exact yE (by lia)
  refine⟨eG (L.set j (x1,ns++[q])),?_,_,rfl,⟨by rw[ms];exact h.nd,λr=>?_,λy hy=>?_⟩,by rw[Qv];lia⟩
  ·unfold eG vQ;simp only[xB,apD,kB,kJ,θ l0,hj,kX,ex,Um,θ l1,ms,ET,ku,kN,UA]
  ·rw[ms,h.mem]
   by_cases e:r=x1
   ·rw[θ e,e];exact⟨λ_=>by simp,λ_=>(h.mem x1).mp c⟩
   ·rw[η e]
  ·rcases ZS h.nd ex hy with z|⟨z1,z2⟩
   ·rw[z,θ rfl,Pf]
   ·rw[η z2];exact h.val y z1
 ·have nm:v p=[]:=pv λz=>c ((h.mem p).mpr z);have pn:zV ((L.map pG).map kQ) (kQ p)=none:=Mine.Nu.posK_none λz=>c (xY.mp z);refine⟨eG (L++[(p,[q])]),?_,_,rfl,⟨?_,λr=>?_,λy hy=>?_⟩,by rw[kW];exact pI _⟩
  ·unfold eG vQ;simp only[xB,kB,kJ,θ l0,pn,ku,kN,UA]
  ·rw[ku];exact QG.mpr ⟨h.nd,QK _ _,λa ha b hb e=>c (by rw[ki.mp hb] at e;have e:a=p:=e;exact e▸ha)⟩
  ·rw[ku,pD,h.mem]
   by_cases e:r=p
   ·rw[θ e];simp[e]
   ·rw[η e];simp[e]
  ·rcases pD.mp hy with z|z
   ·rw[η λe=>c (kh.mpr ⟨y,z,e⟩)];exact h.val y z
   ·rw[ki.mp z,θ rfl,nm];rfl
theorem Vl(h:Gr L v){p:Q3}(hp:p∈L.map pG):yn (eG L) (eQ p)=some (.list ((v p).map eQ)):=by
 simp only[eG,yn,xB,kB];have hv:=h.val;clear h
 induction L with
 |nil=>cases hp
 |cons x L ih=>
  rw[kN,kN,kN,cR]
  by_cases c:kQ x.1=kQ p
  ·rw[θ c,hv x (by simp),vC c]
  ·rw[η c];rw[kN] at hp;rcases kg.mp hp with z|z
   ·exact absurd (by rw[z]) c
   ·exact ih z λy hy=>hv y (by simp[hy])
noncomputable def nN(D:List (Q3×Q3))(p:Q3):List Q3:=(D.filter λd=>decide (d.1=p)).map Ey
noncomputable def g6(D:List (Q3×Q3))(p:Q3):List Q3:=(D.filter λd=>decide (d.2=p)).map pG
noncomputable def aD(D:List (Q3×Q3))(p:Q3):Option Q3:=match nN D p,g6 D p with
 |[g],[c]=>if dt c p g=0 then some g else none
 |_,_=>none
def zdp(D:List (Q3×Q3))(d:Q3×Q3)(p:Q3):nN (D++[d]) p=if p=d.1 then nN D p++[d.2] else nN D p:=by
 unfold nN;rw[gS,ku]
 by_cases e:p=d.1
 ·rw[θ e];simp[e]
 ·rw[η e,UB,η (by simp;exact λz=>e z.symm)];simp
def zej(D:List (Q3×Q3))(d:Q3×Q3)(p:Q3):g6 (D++[d]) p=if p=d.2 then g6 D p++[d.1] else g6 D p:=by
 unfold g6;rw[gS,ku]
 by_cases e:p=d.2
 ·rw[θ e];simp[e]
 ·rw[η e,UB,η (by simp;exact λz=>e z.symm)];simp
def LJ(D:List (Q3×Q3))(p:Q3):(nN D p).length<=D.length/\(g6 D p).length<=D.length:=by
 unfold nN g6;rw[kJ,kJ];exact⟨pZ _ _,pZ _ _⟩
def GS(L:List (Q3×List Q3))(s:Sl):Prop:=s=.ow false 2 (eG L)\/(L=[]/\s=.ow false 1 (.dT [] []))
theorem GS.as2{L:List (Q3×List Q3)}{s:Sl}(h:GS L s):as2 s=some (false,eG L):=by
 rcases h with rfl|⟨rfl,rfl⟩<;>rfl
def GS.frz{s:Sl}(h:GS L s):dD s=.fz (eG L):=by
 rcases h with rfl|⟨rfl,rfl⟩<;>rfl
theorem jG(n:Nat):zr (eN n) (.int 1)=some (.bool (decide (n=1))):=by
 show some (Dt.bool (decide ((n:Int)=1)))=_
 congr 2
 exact ω.mpr (by lia)
theorem PZ{m:Nat}(hm:m<=100000){D:List (Q3×Q3)}(hD:∀d∈D,PQ m d.1/\PQ m d.2)(hl:D.length<=2000000):Gv (Xe [.list (D.map eS)]) λd=>∃qs:List Q3,d=.dT (qs.map kQ) (qs.map λp=>eQ ((aD D p).getD zQ.1))/\qs.Nodup/\∀p,p∈qs↔(aD D p).isSome=true:=by
 unfold Xe
 dsimp! []
 rw[uJ];refine xA (σ:=(List (Q3×List Q3)×Sl)×(List (Q3×List Q3)×Sl)) (λs=>[.fz (.list (D.map eS)),s.1.2,s.2.2,.un,.un,.un]) (λi s=>(Gr s.1.1 (g6 (D.take i))/\GS s.1.1 s.1.2/\s.1.1.length<=i)/\Gr s.2.1 (nN (D.take i))/\GS s.2.1 s.2.2/\s.2.1.length<=i) (([],.ow false 1 (.dT [] [])),([],.ow false 1 (.dT [] []))) rfl
  ⟨⟨⟨.nil,λp=>(by simp[g6]),λx hx=>(by cases hx)⟩,.inr ⟨rfl,rfl⟩,pI _⟩,⟨.nil,λp=>(by simp[nN]),λx hx=>(by cases hx)⟩,.inr ⟨rfl,rfl⟩,pI _⟩ (λi d s hi hs=>?_) λs hs=>?_
 ·obtain⟨⟨C,sC⟩,G,sG⟩:=s;obtain⟨⟨c1,c2,c3⟩,g1,g2,g3⟩:=hs;dsimp only at c1 c2 c3 g1 g2 g3;have cq:=(kE.mp hi).1;have ln:=LJ (D.take i);have lt:(D.take i).length<=2000000:=by rw[pC];lia
  obtain⟨dG,eg,G',rfl,hg,lg⟩:=za7 g1 d.1 d.2 (by lia) (by have:=(ln d.1).1;lia)
  obtain⟨dC,ec,C',rfl,hc,lc⟩:=za7 c1 d.2 d.1 (by lia) (by have:=(ln d.2).2;lia)
  refine⟨_,?_,((C',.ow false 2 (eG C')),G',.ow false 2 (eG G')),rfl,⟨hc.congr λp=>?_,.inl rfl,by dsimp only;lia⟩,hg.congr λp=>?_,.inl rfl,by dsimp only;lia⟩
  ·dsimp! [eS,vG,g2.as2,eg,c2.as2,ec]
  ·rw[pU,hi];show _=g6 (D.take i++[d]) p;rw[zej]
   by_cases e:p=d.2
   ·rw[θ e,θ e,e]
   ·rw[η e,η e]
  ·rw[pU,hi];show _=nN (D.take i++[d]) p;rw[zdp]
   by_cases e:p=d.1
   ·rw[θ e,θ e,e]
   ·rw[η e,η e]
 ·obtain⟨⟨C,sC⟩,G,sG⟩:=s;obtain⟨⟨c1,c2,c3⟩,g1,g2,g3⟩:=hs;dsimp only at c1 c2 c3 g1 g2 g3;rw[uY] at c1 g1;have kd:∀(Z:En),Z[2]?=some (.fz (eG G))->iD (dV 2) Z=some ((G.map pG).map eQ):=λZ h=>by
   unfold iD dV;rw[h];show(yl [eG G]).bind tA=_;have:yl [eG G]=some (.list ((G.map pG).map eQ)):=by
    unfold eG yl;dsimp only;rw[θ,uc]
    ·rfl
    ·rw[Ut];intro k hk;obtain⟨q,_,rfl⟩:=kh.mp hk;exact ζ (wt (by decide:3<=8000000))
   rw[this];rfl
  have gm:∀{p:Q3},p∈G.map pG↔nN D p≠[]:=λ{p}=>g1.mem p;have gco:∀p:Q3,(zY (eG C) (eQ p)).bind (λc=>if c=true then yn (eG C) (eQ p) else some (.list []))=some (.list ((g6 D p).map eQ)):=λp=>by
   rw[show zY (eG C) (eQ p)=some (decide (p∈C.map pG)) from xH _ _ _,kB]
   by_cases c:p∈C.map pG
   ·rw[θ (ζ c),Vl c1 c]
   ·rw[η (by simp[c])]
    have:g6 D p=[]:=pv λz=>c ((c1.mem p).mpr z);rw[this];rfl
  simp only[ao,bK,dC,cf,kB,Qu,Qi,cL,Ah,Ai,g2.frz,aO];rw[kd _ rfl,kB,uJ];refine xA (σ:=Sl×List Q3) (λs=>[.fz (.list (D.map eS)),s.1,.fz (eG G),.un,.un,.ow false 1 (.dT (s.2.map kQ) (s.2.map λp=>eQ ((aD D p).getD zQ.1)))]) (λi s=>dD s.1=.fz (eG C)/\s.2.Nodup/\(∀p,p∈s.2↔p∈(G.map pG).take i/\(aD D p).isSome=true)/\s.2.length<=i) (sC,[]) rfl ⟨c2.frz,.nil,λp=>(by simp),pI _⟩ (λi p s hi hs=>?_) λs hs=>?_
  ·obtain⟨s1,qs⟩:=s;obtain⟨h1,h2,h3,h4⟩:=hs;dsimp only at h1 h2 h3 h4;have hp:=kT hi;have cq:=(kE.mp hi).1;rw[kJ] at cq;have gg:=Vl g1 hp;have np:p∉qs:=λz=>by
    have:=((h3 p).mp z).1;obtain⟨k,hk⟩:=pJ.mp this;rw[Uw] at hk
    by_cases l:k<i
    ·rw[θ l] at hk;have l1:=(kE.mp hk).1;have l2:=(kE.mp hi).1;have:=jm g1.nd zQ.1 l1 l2 (by rw[kG,kG,hk,hi])
     lia
    ·rw[η l] at hk;cases hk
   have mm:∀r,r∈(G.map pG).take (i+1)↔r∈(G.map pG).take i\/r=p:=λr=>by rw[pU,hi,pD];simp
   have skip:(aD D p).isSome=false->(qs.Nodup/\(∀r,r∈qs↔r∈(G.map pG).take (i+1)/\(aD D r).isSome=true)/\qs.length<=i+1):=λz=>by
    refine⟨h2,λr=>?_,by lia⟩
    rw[h3,mm];refine⟨λh=>⟨.inl h.1,h.2⟩,λh=>⟨h.1.elim id λe=>?_,h.2⟩⟩;rw[e,z] at h
    cases h.2
   simp only[gN,kB,Qu,Qi,cL,Ah,Ai,h1]
   by_cases cg:(nN D p).length=1
   ·by_cases cc:(g6 D p).length=1
    ·obtain⟨g,eg⟩:=EV.mp cg;obtain⟨c,ec⟩:=EV.mp cc;have hg:∃d∈D,d.1=p/\d.2=g:=by
      have:g∈nN D p:=by rw[eg];simp
      obtain⟨d,hd,e⟩:=kh.mp this;obtain⟨x1,x2⟩:=ke.mp hd;exact⟨d,x1,ξ x2,e⟩
     have hc:∃d∈D,d.2=p/\d.1=c:=by
      have:c∈g6 D p:=by rw[ec];simp
      obtain⟨d,hd,e⟩:=kh.mp this;obtain⟨x1,x2⟩:=ke.mp hd;exact⟨d,x1,ξ x2,e⟩
     obtain⟨dg,dg1,dg2,dg3⟩:=hg;obtain⟨dc,dc1,dc2,dc3⟩:=hc;have sg:SQ g:=dg3▸SQ.of (hD dg dg1).2 hm;have sp:SQ p:=dg2▸SQ.of (hD dg dg1).1 hm;have sc':SQ c:=dc3▸SQ.of (hD dc dc1).1 hm;have pc:p∈C.map pG:=(c1.mem p).mpr (by rw[ec];simp)
     have gc:=Vl c1 pc;have hkC:zY (eG C) (eQ p)=some true:=by rw[show zY (eG C) (eQ p)=some (decide (p∈C.map pG)) from xH _ _ _,ζ pc]
     have ixg:af (.list ((nN D p).map eQ)) (.int 0)=some (eQ g):=by rw[eg];rfl
     have ixc:af (.list ((g6 D p).map eQ)) (.int 0)=some (eQ c):=by rw[ec];rfl
     have on:aD D p=if dt c p g=0 then some g else none:=by unfold aD;rw[eg,ec]
     have s0:decide (aB (dt c p g)=0)=decide (dt c p g=0):=ω.mpr zF
     by_cases z:dt c p g=0
     ·rw[θ z] at on;have pt:=VY (f:=λp=>eQ ((aD D p).getD zQ.1)) np (yE (by lia))
      rw[on] at pt;refine⟨_,?_,(.fz (eG C),qs++[p]),rfl,rfl,?_,λr=>?_,by dsimp only;rw[kW,QU];lia⟩
      ·dsimp! [gg,yF,jG,ζ cg,hkC,ζ cc,gc,ixg,ixc,Va sc' sp sg,xK,s0,ζ z]
       rw[show eQ g=eQ ((some g).getD zQ.1) from rfl,pt];rfl
      ·exact QG.mpr ⟨h2,QK _ _,λa ha b hb e=>np (by rw[ki.mp hb] at e;exact e▸ha)⟩
      ·dsimp only;rw[pD,ki,h3,mm]
       constructor
       ·rintro(⟨x,y⟩|x)
        ·exact⟨.inl x,y⟩
        ·rw[x,on];exact⟨.inr rfl,rfl⟩
       ·rintro⟨x|x,y⟩
        ·exact .inl ⟨x,y⟩
        ·exact .inr x
     ·rw[η z] at on;obtain⟨k1,k2,k3⟩:=skip (by rw[on];rfl)
      refine⟨_,?_,(.fz (eG C),qs),rfl,rfl,k1,k2,k3⟩
      dsimp! [gg,yF,jG,ζ cg,hkC,ζ cc,gc,ixg,ixc,Va sc' sp sg,xK,s0,ι z]
    ·have on:aD D p=none:=by
      unfold aD
      split
      ·rename_i e1 e2;rw[e2] at cc;exact absurd rfl cc
      ·rfl
     obtain⟨k1,k2,k3⟩:=skip (by rw[on];rfl)
     refine⟨_,?_,(.fz (eG C),qs),rfl,rfl,k1,k2,k3⟩
     dsimp! [gg,yF,jG,ζ cg,gco,ι cc]
   ·have on:aD D p=none:=by
     unfold aD
     split
     ·rename_i e1 e2;rw[e1] at cg;exact absurd rfl cg
     ·rfl
    obtain⟨k1,k2,k3⟩:=skip (by rw[on];rfl)
    refine⟨_,?_,(.fz (eG C),qs),rfl,rfl,k1,k2,k3⟩
    dsimp! [gg,yF,jG,ι cg]
  ·obtain⟨s1,qs⟩:=s;obtain⟨h1,h2,h3,h4⟩:=hs;dsimp only at h1 h2 h3 h4;rw[uY] at h3
   dsimp! []
   refine⟨_,rfl,qs,rfl,h2,λp=>?_⟩;rw[h3];refine⟨λh=>h.2,λh=>⟨gm.mpr λz=>?_,h⟩⟩;unfold aD at h;rw[z] at h
   cases h
end Nu
end
section
namespace Nu
inductive b9 (D:List (Q3×Q3)):Q3->Q3->Prop
 |stop {p:Q3}:aD D p=none->b9 D p p
 |step {p r q:Q3}:aD D p=some r->b9 D r q->b9 D p q
variable{D:List (Q3×Q3)}
theorem b9.det{p q:Q3}(h:b9 D p q):∀{q'},b9 D p q'->q=q':=by
 induction h with
 |stop e=>
  intro q' h'
  cases h' with
  |stop _=>rfl
  |step e' _=>rw[e] at e';cases e'
 |step e _ ih=>
  intro q' h'
  cases h' with
  |stop e'=>rw[e] at e';cases e'
  |step e' h2=>rw[e] at e';cases e';exact ih h2
open Classical in
noncomputable def cE(D:List (Q3×Q3))(p:Q3):Q3:=if h:∃q,b9 D p q then h.choose else p
def qJ{p q:Q3}(h:b9 D p q):cE D p=q:=by
 have e:∃q,b9 D p q:=⟨q,h⟩;unfold cE;rw[dif_pos e];exact e.choose_spec.det h
noncomputable def LK(D:List (Q3×Q3))(od:Dt)(told:List (Q3×Q3))(a b l:Q3):En:=[.fz (.list (D.map eS)),.fz od,.ow false 1 (.list (told.map eS)),.fz (eQ a),.fz (eQ b),.fz (eQ l)]
theorem wh_on{qs:List Q3}(hq:∀p,p∈qs↔(aD D p).isSome=true){told:List (Q3×Q3)}{a b:Q3}{p q:Q3}(h:b9 D p q):∃n,di [] (dB (dM false (dV 5) (dV 1))) (ar 5 (bz (dV 1) (dV 5))) n (LK D (.dT (qs.map kQ) (qs.map λp=>eQ ((aD D p).getD zQ.1))) told a b p)=some (.nx (LK D (.dT (qs.map kQ) (qs.map λp=>eQ ((aD D p).getD zQ.1))) told a b q)):=by
 induction h with
 |@stop p e=>
  have np:p∉qs:=λz=>by have:=(hq p).mp z;rw[e] at this;cases this
  refine⟨1,?_⟩;rw[di]
  dsimp! [LK,xH,ι np]
 |@step p r q e h ih=>
  obtain⟨n,hn⟩:=ih;have mp:p∈qs:=(hq p).mpr (by rw[e];rfl)
  have gt:=vk (f:=λp=>eQ ((aD D p).getD zQ.1)) mp;rw[e] at gt;refine⟨n+1,?_⟩;rw[di];have cc:dB (dM false (dV 5) (dV 1)) (LK D (.dT (qs.map kQ) (qs.map λp=>eQ ((aD D p).getD zQ.1))) told a b p)=some true:=by
   dsimp! [LK,xH,ζ mp]
  have bb:ar 5 (bz (dV 1) (dV 5)) (LK D (.dT (qs.map kQ) (qs.map λp=>eQ ((aD D p).getD zQ.1))) told a b p)=some (.nx (LK D (.dT (qs.map kQ) (qs.map λp=>eQ ((aD D p).getD zQ.1))) told a b r)):=by
   dsimp! [LK,gt]
  rw[cc,kB,θ rfl,bb,kB];exact hn
noncomputable def yy(D:List (Q3×Q3)):List (Q3×Q3):=(D.filter λd=>(aD D d.1).isNone).map λd=>(d.1,cE D d.2)
theorem LL{m:Nat}(hm:m<=100000)(hD:∀d∈D,PQ m d.1/\PQ m d.2)(hl:D.length<=2000000)(hE:∀d∈D,aD D d.1=none->∃q,b9 D d.2 q):qP [.list (D.map eS)]=some (.list ((yy D).map eS)):=by
 suffices Gv (qP [.list (D.map eS)]) λd=>d=.list ((yy D).map eS) by obtain⟨d,e,rfl⟩:=this;exact e
 obtain⟨d0,es,qs,rfl,nd,hq⟩:=PZ hm hD hl;unfold qP
 dsimp! [es]
 rw[uJ];have st:∀i,((D.take i).filter λd=>(aD D d.1).isNone).length<=i:=λi=>uK (pZ _ _) (by rw[pC];lia)
 refine yU (σ:=List (Q3×Q3)) (λs=>[.fz (.list (D.map eS)),.fz (.dT (qs.map kQ) (qs.map λp=>eQ ((aD D p).getD zQ.1))),.ow false 1 (.list (s.map eS)),.un,.un,.un]) (λi s=>s=((D.take i).filter λd=>(aD D d.1).isNone).map λd=>(d.1,cE D d.2)) [] rfl rfl (λi d s hi hs=>?_) λs hs=>?_
 ·have hd:=kT hi;have cq:=(kE.mp hi).1;have tk:(D.take (i+1)).filter (λd=>(aD D d.1).isNone)=(D.take i).filter (λd=>(aD D d.1).isNone)++if(aD D d.1).isNone=true then[d] else[]:=by
   rw[pU,hi,gS]
   congr 1
   show DQ _ [d]=_
   rw[UB];rfl
  cases c:aD D d.1 with
  |some r=>
   have mp:d.1∈qs:=(hq _).mpr (by rw[c];rfl)
   refine⟨s,?_,?_⟩
   ·dsimp! [eS,xH,ζ mp]
   ·rw[tk,c,hs];simp
  |none=>
   have mp:d.1∉qs:=λz=>by have:=(hq _).mp z;rw[c] at this;cases this
   obtain⟨q,t6⟩:=hE d hd c;obtain⟨n,hn⟩:=wh_on hq (told:=s) (a:=d.1) (b:=d.2) t6;have wh:=zcr hn;unfold LK at wh;have ls:s.length<μ:=by rw[hs,kJ];exact yE (by have:=st i;lia)
   refine⟨s++[(d.1,q)],?_,?_⟩
   ·dsimp! [eS,xH,ι mp]
    rw[wh]
    dsimp! [kJ,θ ls,ku]
    rfl
   ·rw[tk,c,hs,ku]
    simp[qJ t6]
 ·rw[uY] at hs;subst hs
  dsimp! []
  exact⟨_,rfl,rfl⟩
noncomputable def xC(x:(Q3×Q3)×(Bool×Bool)):Dt:=.tuple [eS x.1,.bool x.2.1,.bool x.2.2]
noncomputable def ca(rows:List ((Q3×Q3)×(Bool×Bool))):List (Q3×Q3):=rows.flatMap λx=>if x.2.1=x.2.2 then[] else if x.2.1=true then[x.1] else[(x.1.2,x.1.1)]
theorem zcg{m:Nat}(hm:m<=8999){rows:List ((Q3×Q3)×(Bool×Bool))}(hl:rows.length<=2000000)(hD:∀d∈ca rows,PQ m d.1/\PQ m d.2)(hE:∀d∈ca rows,aD (ca rows) d.1=none->∃q,b9 (ca rows) d.2 q/\PQ m q)(nd:(yy (ca rows)).Nodup):
  Gv (bJ [.list (rows.map xC)]) λd=>∃fs,d=.list (fs.map eS)/\fs.Perm (yy (ca rows))/\u7 fs:=by
 have ld:∀i,(ca (rows.take i)).length<=i:=λi=>by
  have:∀l:List ((Q3×Q3)×(Bool×Bool)),(ca l).length<=l.length:=λl=>by
   induction l with
   |nil=>exact pI _
   |cons x l ih=>
    unfold ca at*;rw[UM,kW,kZ];have:(if x.2.1=x.2.2 then[] else if x.2.1=true then[x.1] else[(x.1.2,x.1.1)]).length<=1:=by split;exact QB _;split<;>exact pI _
    lia
  exact uK (this _) (by rw[pC];lia)
 have lD:(ca rows).length<=2000000:=by have:=ld rows.length;rw[uY] at this;lia
 unfold bJ
 dsimp! []
 rw[uJ];refine yU (σ:=List (Q3×Q3)) (λs=>[.fz (.list (rows.map xC)),.ow false 1 (.list (s.map eS)),.un,.un,.un]) (λi s=>s=ca (rows.take i)) [] rfl rfl (λi x s hi hs=>?_) λs hs=>?_
 ·have cq:=(kE.mp hi).1;have ls:s.length<μ:=by rw[hs];exact yE (by have:=ld i;lia)
  obtain⟨f,l,r⟩:=x;have tk:ca (rows.take (i+1))=s++if l=r then[] else if l=true then[f] else[(f.2,f.1)]:=by
   rw[pU,hi,hs];unfold ca;rw[QW]
   simp
  refine⟨ca (rows.take (i+1)),?_,rfl⟩;rw[tk]
  cases l<;>cases r
  ·dsimp! [xC,QM,reduceCtorEq]
  ·dsimp! [xC,yI,yR,kJ,θ ls,ku,reduceCtorEq]
   rfl
  ·dsimp! [xC,yI,yR,kJ,θ ls,ku,reduceCtorEq]
   rfl
  ·dsimp! [xC,QM,reduceCtorEq]
 ·rw[uY] at hs;subst hs;have sd:=LL (by lia) hD lD λd hd z=>let⟨q,h,_⟩:=hE d hd z;⟨q,h⟩
  obtain⟨d,eb,fs,rfl,pm,upf⟩:=JH (n:=m) (m:=2) hm (e:=eS) (pts:=λf=>[f.1,f.2]) zQ (λ_=>rfl) (λa b h=>by injection h with h1 h2;injection h2 with h2 _;exact Qo h1 h2) (xs:=yy (ca rows)) (λf hf=>by
   obtain⟨d,hd,e⟩:=kh.mp hf;obtain⟨d1,d2⟩:=ke.mp hd;obtain⟨q,h,pq⟩:=hE d d1 (Option.isNone_iff_eq_none.mp d2);rw[qJ h] at e;subst e;intro p hp;simp only[kg,QO,or_false] at hp;rcases hp with rfl|rfl
   ·exact(hD d d1).1
   ·exact pq) (λ_ _=>pI _) (by
    have:(yy (ca rows)).length<=(ca rows).length:=by unfold yy;rw[kJ];exact pZ _ _
    lia) nd
  dsimp! [sd,eb]
  exact⟨_,rfl,fs,rfl,pm,upf⟩
end Nu
variable{u:Bool}{a p r:Q3}
namespace Nu
def Ap.fan2{m:Nat}{fs:List (Q3×Q3)}(A:Ap m fs){e f:Q3×Q3}(he:e∈fs)(hf:f∈fs)(ne:e≠f)(h:e.2=f.2):dt e.1 e.2 f.1≠0:=λz=>by
 obtain⟨e1,e2,e3⟩:=A.ok e he;obtain⟨f1,f2,f3⟩:=A.ok f hf;rcases A.ap e he f hf ne with q|q|⟨q,_⟩
 ·rw[h] at q;rw[zf f3] at q;cases q
 ·rw[<-h] at q;rw[zf e3] at q;cases q
 ·have z0:dt e.1 e.2 f.2=0:=by rw[<-h];exact yj _ _
  rcases q ⟨by rw[z];rfl,by rw[z0];rfl⟩ with q|q
  ·rw[<-q,h,zk] at f3;cases f3
  ·rw[<-q,h,zk] at e3;cases e3
noncomputable def bw(u:Bool)(a b:Q3):Bool:=if u=true then bq a b else bq b a
def qi(u:Bool)(a:Q3):bw u a a=false:=by cases u<;>exact zk a
def YB{b:Q3}(h:bw u a b=true):bw u b a=false:=by cases u<;>exact zf h
def qI{n:Nat}{b c:Q3}(ha:PQ n a)(hb:PQ n b)(hc:PQ n c)(h1:bw u a b=true)(h2:bw u b c=true):bw u a c=true:=by
 cases u
 ·exact yA hc hb ha h2 h1
 ·exact yA ha hb hc h1 h2
structure Dr(m:Nat)(fs D:List (Q3×Q3)):Prop where
 A:Ap m fs
 of:∀d∈D,d∈fs\/(d.2,d.1)∈fs
 nd:D.Nodup
 one:∀d∈D,(d.2,d.1)∉D
variable{d:Q3×Q3}
section
variable{m:Nat}{fs D:List (Q3×Q3)}(R:Dr m fs D)
include R
theorem Dr.pq(h:d∈D):PQ m d.1/\PQ m d.2:=by
 rcases R.of d h with z|z
 ·exact⟨(R.A.ok _ z).1,(R.A.ok _ z).2.1⟩
 ·exact⟨(R.A.ok _ z).2.1,(R.A.ok _ z).1⟩
theorem Dr.ends(h:d∈D):d.1∈zE fs/\d.2∈zE fs:=by
 rcases R.of d h with z|z
 ·exact yM z
 ·exact(yM z).symm
theorem Dr.bw{d:Q3×Q3}(h:d∈D):∃u,bw u d.1 d.2=true:=by
 rcases R.of d h with z|z
 ·exact⟨true,(R.A.ok _ z).2.2⟩
 ·exact⟨false,(R.A.ok _ z).2.2⟩
theorem Dr.fs_of(h:d∈D):(bq d.1 d.2=true->d∈fs)/\(bq d.2 d.1=true->(d.2,d.1)∈fs):=by
 rcases R.of d h with z|z
 ·exact⟨λ_=>z,λy=>by rw[zf (R.A.ok _ z).2.2] at y;cases y⟩
 ·exact⟨λy=>(by have:=zf (R.A.ok _ z).2.2;dsimp only at this;rw[this] at y;cases y),λ_=>z⟩
theorem Dr.go{c:Q3}(h1:(c,p)∈D)(h2:(p,r)∈D)(z:dt c p r=0)(hu:Nu.bw u c p=true):Nu.bw u p r=true:=by
 have cr:c≠r:=λe=>R.one _ h1 (e▸h2)
 cases u
 ·have f1:=(R.fs_of h1).2 hu;rcases R.of _ h2 with f2|f2
  ·refine absurd ?_ (R.A.fan f1 f2 (λe=>cr (υ Ey e)) rfl);show dt p c r=0;rw[yG,z];rfl
  ·exact(R.A.ok _ f2).2.2
 ·have f1:=(R.fs_of h1).1 hu;rcases R.of _ h2 with f2|f2
  ·exact(R.A.ok _ f2).2.2
  ·exact absurd z (R.A.fan2 f1 f2 (λe=>cr (υ pG e)) rfl)
end
theorem JS{D:List (Q3×Q3)}(h:aD D p=some r):∃c,nN D p=[r]/\g6 D p=[c]/\dt c p r=0:=by
 unfold aD at h
 split at h
 ·grind
 ·cases h
def qR{D:List (Q3×Q3)}:r∈nN D p↔(p,r)∈D:=by
 unfold nN;simp only[kh,ke,decide_eq_true_eq];exact⟨λ⟨d,⟨h1,h2⟩,h3⟩=>by subst h2;subst h3;exact h1,λh=>⟨(p,r),⟨h,rfl⟩,rfl⟩⟩
def qN{D:List (Q3×Q3)}:r∈g6 D p↔(r,p)∈D:=by
 unfold g6;simp only[kh,ke,decide_eq_true_eq];exact⟨λ⟨d,⟨h1,h2⟩,h3⟩=>by subst h2;subst h3;exact h1,λh=>⟨(r,p),⟨h,rfl⟩,rfl⟩⟩
def Vs{D:List (Q3×Q3)}(h:aD D p=some r)(ha:(a,p)∈D):(p,r)∈D/\dt a p r=0:=by
 obtain⟨c,h1,h2,z⟩:=JS h;have:=qN.mpr ha;rw[h2] at this;rw[ki.mp this];exact⟨qR.mp (by rw[h1];exact ki.mpr rfl),z⟩
def VC{n:Nat}{q:Q3}(h:bw u p r=true)(z1:dt a p r=0)(z2:dt p r q=0):dt a p q=0:=by
 cases u
 ·exact xZ (p:=r) (q:=p) h z1 (wA _ _) (by rw[yG,z2];rfl)
 ·exact xZ (p:=p) (q:=r) h (wA _ _) z1 z2
section
variable{m:Nat}{fs D:List (Q3×Q3)}(R:Dr m fs D)
include R
theorem Dr.way{q:Q3}(h:b9 D p q):∀{a u},(a,p)∈D->Nu.bw u a p=true->Nu.bw u a q=true/\dt a p q=0/\(q=p\/Nu.bw u p q=true)/\∃c,(c,q)∈D/\Nu.bw u c q=true/\aD D q=none:=by
 induction h with
 |@stop p e=>exact λ{a u} h1 h2=>⟨h2,wA _ _,.inl rfl,a,h1,h2,e⟩
 |@step p r q e _ ih=>
  intro a u h1 h2;obtain⟨h3,z⟩:=Vs e h1;have h4:=R.go h1 h3 z h2;obtain⟨i1,i2,i3,c,i4,i5,i6⟩:=ih h3 h4;exact⟨qI (R.pq h1).1 (R.pq h1).2 (R.pq i4).2 h2 i1,VC (n:=0) h4 z i2,.inr i1,c,i4,i5,i6⟩
theorem Dr.ends_at:∀(k:Nat){a p:Q3}{u:Bool},(a,p)∈D->Nu.bw u a p=true->((zE fs).filter (Nu.bw u p)).length<=k->∃q,b9 D p q
 |k,a,p,u,h1,h2,hk=>by
  cases e:aD D p with
  |none=>exact⟨p,.stop e⟩
  |some r=>
   obtain⟨h3,z⟩:=Vs e h1;have h4:=R.go h1 h3 z h2;have sub:(zE fs).filter (Nu.bw u r)=((zE fs).filter (Nu.bw u p)).filter (Nu.bw u r):=by
    rw[Cw];refine Br λx hx=>?_;have px:PQ m x:=R.A.ok.pts x hx
    cases c:Nu.bw u r x with
    |false=>rfl
    |true=>rw[qI (R.pq h3).1 (R.pq h3).2 px h4 c];rfl
   have lt:((zE fs).filter (Nu.bw u r)).length<((zE fs).filter (Nu.bw u p)).length:=by
    rw[sub];refine Ar.mpr ⟨r,ke.mpr ⟨(R.ends h3).2,h4⟩,?_⟩;rw[qi];exact pF
   match k,hk with
   |0,hk=>lia
   |k+1,hk=>
    obtain⟨q,hq⟩:=Dr.ends_at k h3 h4 (by lia)
    exact⟨q,.step e hq⟩
theorem Dr.end'(h:d∈D):∃q,b9 D d.2 q:=by
 obtain⟨u,hu⟩:=R.bw h;exact R.ends_at _ (a:=d.1) h hu (pI _)
theorem Dr.fence(h:d∈D)(hu:Nu.bw u d.1 d.2=true):Nu.bw u d.1 (cE D d.2)=true/\dt d.1 d.2 (cE D d.2)=0/\(cE D d.2=d.2\/Nu.bw u d.2 (cE D d.2)=true)/\∃c,(c,cE D d.2)∈D/\Nu.bw u c (cE D d.2)=true/\aD D (cE D d.2)=none:=by
 obtain⟨q,hq⟩:=R.end' h;rw[qJ hq];exact R.way hq h hu
theorem Dr.same{d':Q3×Q3}(h:d∈D)(h':d'∈D)(e1:d.1=d'.1)(e2:cE D d.2=cE D d'.2):d=d':=by
 obtain⟨u,hu⟩:=R.bw h;obtain⟨v,hv⟩:=R.bw h';obtain⟨a1,a2,_,_⟩:=R.fence h hu;obtain⟨b1,b2,_,_⟩:=R.fence h' hv;rw[<-e1,<-e2] at b1 b2;generalize cE D d.2=q at*;have uv:u=v:=by
  cases u<;>cases v<;>try rfl
  ·rw[show Nu.bw true d.1 q=Nu.bw false q d.1 from rfl,YB a1] at b1;cases b1
  ·rw[show Nu.bw true d.1 q=Nu.bw false q d.1 from rfl,YB b1] at a1;cases a1
 subst uv;refine pv λne=>?_;have z:dt d.1 d.2 d'.2=0:=by
  cases u
  ·refine xZ (a:=d.1) (b:=d.2) (p:=q) (q:=d.1) a1 a2 (jh _ _) ?_;rw[yG,qO,b2];rfl
  ·refine xZ (a:=d.1) (b:=d.2) (p:=d.1) (q:=q) a1 (jh _ _) a2 ?_;rw[qO,b2];rfl
 cases u
 ·refine R.A.fan2 ((R.fs_of h).2 hu) ((R.fs_of h').2 hv) (λe=>ne (Qo e1 (υ pG e))) e1 ?_;show dt d.2 d.1 d'.2=0;rw[yG,z];rfl
 ·exact R.A.fan ((R.fs_of h).1 hu) ((R.fs_of h').1 hv) ne e1 z
theorem Dr.strN:(yy D).Nodup:=by
 unfold yy;refine Bt.mpr ((Qe _ R.nd).imp_of_mem λ{d d'} hd nG ne e=>ne ?_);exact R.same (ke.mp hd).1 (ke.mp nG).1 (FN e).1 (FN e).2
end
end Nu
end
section
variable{n:Nat}{rs:List (List Q3)}
namespace Nu
theorem jE(a b:List Bool):ah (a++b)=(ah a^^ah b):=by
 induction a with
 |nil=>exact(Bn _).symm
 |cons x a ih=>rw[Qm,zS,ih,zS,FO]
theorem w5{α β:Type}(d0:α)(G:α->β)(l:List α):((kM l.length).map λj=>G (l.getD j d0))=l.map G:=by
 refine UH λi=>?_;rw[kX,kX]
 by_cases c:i<l.length
 ·rw[uM c,kH c];show some (G (l.getD i d0))=some (G l[i]);rw[yT d0 c]
 ·rw[uE (l:=l) (by lia),uE (by rw[pE];lia)];rfl
theorem jH{α:Type}(o G:α->Bool):∀l:List α,ah ((l.filter o).map G)=ah (l.map λa=>o a&&G a)
 |[]=>rfl
 |a::l=>by
  rw[UB,kN,zS,<-jH o G l]
  cases o a with
  |false=>rw[η pF,HX,Bn]
  |true=>rw[θ rfl,kN,zS,UO]
theorem VN{α:Type}(c:α->Bool):∀l:List α,ah (l.map c)=decide ((l.filter c).length%2=1)
 |[]=>rfl
 |a::l=>by
  rw[kN,zS,VN c l,UB]
  cases c a with
  |false=>rw[η pF,Bn]
  |true=>
   rw[θ rfl,kZ,Hm]
   by_cases z:(l.filter c).length%2=1
   ·rw[ζ z,ι (by lia)];rfl
   ·rw[ι z,ζ (by lia)];rfl
def Xk(p q:Q3):Ie (eQ p) (eQ q)=some (.bool (!decide (p=q))):=by
 unfold Ie;simp only[XA,kB,JR,and_self,if_true,WG]
theorem jC(h:n<=8000000):bG [eN n]=some ((kM n).map eN):=by
 have e:eN n=.int (n:Int):=rfl;rw[e];simp only[bG];rw[θ ⟨by lia,by lia,by rw[QS];exact AR (yE (by lia))⟩,QS]
 rfl
noncomputable def tF(r:List Q3):List Q3:=r.drop 1++r.take 1
noncomputable def sW(r:List Q3):List (Q3×Q3):=((r.zip (tF r)).filter λf=> !decide (f.1=f.2)).map yC
noncomputable def aq(rs:List (List Q3)):List (Q3×Q3):=rs.flatMap sW
noncomputable def aA(r:List Q3):Dt:=.list (r.map eQ)
theorem P4{α:Type}{f:α->Dt}(l:List α):xc (l.map f) (some 1) none=(l.drop 1).map f/\xc (l.map f) none (some 1)=(l.take 1).map f:=by
 cases l with
 |nil=>exact⟨rfl,rfl⟩
 |cons a l=>
  have h:=jS (f:=f) (a::l) 1 (by rw[kZ];lia)
  exact⟨h.2,h.1⟩
theorem JD(r:List Q3):(sW r).length<=r.length:=by
 unfold sW;rw[kJ];refine uK (pZ _ _) ?_;rw[Qk];lia
def V2{r:List Q3}{f:Q3×Q3}(h:f∈r.zip (tF r)):f.1∈r/\f.2∈r:=by
 obtain⟨h1,h2⟩:=AZ (a:=f.1) (b:=f.2) h;refine⟨h1,?_⟩;rcases pD.mp h2 with z|z
 ·exact Au z
 ·exact UV z
def JM(h:∀r∈rs,∀p∈r,PQ n p):Ss n (aq rs):=λs hs=>by
 obtain⟨r,hr,hs⟩:=Uy.mp hs;obtain⟨f,hf,rfl⟩:=kh.mp hs;obtain⟨h1,h2⟩:=ke.mp hf;obtain⟨m1,m2⟩:=V2 h1;have ne:f.1≠f.2:=λe=>by rw[ζ e] at h2;cases h2
 have p1:=h r hr _ m1;have p2:=h r hr _ m2;unfold yC
 by_cases c:bq f.1 f.2=true
 ·rw[θ c];exact⟨p1,p2,c⟩
 ·rw[η c];refine⟨p2,p1,pv λz=>ne (zJ p1 p2 c z)⟩
theorem zcx(hn:n<=100000)(h:∀r∈rs,∀p∈r,PQ n p)(hl:∀r∈rs,r.length<=1000000)(ht:(rs.flatMap id).length<=1000000):bH [.list (rs.map aA)]=some (.list ((aq rs).map eS)):=by
 suffices Gv (bH [.list (rs.map aA)]) λd=>d=.list ((aq rs).map eS) by obtain⟨d,e,rfl⟩:=this;exact e
 unfold bH
 dsimp! []
 rw[uJ];have st:∀l:List (List Q3),(aq l).length<=(l.flatMap id).length:=λl=>by
  induction l with
  |nil=>exact pI _
  |cons r l ih=>
   unfold aq at*;rw[UM,UM,kW,kW];have:=JD r;show _<=r.length+_;lia
 refine xA (σ:=List (Q3×Q3)) (λs=>[.fz (.list (rs.map aA)),.ow false 1 (.list (s.map eS)),.un,.un,.un]) (λi s=>s=aq (rs.take i)) [] rfl rfl (λi r s hi hs=>?_) λs hs=>?_
 ·have hr:=kT hi;have cq:=(kE.mp hi).1;have lr:=hl r hr;have tk:aq (rs.take (i+1))=aq (rs.take i)++sW r:=by
   unfold aq;rw[pU,hi,QW]
   simp
  have bd:(aq (rs.take i)).length+r.length<=1000000:=by
   have e1:(rs.take (i+1)).flatMap id=(rs.take i).flatMap id++r:=by
    rw[pU,hi,QW];simp
   have e2:rs.flatMap id=(rs.take (i+1)).flatMap id++(rs.drop (i+1)).flatMap id:=by rw[<-QW,uP]
   rw[e2,e1,kW,kW] at ht;have:=st (rs.take i);lia
  have lq:(tF r).length=r.length:=by unfold tF;rw[kW,uF,pC];lia
  have kc:=dZ (f:=eQ) (r.drop 1) (r.take 1) (by rw[uF,pC];lia)
  have zp:wF [.list (r.map eQ),.list ((tF r).map eQ)]=some ((r.zip (tF r)).map λf=>.tuple [eQ f.1,eQ f.2]):=by
   show some _=some _
   rw[List.zipWith_map,List.map_zip_eq_zipWith];rfl
  have sl:∀Z:En,Z[2]?=some (.fz (.list (r.map eQ)))->d2 zM (dE (dV 2) (oS (dC (.int 1))) oN) (dE (dV 2) oN (oS (dC (.int 1)))) Z=some (.list ((tF r).map eQ)):=λZ e=>by
   simp only[d2,dE,dV,e,sF,oS,oN,dC,R0,tA,kB,(P4 r).1,(P4 r).2,kc];rfl
  have e0:gN 2 (aA r) [.fz (.list (rs.map aA)),.ow false 1 (.list (s.map eS)),.un,.un,.un]=some [.fz (.list (rs.map aA)),.ow false 1 (.list (s.map eS)),.fz (.list (r.map eQ)),.un,.un]:=rfl;rw[e0,kB];unfold aO;have e1:iC wF (aa (dV 2) (aa (d2 zM (dE (dV 2) (oS (dC (.int 1))) oN) (dE (dV 2) oN (oS (dC (.int 1))))) ae)) [.fz (.list (rs.map aA)),.ow false 1 (.list (s.map eS)),.fz (.list (r.map eQ)),.un,.un]=some ((r.zip (tF r)).map λf=>.tuple [eQ f.1,eQ f.2]):=by
   unfold iC aa;rw[sl _ rfl];exact zp
  rw[e1,kB];refine yU (σ:=List (Q3×Q3)) (λt=>[.fz (.list (rs.map aA)),.ow false 1 (.list (t.map eS)),.fz (.list (r.map eQ)),.un,.un]) (λj t=>t=s++(((r.zip (tF r)).take j).filter λf=> !decide (f.1=f.2)).map yC) s rfl (by simp) (λj f t hj B6=>?_) λt B6=>?_
  ·have hf:=kT hj;obtain⟨m1,m2⟩:=V2 hf;have p1:=h r hr _ m1;have p2:=h r hr _ m2;have cS:=(kE.mp hj).1;have tk2:((r.zip (tF r)).take (j+1)).filter (λf=> !decide (f.1=f.2))=((r.zip (tF r)).take j).filter (λf=> !decide (f.1=f.2))++if f.1=f.2 then[] else[f]:=by
    rw[pU,hj,gS]
    congr 1
    show DQ _ [f]=_
    rw[UB]
    by_cases c:f.1=f.2
    ·simp[c]
    ·simp[c]
   have lt:t.length<μ:=by
    rw[B6,hs,kW,kJ];refine yE ?_;have:(((r.zip (tF r)).take j).filter λf=> !decide (f.1=f.2)).length<=r.length:=uK (pZ _ _) (by rw[pC,Qk];lia)
    lia
   by_cases c:f.1=f.2
   ·refine⟨t,?_,?_⟩
    ·dsimp! [Xk,ζ c]
    ·rw[tk2,θ c,QM];exact B6
   ·have es:=ze8 (SQ.of p1 (by lia)) (SQ.of p2 (by lia)) c
    refine⟨t++[yC f],?_,?_⟩
    ·dsimp! [Xk,ι c,es,kJ,θ lt,ku]
     rfl
    ·rw[tk2,η c,ku,<-ui,<-B6];rfl
  ·rw[uY] at B6;refine⟨_,rfl,aq (rs.take (i+1)),?_,rfl⟩;rw[tk,<-hs,B6];rfl
 ·rw[uY] at hs;subst hs
  dsimp! []
  exact⟨_,rfl,rfl⟩
def yY(f:En->Option Ou)(Z:En):cf f (.nx Z)=f Z:=rfl
def Ye(f:En->Option Dt)(Z:En):aK f Z=(f Z).bind λd=>some (.rt d Z):=rfl
def jt(d:Dt)(Z:En):cF (.rt d Z)=some d:=rfl
noncomputable def bu(fs:List (Q3×Q3)):List Nat:=fs.map λ_=>1
noncomputable def RY(fs:List (Q3×Q3))(i:Nat):Dt:=.tuple [eS (fs.getD i zQ),eN (spT fs (bu fs) i).1,eN (spT fs (bu fs) i).2]
theorem zc6{m:Nat}(hm:m<=8999){fs:List (Q3×Q3)}(A:Ap m fs)(hl:fs.length<=1900000):bW [.list (fs.map eS)]=some (.list ((kM fs.length).map (RY fs))):=by
 have fl:=zd2 hm A hl (ms:=bu fs) (kJ ..) λa ha=>by
  obtain⟨f,_,rfl⟩:=kh.mp ha
  decide
 have t0:∀x,af (sV x) (.int 0)=some (eN x.1):=λ_=>rfl;have t1:∀x,af (sV x) (.int 1)=some (eN x.2):=λ_=>rfl;have kx:∀i,i<fs.length->af (.list ((kM fs.length).map λi=>sV (spT fs (bu fs) i))) (eN i)=some (sV (spT fs (bu fs) i)):=λi hi=>by
  have lr:i<(kM fs.length).length:=by rw[pE];exact hi
  have r0:(kM fs.length).getD i 0=i:=by rw[yT 0 lr,List.getElem_range]
  rw[dH (f:=λi=>sV (spT fs (bu fs) i)) (xs:=kM fs.length) 0 lr,r0]
 have ef:∀i,RY fs i=.tuple [eS (fs.getD i zQ),eN (spT fs (bu fs) i).1,eN (spT fs (bu fs) i).2]:=λ_=>rfl;generalize (Dt.list ((kM fs.length).map λi=>sV (spT fs (bu fs) i)))=dd at fl kx;generalize spT fs (bu fs)=sp at kx ef;have hg:∀x,iC bG (aa (aj zq (aa (dV 0) ae)) ae) [.fz (.list (fs.map eS)),x]=some ((kM fs.length).map eN):=λx=>by
  have:aa (aj zq (aa (dV 0) ae)) ae [.fz (.list (fs.map eS)),x]=some [eN fs.length]:=by dsimp! [yF]
  unfold iC;rw[this,kB,jC (by lia)]
 unfold bW;generalize bV=kk at fl⊢;generalize iC bG (aa (aj zq (aa (dV 0) ae)) ae)=gg at hg⊢
 dsimp! []
 rw[yH (e:=eS) (h:=λ_=>eN 1) λf hf=>by rfl]
 have e2:(fs.map λ_=>eN 1)=(bu fs).map eN:=by unfold bu;rw[uc];rfl
 rw[e2]
 dsimp! []
 rw[fl,kB,kB,yY,Ye];unfold au;rw[hg,kB];rw[yH (e:=eN) (h:=RY fs) λi hi=>by
  have hi:=pe.mp hi
  dsimp! [dH zQ hi,kx i hi,t0,t1,ef]]
 rw[kB,kB,kB,jt]
end Nu
end
section
namespace Nu
section
def Ap.filter{m:Nat}{fs:List (Q3×Q3)}(A:Ap m fs)(o:Q3×Q3->Bool):Ap m (fs.filter o) where
 ok:=λs hs=>A.ok s (ke.mp hs).1
 nd:=Qe _ A.nd
 ap:=λe he f hf=>A.ap e (ke.mp he).1 f (ke.mp hf).1
noncomputable def y0(v:Q3)(s:Q3×Q3):Bool:=decide (s.1=v)^^decide (s.2=v)
theorem zcj(v:Q3)(f:Q3×Q3):y0 v (yC f)=y0 v f:=by
 unfold yC y0
 split
 ·rfl
 ·grind
theorem za6:∀{a b:List Q3},a.length=b.length->∀(c d:Q3->Bool),ah ((a.zip b).map λf=>c f.1^^d f.2)=(ah (a.map c)^^ah (b.map d))
 |[],[],_,c,d=>rfl
 |x::a,y::b,h,c,d=>by
  rw[Us,kN,kN,kN,zS,zS,zS,za6 (by simpa using h) c d]
  generalize ah (a.map c)=p;generalize ah (b.map d)=q
  cases c x<;>cases d y<;>cases p<;>cases q<;>rfl
theorem LM(r:List Q3):(tF r).length=r.length:=by unfold tF;rw[kW,uF,pC];lia
theorem zd7(v:Q3)(r:List Q3):ah ((sW r).map (y0 v))=false:=by
 unfold sW;rw[uc];have e:(y0 v∘yC)=y0 v:=funext λf=>zcj v f;rw[e,jH];rw[yk (g:=λf:Q3×Q3=>decide (f.1=v)^^decide (f.2=v)) λf _=>by
  unfold y0
  by_cases c:f.1=f.2
  ·grind
  ·rw[ι c];rfl]
 rw[za6 (LM r).symm (λp=>decide (p=v)) (λp=>decide (p=v))];have:ah ((tF r).map λp=>decide (p=v))=ah (r.map λp=>decide (p=v)):=by
  unfold tF;rw[ku,jE,Dd,<-jE,<-ku,uP]
 rw[this,Bool.xor_self]
theorem Xd(v:Q3):∀rs:List (List Q3),ah ((aq rs).map (y0 v))=false
 |[]=>rfl
 |r::rs=>by
  have e:aq (r::rs)=sW r++aq rs:=rfl;rw[e,ku,jE,zd7,Xd v rs];rfl
noncomputable def ze(ss:List (Q3×Q3))(f:Q3×Q3):Bool:=decide ((zy ss f).length%2=1)
noncomputable def ic(ss:List (Q3×Q3))(q:Q3):Bool:=ah (ss.map λs=>aX s q)
noncomputable def zC(ss:List (Q3×Q3))(f:Q3×Q3):Bool:=ic ss (zw f)^^ !lvl f
noncomputable def zA(ss:List (Q3×Q3))(f:Q3×Q3):Q3×Q3:=if zC ss f=true then f else(f.2,f.1)
noncomputable def wL(ss fs:List (Q3×Q3)):List (Q3×Q3):=(fs.filter (ze ss)).map (zA ss)
theorem qV(ss:List (Q3×Q3))(f:Q3×Q3):ah ((kM ss.length).map λk=>true&&decide (k∈zy ss f))=ze ss f:=by
 rw[VN];unfold ze;have:((kM ss.length).filter λk=>true&&decide (k∈zy ss f)).Perm (zy ss f):=W0 (Qe _ EC) ((WP ss f).imp λh e=>by lia) λk=>by
  rw[ke,pe];simp only[UO,decide_eq_true_eq];exact⟨λh=>h.2,λh=>⟨(yN.mp h).1,h⟩⟩
 rw[this.length_eq]
def je{fs:List (Q3×Q3)}{j:Nat}(h:j<fs.length):((bu fs).getD j 0).testBit 0=true:=by
 unfold bu;rw[kG,kX,kH h];show Nat.testBit 1 0=true
 decide
def jU{fs:List (Q3×Q3)}{E:Nat->Bool}{G:Q3×Q3->Bool}(h:∀j,j<fs.length->E j=true):ah ((kM fs.length).map λj=>E j&&G (fs.getD j zQ))=ah (fs.map G):=by
 rw[yk (g:=λj=>G (fs.getD j zQ)) λj hj=>by rw[h j (pe.mp hj),UO],w5]
section
variable{n:Nat}{ss:List (Q3×Q3)}{ps:List (Nat×Nat)}{g:Int}(T:zu n ss ps g){fs:List (Q3×Q3)}(up:u7 fs)(hf:∀f,f∈fs↔cw ss ps f)(cl:∀v,ah (ss.map (y0 v))=false)
include T up hf
theorem X6{q:Q3}(qw:0<q.w):ah ((fs.filter (ze ss)).map λf=>aX f q)=ic ss q:=by
 have h:=zb7 T (xW T up hf).nd hf (λ_=>true) qw;rw[yk (g:=λj=>ze ss (fs.getD j zQ)&&aX (fs.getD j zQ) q) λj _=>by rw[qV],w5 zQ (λf=>ze ss f&&aX f q),<-jH] at h
 rw[h,yk (g:=λj=>aX (ss.getD j zQ) q) λj _=>UO _,w5 zQ λs=>aX s q];rfl
include cl
theorem VD:Evn (fs.filter (ze ss)) λj=>((bu (fs.filter (ze ss))).getD j 0).testBit 0:=λv=>by
 have h:=PY T (xW T up hf).nd hf (sel:=λ_=>true) (λv=>by
  have e:=cl v;rw[<-w5 zQ (y0 v)] at e;rw[<-e];exact yk λj _=>UO _) v
 rw[jU (G:=λf=>decide (f.1=v)) λj=>je,jU (G:=λf=>decide (f.2=v)) λj=>je,jH,jH];rw[<-w5 zQ (λf=>ze ss f&&decide (f.1=v)),<-w5 zQ (λf=>ze ss f&&decide (f.2=v)),<-h]
 congr 1
 ·exact yk λj _=>by dsimp only;rw[qV]
 ·exact yk λj _=>by dsimp only;rw[qV]
theorem zb8{i:Nat}(hi:i<(fs.filter (ze ss)).length):(spT (fs.filter (ze ss)) (bu (fs.filter (ze ss))) i).1.testBit 0=zC ss ((fs.filter (ze ss)).getD i zQ)/\(spT (fs.filter (ze ss)) (bu (fs.filter (ze ss))) i).2.testBit 0= ! zC ss ((fs.filter (ze ss)).getD i zQ):=by
 have A:=(xW T up hf).filter (ze ss);have E:=VD T up hf cl;obtain⟨k1,k2,k3⟩:=A.ok _ (zh hi);have M:=YV k1.pos k2.pos k3;obtain⟨b1,b2,b3⟩:=X9 A E hi M;rw[je hi] at b3;rw[jU (G:=λf=>aX f (zw ((fs.filter (ze ss)).getD i zQ))) λj=>je,X6 T up hf M.w] at b1 b2;unfold zC
 cases l:lvl ((fs.filter (ze ss)).getD i zQ) with
 |true=>
  rw[b3,b1 (qL k3 l)]
  cases ic ss (zw ((fs.filter (ze ss)).getD i zQ))<;>exact⟨rfl,rfl⟩
 |false=>
  have u:dX ((fs.filter (ze ss)).getD i zQ).1 ((fs.filter (ze ss)).getD i zQ).2=0:=by
   unfold lvl at l;rw[Cp] at l;have l:=ξ l;unfold dX;lia
  have b2:=b2 u;rw[b2] at b3;rw[b2];generalize ic ss (zw ((fs.filter (ze ss)).getD i zQ))=p at*;generalize (spT (fs.filter (ze ss)) (bu (fs.filter (ze ss))) i).1.testBit 0=q at*
  revert b3
  cases p<;>cases q<;>decide
end
theorem ZD:∀{l:List Nat},(∀a∈l,a<2)->xs l<2
 |[],_=>by decide
 |a::l,h=>by
  rw[xu];have h1:=h a pH;have h2:=ZD λb hb=>h b (pT _ hb)
  match a,xs l,h1,h2 with
  |0,0,_,_=>decide
  |0,1,_,_=>decide
  |1,0,_,_=>decide
  |1,1,_,_=>decide
variable{fs:List (Q3×Q3)}
theorem zam(j:Nat):(bu fs).getD j 0<2:=by
 unfold bu;rw[kG,kX]
 cases fs[j]? with
 |none=>decide
 |some x=>show 1<2;decide
theorem P5(fs:List (Q3×Q3))(i:Nat):(spT fs (bu fs) i).1<2/\(spT fs (bu fs) i).2<2:=by
 have l1:xO fs (bu fs) i<2:=ZD λa ha=>by
  obtain⟨j,_,rfl⟩:=kh.mp ha;exact zam j
 refine⟨l1,?_⟩;have l2:=zam (fs:=fs) i;show xO fs (bu fs) i^^^(bu fs).getD i 0<2
 match xO fs (bu fs) i,(bu fs).getD i 0,l1,l2 with
 |0,0,_,_=>decide
 |0,1,_,_=>decide
 |1,0,_,_=>decide
 |1,1,_,_=>decide
theorem zan{a:Nat}(h:a<2):decide (a=1)=a.testBit 0:=by grind
noncomputable def wU(ss os:List (Q3×Q3)):List ((Q3×Q3)×(Bool×Bool)):=os.map λf=>(f,zC ss f,! zC ss f)
theorem qE(ss:List (Q3×Q3)):∀os:List (Q3×Q3),ca (wU ss os)=os.map (zA ss)
 |[]=>rfl
 |f::os=>by
  have ih:=qE ss os;unfold ca wU at*;rw[kN,UM,ih,kN];unfold zA
  cases zC ss f<;>rfl
theorem WM{m:Nat}{ss:List (Q3×Q3)}(A:Ap m fs):Dr m (fs.filter (ze ss)) (wL ss fs):=by
 have B:=A.filter (ze ss);have dr:∀f,zA ss f=f\/zA ss f=(f.2,f.1):=λf=>by
  unfold zA
  split
  ·exact .inl rfl
  ·exact .inr rfl
 have no:∀f∈(fs.filter (ze ss)),(f.2,f.1)∉fs.filter (ze ss):=λf h z=>by
  have:=zf (B.ok f h).2.2;have w:=(B.ok _ z).2.2;dsimp only at w;rw[this] at w;cases w
 refine⟨B,λd hd=>?_,?_,λd hd z=>?_⟩
 ·obtain⟨f,h,rfl⟩:=kh.mp hd;rcases dr f with e|e
  ·rw[e];exact .inl h
  ·rw[e];exact .inr h
 ·refine Bt.mpr (B.nd.imp_of_mem λ{a b} ha hb ne e=>?_);rcases dr a with e1|e1<;>rcases dr b with e2|e2
  ·grind
  ·grind
  ·grind
  ·grind
 ·obtain⟨f,h,rfl⟩:=kh.mp hd;obtain⟨f',h',e⟩:=kh.mp z;rcases dr f with e1|e1<;>rcases dr f' with e2|e2
  ·grind
  ·grind
  ·grind
  ·grind
def zc7(l:List Nat):(zq [.list (l.map eN)]).bind (λa=>(some (Dt.int 2)).bind λb=>zx a b)=some (eN (l.length%2)):=by
 rw[yF,kB,kB];show some (Dt.int (Int.fmod (l.length:Int) 2))=some (Dt.int ((l.length%2:Nat):Int));rw[Int.fmod_eq_emod_of_nonneg _ (by decide)]
 rfl
end
structure Vf(n:Nat)(ss fs ls:List (Q3×Q3)):Prop where
 ap:Ap (4*n+3) fs
 pm:ls.Perm (yy (wL ss fs))
 up:u7 ls
 lh:ls.length<=1300000
theorem VT{n:Nat}(hn:4*n+3<=8999){rs:List (List Q3)}(h:∀r∈rs,∀p∈r,PQ n p)(hr:∀r∈rs,r.length<=1000000)(ht:(rs.flatMap id).length<=1000000)(hl:(aq rs).length<64):
  Gv (xk [.list (rs.map aA)]) λd=>∃fs ps g ls,d=.list (ls.map eS)/\zu n (aq rs) ps g/\u7 fs/\(∀f,f∈fs↔cw (aq rs) ps f)/\Vf n (aq rs) fs ls:=by
 have sd:=zcx (n:=n) (by lia) h hr ht
 have cl:=λv=>Xd v rs;have ok:=JM h;generalize aq rs=ss at*;obtain⟨d0,ep,fs,ps,g,rfl,T,up,hf,lf⟩:=VB hn ok hl;have A:=xW T up hf;have lo:(fs.filter (ze ss)).length<=1300000:=uK (pZ _ _) lf;have fl:=zc6 hn (A.filter (ze ss)) (by lia)
 have R:=WM (ss:=ss) A;have lt:=λi hi=>zb8 T up hf cl (i:=i) hi;have er:∀i,i<(fs.filter (ze ss)).length->Dt.tuple [eS ((fs.filter (ze ss)).getD i zQ),.bool (decide ((spT (fs.filter (ze ss)) (bu (fs.filter (ze ss))) i).1=1)),.bool (decide ((spT (fs.filter (ze ss)) (bu (fs.filter (ze ss))) i).2=1))]=xC ((fs.filter (ze ss)).getD i zQ,zC ss ((fs.filter (ze ss)).getD i zQ),! zC ss ((fs.filter (ze ss)).getD i zQ)):=λi hi=>by
  obtain⟨s1,s2⟩:=P5 (fs.filter (ze ss)) i;rw[zan s1,zan s2,(lt i hi).1,(lt i hi).2];rfl
 have fe:=zcg (m:=4*n+3) hn (rows:=wU ss (fs.filter (ze ss))) (by unfold wU;rw[kJ];lia) (λd hd=>by rw[qE] at hd;exact R.pq hd) (λd hd _=>by
  rw[qE] at hd⊢;obtain⟨q,hq⟩:=R.end' hd;obtain⟨u,hu⟩:=R.bw hd;obtain⟨_,_,_,c,hc,_⟩:=R.way hq (a:=d.1) hd hu;exact⟨q,hq,(R.pq hc).2⟩) (by rw[qE];exact R.strN)
 obtain⟨d1,ef,ls,rfl,pm,ul⟩:=fe;rw[qE] at pm;refine⟨_,?_,fs,ps,g,ls,rfl,T,up,hf,A,pm,ul,by
  rw[pm.length_eq];unfold yy;rw[kJ];refine uK (pZ _ _) ?_;rw[kJ];exact lo⟩
 have rw1:(wU ss (fs.filter (ze ss))).map xC=(kM (fs.filter (ze ss)).length).map λi=>xC ((fs.filter (ze ss)).getD i zQ,zC ss ((fs.filter (ze ss)).getD i zQ),! zC ss ((fs.filter (ze ss)).getD i zQ)):=by
  unfold wU;rw[uc,<-w5 zQ];rfl
 have c1:y9 (λd=>(gT 2 (bM (gN 0) (bM (gN 1) eu)) d [.un,.un]).bind λbY=>((dB (d2 zr (d2 zx (aj zq (aa (dV 1) ae)) (dC (.int 2))) (dC (.int 1)))) bY).bind λb=>if b=true then(dV 0 bY).bind λy=>some (some y) else some none) (fs.map (eP ss))=some ((fs.filter (ze ss)).map eS):=by
  refine wB λf u9=>?_;have ko:=zc7 (zy ss f);rw[yF,kB,kB] at ko
  dsimp! [eP,yF,ko,jG]
  unfold ze
  split<;>rfl
 have c2:y9 (λd=>(gT 3 (bM (gN 0) (bM (gN 1) (bM (gN 2) eu))) d [.un,.un,.un]).bind λbY=>(bv bY).bind λb=>if b=true then(aN (aa (dV 0) (aa (d2 zr (dV 1) (dC (.int 1))) (aa (d2 zr (dV 2) (dC (.int 1))) ae))) bY).bind λy=>some (some y) else some none) ((kM (fs.filter (ze ss)).length).map (RY (fs.filter (ze ss))))=some ((wU ss (fs.filter (ze ss))).map xC):=by
  rw[rw1];refine yH λi hi=>?_;have e:=er i (pe.mp hi)
  dsimp! [RY,jG]
  rw[e]
 generalize (wU ss (fs.filter (ze ss))).map xC=rw0 at*;generalize ((kM (fs.filter (ze ss)).length).map (RY (fs.filter (ze ss))))=fl0 at*;clear er rw1 lt R A T lo;unfold xk;generalize bW=k1 at*;generalize bJ=k2 at*;generalize cC=k3 at*;generalize bH=k4 at*;have a1:au 2 [] (iL (aj k3 (aa (aj k4 (aa (dV 0) ae)) ae))) (gT 2 (bM (gN 0) (bM (gN 1) eu))) (dB (d2 zr (d2 zx (aj zq (aa (dV 1) ae)) (dC (.int 2))) (dC (.int 1)))) (dV 0) [.fz (.list (rs.map aA)),.un]=some (.list ((fs.filter (ze ss)).map eS)):=by
  have it:iL (aj k3 (aa (aj k4 (aa (dV 0) ae)) ae)) [.fz (.list (rs.map aA)),.un]=some (fs.map (eP ss)):=by dsimp! [sd,ep]
  unfold au;rw[it];exact υ (λo=>CP o λr=>some (Dt.list r)) c1
 have a2:au 3 [] (iL (aj k1 (aa (dV 1) ae))) (gT 3 (bM (gN 0) (bM (gN 1) (bM (gN 2) eu)))) bv (aN (aa (dV 0) (aa (d2 zr (dV 1) (dC (.int 1))) (aa (d2 zr (dV 2) (dC (.int 1))) ae)))) [.fz (.list (rs.map aA)),.fz (.list ((fs.filter (ze ss)).map eS))]=some (.list rw0):=by
  have it:iL (aj k1 (aa (dV 1) ae)) [.fz (.list (rs.map aA)),.fz (.list ((fs.filter (ze ss)).map eS))]=some fl0:=by dsimp! [fl]
  unfold au;rw[it];exact υ (λo=>CP o λr=>some (Dt.list r)) c2
 generalize au 2 [] _ _ _ _=C1 at*;generalize au 3 [] _ _ _ _=C2 at*
 dsimp! [a1,a2,ef]
end Nu
variable{P:Q3}{u:Bool}{d:Q3×Q3}
namespace Nu
theorem opp{s t vx vy wx wy:Int}(ex:s*vx+t*wx=0)(ey:s*vy+t*wy=0)(hv:LP vx vy)(hw:LP wx wy):(s=0->t=0)/\(0<s->t<0)/\(s<0->0<t):=by
 have key:∀{s t:Int},s*vx+t*wx=0->s*vy+t*wy=0->0<=t->0<=s->s=0/\t=0:=λ{s t} ex ey ht hs=>by
  unfold LP at hv hw;have pos:∀{a b:Int},0<=a->0<b->a*b=0->a=0:=λh1 h2 z=>by
   rcases kj.mp z with y|y
   ·exact y
   ·lia
  have nn:∀{a b:Int},0<=a->0<=b->0<=a*b:=λh1 h2=>pg h1 h2;have vx0:0<=vx:=by lia
  have wx0:0<=wx:=by lia
  have a1:=nn hs vx0;have a2:=nn ht wx0;have z1:s*vx=0:=by omega
  have z2:t*wx=0:=by omega
  rcases hv with hv|⟨hv,Pf⟩<;>rcases hw with hw|⟨hw,hw'⟩
  ·grind
  ·grind
  ·grind
  ·have b1:=nn hs (kY Pf);have b2:=nn ht (kY hw');exact⟨pos hs Pf (by omega),pos ht hw' (by omega)⟩
 have eE:(-s)*vx+(-t)*wx=0/\(-s)*vy+(-t)*wy=0:=by grind
 refine⟨λh=>?_,λh=>?_,λh=>?_⟩
 ·rcases Int.lt_trichotomy t 0 with y|y|y
  ·have:=(key eE.1 eE.2 (by lia) (by lia)).2;lia
  ·exact y
  ·exact(key ex ey (by lia) (by lia)).2
 ·refine EU.mp λy=>?_;have:=(key ex ey y (by lia)).1;lia
 ·refine EU.mp λy=>?_;have:=(key eE.1 eE.2 (by lia) (by lia)).1;lia
theorem zad{a b:Q3}{f:Q3×Q3}(h:dt a b P=0)(F0:dt f.1 f.2 P=0)(F1:bq f.1 P=true)(F2:bq P f.2=true):(dt a b f.1=0->dt a b f.2=0)/\(dt a b f.2=0->dt a b f.1=0)/\(aB (dt a b f.1)=aB (dt a b f.2)->dt a b f.1=0/\dt a b f.2=0):=by
 have e1:=y7 a b f.1 f.2 P;have e2:=ql a b f.1 f.2 P;rw[h,F0,uL,uL,Bg] at e1 e2;have v:=jW (m:=0) (s:=(P,f.2)) F2;have w:=jW (m:=0) (s:=(f.1,P)) F1;dsimp only at v w;have o1:=opp e1.symm e2.symm v w;have o2:=opp (s:=dt a b f.2) (t:=dt a b f.1) (by rw[Cb];exact e1.symm) (by rw[Cb];exact e2.symm) w v
 refine⟨o1.1,o2.1,λz=>?_⟩;rcases wc z with⟨y1,y2⟩|⟨y1,y2⟩|y
 ·grind
 ·grind
 ·exact y
theorem P6{m:Nat}{e f:Q3×Q3}(e1:PQ m e.1)(e2:PQ m e.2)(be:bq e.1 e.2=true)(f1:PQ m f.1)(f2:PQ m f.2)(bf:bq f.1 f.2=true)(h:Apt e f)(hP:PQ m P)(P0:dt e.1 e.2 P=0)(P1:bq e.1 P=true)(P2:bq P e.2=true)(F0:dt f.1 f.2 P=0)(F1:bq P f.1=false)(F2:bq f.2 P=false):False:=by
 rcases h with h|h|⟨h1,h2⟩
 ·rw[yA hP e2 f1 P2 h] at F1;cases F1
 ·rw[yA f2 e1 hP h P1] at F2;cases F2
 ·by_cases c:aB (dt e.1 e.2 f.1)=0/\aB (dt e.1 e.2 f.2)=0
  ·grind
  ·have o:=zad (f:=e) F0 P0 P1 P2;have bad:dt f.1 f.2 e.1=0->dt f.1 f.2 e.2=0->False:=λz1 z2=>by
    have lb:=vm f1 f2 bf z1 z2;exact c ⟨by rw[lb.1];rfl,by rw[lb.2];rfl⟩
   rcases h2 c with z|z|(z|z)|(z|z)
   ·by_cases q1:bq f.1 P=true
    ·by_cases q2:bq P f.2=true
     ·have:=(zad P0 F0 q1 q2).2.2 z;exact c ⟨by rw[this.1];rfl,by rw[this.2];rfl⟩
     ·have e3:P=f.2:=zJ hP f2 q2 (by rw[F2];exact pF)
      rw[e3] at P0;rw[P0] at z;exact c ⟨z,by rw[P0];rfl⟩
    ·have e3:f.1=P:=zJ f1 hP q1 (by rw[F1];exact pF)
     rw[<-e3] at P0;rw[P0] at z;exact c ⟨by rw[P0];rfl,z.symm⟩
   ·grind
   ·have t1:dt f.1 f.2 e.1=0:=by rw[z];exact jh _ _
    exact bad t1 (o.1 t1)
   ·grind
   ·grind
   ·have t1:dt f.1 f.2 e.2=0:=by rw[z];exact wA _ _
    exact bad (o.2.1 t1) t1
def OnD(u:Bool)(d:Q3×Q3)(P:Q3):Prop:=dt d.1 d.2 P=0/\(d.1=P\/bw u d.1 P=true)/\(P=d.2\/bw u P d.2=true)
def InD(u:Bool)(d:Q3×Q3)(P:Q3):Prop:=dt d.1 d.2 P=0/\bw u d.1 P=true/\bw u P d.2=true
noncomputable def C7(u:Bool)(d:Q3×Q3):Q3×Q3:=if u=true then d else(d.2,d.1)
def up_in(h:InD u d P):dt (C7 u d).1 (C7 u d).2 P=0/\bq (C7 u d).1 P=true/\bq P (C7 u d).2=true:=by
 obtain⟨h1,h2,h3⟩:=h
 cases u
 ·exact⟨by show dt d.2 d.1 P=0;rw[yG,h1];rfl,h3,h2⟩
 ·exact⟨h1,h2,h3⟩
def WX(h:OnD u d P):dt (C7 u d).1 (C7 u d).2 P=0/\bq P (C7 u d).1=false/\bq (C7 u d).2 P=false:=by
 obtain⟨h1,h2,h3⟩:=h;have k1:bw u P d.1=false:=by
  rcases h2 with z|z
  ·rw[z];exact qi _ _
  ·exact YB z
 have k2:bw u d.2 P=false:=by
  rcases h3 with z|z
  ·rw[z];exact qi _ _
  ·exact YB z
 cases u
 ·exact⟨by show dt d.2 d.1 P=0;rw[yG,h1];rfl,k2,k1⟩
 ·exact⟨h1,k1,k2⟩
section
variable{m:Nat}{fs D:List (Q3×Q3)}(R:Dr m fs D)
include R
theorem Dr.up_mem(h:d∈D)(hu:Nu.bw u d.1 d.2=true):C7 u d∈fs:=by
 cases u
 ·exact(R.fs_of h).2 hu
 ·exact(R.fs_of h).1 hu
theorem Dr.inn{d':Q3×Q3}(h:d∈D)(h':d'∈D){v:Bool}(hu:Nu.bw u d.1 d.2=true)(hv:Nu.bw v d'.1 d'.2=true)(hP:PQ m P)(i:InD u d P)(o:OnD v d' P):d=d':=by
 have a:=R.up_mem h hu;have b:=R.up_mem h' hv
 by_cases c:C7 u d=C7 v d'
 ·by_cases uv:u=v
  ·subst uv
   cases u
   ·have c:(d.2,d.1)=(d'.2,d'.1):=c;exact Qo (FN c).2 (FN c).1
   ·exact c
  ·refine absurd ?_ (R.one d h)
   cases u<;>cases v
   ·exact absurd rfl uv
   ·have c:(d.2,d.1)=d':=c;rw[c];exact h'
   ·have c:d=(d'.2,d'.1):=c;rw[c];exact h'
   ·exact absurd rfl uv
 ·obtain⟨a1,a2,a3⟩:=R.A.ok _ a;obtain⟨b1,b2,b3⟩:=R.A.ok _ b;obtain⟨i1,i2,i3⟩:=up_in i;obtain⟨o1,o2,o3⟩:=WX o;exact(P6 a1 a2 a3 b1 b2 b3 (R.A.ap _ a _ b c) hP i1 i2 i3 o1 o2 o3).elim
end
end Nu
end
section
variable{a p r b x P:Q3}{v:Bool}
namespace Nu
theorem Yp{l:List Q3}(nd:l.Nodup):l=[a]↔a∈l/\∀x∈l,x=a:=by
 constructor
 ·intro e;subst e;exact⟨ki.mpr rfl,λx hx=>ki.mp hx⟩
 ·intro⟨h1,h2⟩
  match l,nd,h1,h2 with
  |[b],_,_,h2=>rw[h2 b (ki.mpr rfl)]
  |b::c::l,nd,_,h2=>
   have e1:=h2 b pH;have e2:=h2 c (pT _ pH);rw[e1,e2] at nd;exact absurd pH (QN.mp nd).1
def go_nd{D:List (Q3×Q3)}(nd:D.Nodup)(p:Q3):(nN D p).Nodup/\(g6 D p).Nodup:=by
 constructor
 ·refine Bt.mpr ((Qe _ nd).imp_of_mem λ{a b} ha hb ne e=>ne (Qo ?_ e));rw[ξ (ke.mp ha).2,ξ (ke.mp hb).2]
 ·refine Bt.mpr ((Qe _ nd).imp_of_mem λ{a b} ha hb ne e=>ne (Qo e ?_));rw[ξ (ke.mp ha).2,ξ (ke.mp hb).2]
def jQ{D:List (Q3×Q3)}(nd:D.Nodup):aD D p=some r↔((p,r)∈D/\∀r',(p,r')∈D->r'=r)/\∃c,((c,p)∈D/\∀c',(c',p)∈D->c'=c)/\dt c p r=0:=by
 obtain⟨n1,n2⟩:=go_nd nd p
 constructor
 ·intro h;obtain⟨c,h1,h2,z⟩:=JS h;obtain⟨a1,a2⟩:=(Yp n1).mp h1;obtain⟨b1,b2⟩:=(Yp n2).mp h2;exact⟨⟨qR.mp a1,λr' h=>a2 r' (qR.mpr h)⟩,c,⟨qN.mp b1,λc' h=>b2 c' (qN.mpr h)⟩,z⟩
 ·intro⟨⟨a1,a2⟩,c,⟨b1,b2⟩,z⟩;have h1:=(Yp n1).mpr ⟨qR.mpr a1,λx hx=>a2 x (qR.mp hx)⟩;have h2:=(Yp n2).mpr ⟨qN.mpr b1,λx hx=>b2 x (qN.mp hx)⟩;unfold aD;rw[h1,h2];exact θ z
def dA{u:Bool}{q:Q3}(h:bw u a b=true)(hp:dt a b p=0)(hq:dt a b q=0)(hr:dt a b r=0):dt p q r=0:=by
 cases u
 ·exact cD (a:=b) (b:=a) h (by rw[yG,hp];rfl) (by rw[yG,hq];rfl) (by rw[yG,hr];rfl)
 ·exact cD h hp hq hr
def zp{c:Q3}(h:dt a b c=0):dt a c b=0/\dt b a c=0/\dt b c a=0/\dt c a b=0/\dt c b a=0:=by
 have h1:dt a c b=0:=by rw[qO,h];rfl
 have h2:dt b a c=0:=by rw[yG,h];rfl
 have h3:dt b c a=0:=by rw[Zf,h]
 have h4:dt c b a=0:=by rw[Pg,h];rfl
 exact⟨h1,h2,h3,by rw[yG,h1];rfl,h4⟩
def jP{u:Bool}(h:bw u a b=true)(h':bw v a b=true):u=v:=by
 cases u<;>cases v<;>try rfl
 ·have:=zf (show bq b a=true from h);rw[show bw true a b=bq a b from rfl,this] at h';cases h'
 ·have:=zf (show bq b a=true from h');rw[show bw true a b=bq a b from rfl,this] at h;cases h
def M8{u:Bool}(h:bw u a b=true):a≠b:=λe=>by rw[e,qi] at h;cases h
section
variable{m:Nat}{fs D:List (Q3×Q3)}(R:Dr m fs D)
include R
theorem Dr.same_go{y:Q3}(h1:(p,x)∈D)(h2:(p,y)∈D){u:Bool}(b1:Nu.bw u p x=true)(b2:Nu.bw u p y=true)(z:dt p x y=0):x=y:=by
 refine pv λne=>?_;have a:=R.up_mem h1 b1;have b:=R.up_mem h2 b2
 cases u
 ·exact R.A.fan2 a b (λe=>ne (υ pG e)) rfl (by show dt x p y=0;rw[yG,z];rfl)
 ·exact R.A.fan a b (λe=>ne (υ Ey e)) rfl z
theorem Dr.same_co{y:Q3}(h1:(x,p)∈D)(h2:(y,p)∈D){u:Bool}(b1:Nu.bw u x p=true)(b2:Nu.bw u y p=true)(z:dt p x y=0):x=y:=by
 refine pv λne=>?_;have a:=R.up_mem h1 b1;have b:=R.up_mem h2 b2
 cases u
 ·exact R.A.fan a b (λe=>ne (υ Ey e)) rfl z
 ·exact R.A.fan2 a b (λe=>ne (υ pG e)) rfl (by show dt x p y=0;rw[yG,z];rfl)
end
def XF{D:List (Q3×Q3)}{f:Q3×Q3}:f∈yy D↔∃d∈D,aD D d.1=none/\f=(d.1,cE D d.2):=by
 unfold yy;simp only[kh,ke,Option.isNone_iff_eq_none];exact⟨λ⟨d,⟨h1,h2⟩,e⟩=>⟨d,h1,h2,e.symm⟩,λ⟨d,h1,h2,e⟩=>⟨d,⟨h1,h2⟩,e.symm⟩⟩
structure Al(u:Bool)(d e:Q3×Q3):Prop where
 bd:bw u d.1 d.2=true
 be:bw u e.1 e.2=true
 o1:OnD u d e.1
 o2:OnD u d e.2
structure Sub(m:Nat)(fs gs D E:List (Q3×Q3)):Prop where
 R:Dr m fs D
 Q:Dr m gs E
 al:∀e∈E,∃d∈D,∃u,Al u d e
 fst:∀d∈D,∃e∈E,e.1=d.1/\∃u,Al u d e
 lst:∀d∈D,∃e∈E,e.2=d.2/\∃u,Al u d e
 nxt:∀d∈D,∀e∈E,∀u,Al u d e->e.2≠d.2->∃e'∈E,e'.1=e.2/\Al u d e'
 prv:∀d∈D,∀e∈E,∀u,Al u d e->e.1≠d.1->∃e'∈E,e'.2=e.1/\Al u d e'
def jF(D:List (Q3×Q3))(P:Q3):Prop:=∀d∈D,∀u,bw u d.1 d.2=true->¬InD u d P
variable{d:Q3×Q3}
def Dr.noIn{m:Nat}{fs D:List (Q3×Q3)}(R:Dr m fs D)(h:d∈D):jF D d.1/\jF D d.2:=by
 obtain⟨v,hv⟩:=R.bw h
 constructor
 ·intro d' h' u hu i;have:=R.inn h' h hu hv (R.pq h).1 i ⟨jh _ _,.inl rfl,.inr hv⟩;subst this;exact M8 i.2.1 rfl
 ·intro d' h' u hu i;have:=R.inn h' h hu hv (R.pq h).2 i ⟨wA _ _,.inr hv,.inl rfl⟩;subst this;exact M8 i.2.2 rfl
variable{u:Bool}{e:Q3×Q3}
section
variable{m:Nat}{fs gs D E:List (Q3×Q3)}(S:Sub m fs gs D E)
include S
theorem Sub.lo(hd:d∈D)(he:e∈E)(a:Al u d e):bw u d.1 e.2=true/\bw u e.1 d.2=true:=by
 constructor
 ·rcases a.o1.2.1 with z|z
  ·rw[z];exact a.be
  ·exact qI (S.R.pq hd).1 (S.Q.pq he).1 (S.Q.pq he).2 z a.be
 ·rcases a.o2.2.2 with z|z
  ·rw[<-z];exact a.be
  ·exact qI (S.Q.pq he).1 (S.Q.pq he).2 (S.R.pq hd).2 a.be z
theorem Sub.go_at(no:jF D P)(h:(P,x)∈E):∃y u,(P,y)∈D/\Al u (P,y) (P,x):=by
 obtain⟨d,hd,u,a⟩:=S.al _ h;have l:=(S.lo hd h a).2;rcases a.o1.2.1 with z|z
 ·have e:d=(P,d.2):=Qo z rfl;rw[e] at hd a;exact⟨d.2,u,hd,a⟩
 ·exact(no d hd u a.bd ⟨a.o1.1,z,l⟩).elim
theorem Sub.co_at(no:jF D P)(h:(x,P)∈E):∃y u,(y,P)∈D/\Al u (y,P) (x,P):=by
 obtain⟨d,hd,u,a⟩:=S.al _ h;have l:=(S.lo hd h a).1;rcases a.o2.2.2 with z|z
 ·have e:d=(d.1,P):=Qo rfl z.symm;rw[e] at hd a;exact⟨d.1,u,hd,a⟩
 ·exact(no d hd u a.bd ⟨a.o2.1,l,z⟩).elim
theorem Sub.go_one{x' y:Q3}(h:(P,x)∈E)(h':(P,x')∈E)(a:Al u d (P,x))(a':Al v d (P,x')):x=x':=by
 have:=jP a.bd a'.bd;subst this;exact S.Q.same_go h h' a.be a'.be (dA a.bd a.o1.1 a.o2.1 a'.o2.1)
theorem Sub.co_one{x' y:Q3}(h:(x,P)∈E)(h':(x',P)∈E)(a:Al u d (x,P))(a':Al v d (x',P)):x=x':=by
 have:=jP a.bd a'.bd;subst this;exact S.Q.same_co h h' a.be a'.be (dA a.bd a.o2.1 a.o1.1 a'.o1.1)
theorem Sub.fwd(no:jF D P)(h:aD D P=some r):∃x u,(P,x)∈E/\Al u (P,r) (P,x)/\aD E P=some x:=by
 obtain⟨⟨a1,a2⟩,c,⟨b1,b2⟩,z⟩:=(jQ S.R.nd).mp h;obtain⟨e,he,e1,u,a⟩:=S.fst _ a1;obtain⟨f,hf,f1,v,b⟩:=S.lst _ b1;have ee:e=(P,e.2):=Qo e1 rfl;have fe:f=(f.1,P):=Qo rfl f1;rw[ee] at he a;rw[fe] at hf b;refine⟨e.2,u,he,a,(jQ S.Q.nd).mpr ⟨⟨he,λx hx=>?_⟩,f.1,⟨hf,λx hx=>?_⟩,?_⟩⟩
 ·obtain⟨y,w,hy,a'⟩:=S.go_at no hx;rw[a2 y hy] at a';exact S.go_one (y:=P) hx he a' a
 ·obtain⟨y,w,hy,a'⟩:=S.co_at no hx;rw[b2 y hy] at a';exact S.co_one (y:=P) hx hf a' b
 ·have z1:dt c P e.2=0:=VC (n:=0) a.bd z a.o2.1;exact dA b.bd b.o1.1 (wA _ _) z1
theorem Sub.bwd(no:jF D P)(h:aD E P=some x):∃r,aD D P=some r:=by
 obtain⟨⟨a1,a2⟩,c,⟨b1,b2⟩,z⟩:=(jQ S.Q.nd).mp h;obtain⟨r,u,hr,a⟩:=S.go_at no a1;obtain⟨k,v,hk,b⟩:=S.co_at no b1;refine⟨r,(jQ S.R.nd).mpr ⟨⟨hr,λy hy=>?_⟩,k,⟨hk,λy hy=>?_⟩,?_⟩⟩
 ·obtain⟨e,he,e1,w,a'⟩:=S.fst _ hy;have ee:e=(P,e.2):=Qo e1 rfl;rw[ee] at he a';have ex:=a2 _ he;rw[ex] at a';have:=jP a.be a'.be;subst this;exact S.R.same_go hy hr a'.bd a.bd (dA a.be (jh _ _) (zp a'.o2.1).1 (zp a.o2.1).1)
 ·obtain⟨e,he,e1,w,b'⟩:=S.lst _ hy;have ee:e=(e.1,P):=Qo rfl e1;rw[ee] at he b';have ex:=b2 _ he;rw[ex] at b';have:=jP b.be b'.be;subst this;exact S.R.same_co hy hk b'.bd b.bd (dA b.be (wA _ _) (zp b'.o1.1).2.2.2.2 (zp b.o1.1).2.2.2.2)
 ·have q:dt c P r=0:=dA a.be (zp z).2.2.1 (jh _ _) (zp a.o2.1).1;exact dA b.be (zp b.o1.1).2.2.2.2 (wA _ _) q
theorem Sub.bi{e':Q3×Q3}(hd:d∈D)(he:e∈E)(A6:e'∈E)(a:Al u d e)(a':Al u d e')(h:e'.1=e.2):aD E e.2=some e'.2:=by
 have i:InD u d e.2:=⟨a.o2.1,(S.lo hd he a).1,h▸(S.lo hd A6 a').2⟩;have ee':e'=(e.2,e'.2):=Qo h rfl;have ee:e=(e.1,e.2):=rfl;rw[ee'] at A6 a';refine(jQ S.Q.nd).mpr ⟨⟨A6,λx hx=>?_⟩,e.1,⟨he,λx hx=>?_⟩,dA a.bd a.o1.1 a.o2.1 a'.o2.1⟩
 ·obtain⟨d',nG,v,b⟩:=S.al _ hx;have:=S.R.inn hd nG a.bd b.bd (S.Q.pq he).2 i b.o1;subst this;exact S.go_one (y:=x) hx A6 b a'
 ·obtain⟨d',nG,v,b⟩:=S.al _ hx;have:=S.R.inn hd nG a.bd b.bd (S.Q.pq he).2 i b.o2;subst this;exact S.co_one (y:=x) hx he b a
theorem Sub.along{z:Q3}:∀(k:Nat){d e:Q3×Q3}{u:Bool},d∈D->e∈E->Al u d e->((zE gs).filter (bw u e.2)).length<=k->b9 E d.2 z->b9 E e.2 z
 |k,d,e,u,hd,he,a,hk,h=>by
  by_cases c:e.2=d.2
  ·rw[c];exact h
  ·obtain⟨e',A6,e1,a'⟩:=S.nxt d hd e he u a c;have on:=S.bi hd he A6 a a' e1;have b:=a'.be;rw[e1] at b;have sub:(zE gs).filter (bw u e'.2)=((zE gs).filter (bw u e.2)).filter (bw u e'.2):=by
    rw[Cw];refine Br λx hx=>?_;have px:PQ m x:=S.Q.A.ok.pts x hx
    cases c:bw u e'.2 x with
    |false=>rfl
    |true=>rw[qI (S.Q.pq he).2 (S.Q.pq A6).2 px b c];rfl
   have lt:((zE gs).filter (bw u e'.2)).length<((zE gs).filter (bw u e.2)).length:=by
    rw[sub];refine Ar.mpr ⟨e'.2,ke.mpr ⟨(S.Q.ends A6).2,b⟩,?_⟩;rw[qi];exact pF
   match k,hk with
   |0,hk=>lia
   |k+1,hk=>exact .step on (Sub.along k hd A6 a' (by lia) h)
theorem Sub.far{z:Q3}(h:b9 D p z):(∃c,(c,p)∈D)->b9 E p z:=by
 induction h with
 |@stop p e=>
  intro⟨c,hc⟩;have no:=(S.R.noIn hc).2;refine .stop ?_
  cases q:aD E p with
  |none=>rfl
  |some x=>
   obtain⟨r,hr⟩:=S.bwd no q;rw[e] at hr;cases hr
 |@step p r q e _ ih=>
  intro⟨c,hc⟩;obtain⟨hr,_⟩:=Vs e hc;obtain⟨x,u,hx,a,on⟩:=S.fwd (S.R.noIn hc).2 e;exact .step on (S.along _ hr hx a (pI _) (ih ⟨p,hr⟩))
theorem Sub.first(hd:d∈D)(he:e∈E)(a:Al u d e):cE E e.2=cE D d.2:=by
 obtain⟨z,hz⟩:=S.R.end' hd;rw[qJ hz];exact qJ (S.along _ hd he a (pI _) (S.far hz ⟨d.1,hd⟩))
theorem Sub.str(f:Q3×Q3):f∈yy D↔f∈yy E:=by
 rw[XF,XF]
 constructor
 ·intro⟨d,hd,on,e⟩;obtain⟨g,hg,g1,u,a⟩:=S.fst d hd
  refine⟨g,hg,?_,by rw[g1,S.first hd hg a];exact e⟩
  rw[g1]
  cases q:aD E d.1 with
  |none=>rfl
  |some x=>
   obtain⟨r,hr⟩:=S.bwd (S.R.noIn hd).1 q;rw[on] at hr;cases hr
 ·intro⟨g,hg,on,e⟩;obtain⟨d,hd,u,a⟩:=S.al g hg;have g1:g.1=d.1:=pv λne=>by
   obtain⟨g',tD,e',a'⟩:=S.prv d hd g hg u a ne;have:=S.bi hd tD hg a' a e'.symm;rw[e',on] at this;cases this
  refine⟨d,hd,?_,by rw[<-g1,<-S.first hd hg a];exact e⟩
  cases q:aD D d.1 with
  |none=>rfl
  |some r=>
   obtain⟨x,_,_,_,h⟩:=S.fwd (S.R.noIn hd).1 q;rw[<-g1,on] at h;cases h
theorem Sub.perm:(yy D).Perm (yy E):=(Ax S.R.strN S.Q.strN).mpr S.str
end
end Nu
end
section
namespace Nu
section
def P7(ss:List (Q3×Q3))(q:Q3):Prop:=(∃s∈ss,q=s.1\/q=s.2)\/∃s∈ss,∃t∈ss,aJ s.1 s.2 q=true/\aJ t.1 t.2 q=true/\bS s.1 s.2 t.1 t.2≠0
structure cI(N:Nat)(ss:List (Q3×Q3))(q:Q3)(s:Q3×Q3):Prop where
 mem:s∈ss
 on:aJ s.1 s.2 q=true
 pq:PQ N q
 st:P7 ss q
def zG(N:Nat)(ss:List (Q3×Q3))(f:Q3×Q3):Prop:=∃s,cI N ss f.1 s/\cI N ss f.2 s/\bq f.1 f.2=true/\∀r,cI N ss r s->bq f.1 r=true->bq r f.2=true->False
def cI.mono{N:Nat}{A B:List (Q3×Q3)}(h:∀s∈A,s∈B){q:Q3}{s:Q3×Q3}(l:cI N A q s):cI N B q s:=⟨h _ l.mem,l.on,l.pq,by
 rcases l.st with⟨t,ht,z⟩|⟨t,ht,v,hv,z⟩
 ·exact .inl ⟨t,h t ht,z⟩
 ·exact .inr ⟨t,h t ht,v,h v hv,z⟩⟩
variable{s:Q3×Q3}
def wQ{ss:List (Q3×Q3)}(h:s∈ss):∃i,i<ss.length/\ss.getD i zQ=s:=by
 obtain⟨i,hi,e⟩:=uA.mp h;exact⟨i,hi,by rw[yT zQ hi];exact e⟩
section
variable{n:Nat}{ss:List (Q3×Q3)}{ps:List (Nat×Nat)}{g:Int}(T:zu n ss ps g)
include T
theorem xe{q:Q3}{i:Nat}:a8 ss ps q i↔i<ss.length/\cI (4*n+3) ss q (ss.getD i zQ):=by
 constructor
 ·intro h;obtain⟨hi,pq,on⟩:=T.lies h;refine⟨hi,zh hi,on,pq,?_⟩;rcases h with h|⟨x,hx,_,h⟩
  ·obtain⟨l,z⟩:=yB.mp h;exact .inl ⟨_,zh l,z⟩
  ·obtain⟨l1,l2⟩:=T.lt x hx;obtain⟨a1,a2,a3⟩:=T.ok _ (zh l1);obtain⟨b1,b2,b3⟩:=T.ok _ (zh l2);obtain⟨_,o1,o2⟩:=Z1 a1 a2 b1 b2 a3 b3 h
   by_cases c:bS (ss.getD x.1 zQ).1 (ss.getD x.1 zQ).2 (ss.getD x.2 zQ).1 (ss.getD x.2 zQ).2=0
   ·have z1:=xT pq.pos b3 c (zg o1).1 (zg o2).1 (yx _ _);have z2:=xT pq.pos b3 c (zg o1).1 (zg o2).1 (yj _ _);rcases JY a1 a2 b1 b2 a3 b3 z1 z2 h with z|z
    ·exact .inl ⟨_,zh l1,z⟩
    ·exact .inl ⟨_,zh l2,z⟩
   ·exact .inr ⟨_,zh l1,_,zh l2,o1,o2,c⟩
 ·intro⟨hi,l⟩;rcases l.st with⟨s,hs,z⟩|⟨s,hs,t,ht,o1,o2,c⟩
  ·obtain⟨k,hk,e⟩:=wQ hs;exact T.ends hi (yB.mpr ⟨hk,by rw[e];exact z⟩) l.on
  ·obtain⟨j,hj,e⟩:=wQ hs;obtain⟨k,hk,e'⟩:=wQ ht;have:a8 ss ps q j:=T.cross (pI _) hj hk l.pq (by unfold eI;rw[e];exact o1) (by unfold eI;rw[e'];exact o2) (by unfold G4;rw[e,e'];exact c)
   exact T.full hi this l.on
theorem vK{f:Q3×Q3}:cw ss ps f↔zG (4*n+3) ss f:=by
 constructor
 ·intro⟨i,h1,h2,h3,h4⟩;obtain⟨hi,l1⟩:=(xe T).mp h1;exact⟨_,l1,((xe T).mp h2).2,h3,λr hr=>h4 r ((xe T).mpr ⟨hi,hr⟩)⟩
 ·intro⟨s,h1,h2,h3,h4⟩;obtain⟨i,hi,e⟩:=wQ h1.mem;subst e;exact⟨i,(xe T).mpr ⟨hi,h1⟩,(xe T).mpr ⟨hi,h2⟩,h3,λr hr=>h4 r ((xe T).mp hr).2⟩
theorem xX{q:Q3}(h:cI (4*n+3) ss q s):q∈stC ss ps:=by
 obtain⟨i,hi,e⟩:=wQ h.mem;subst e;exact wH ((xe T).mpr ⟨hi,h⟩)
theorem Vu(h:s∈ss):cI (4*n+3) ss s.1 s/\cI (4*n+3) ss s.2 s:=by
 obtain⟨i,hi,e⟩:=wQ h;subst e;exact⟨((xe T).mp (.inl (yB.mpr ⟨hi,.inl rfl⟩))).2,((xe T).mp (.inl (yB.mpr ⟨hi,.inr rfl⟩))).2⟩
theorem LN{f:Q3×Q3}(h:zG (4*n+3) ss f)(hs:s∈ss)(o1:aJ s.1 s.2 f.1=true)(o2:aJ s.1 s.2 f.2=true):cI (4*n+3) ss f.1 s/\cI (4*n+3) ss f.2 s/\∀r,cI (4*n+3) ss r s->bq f.1 r=true->bq r f.2=true->False:=by
 obtain⟨i,hi,e⟩:=wQ hs;subst e;obtain⟨a,b,c⟩:=cw.nb T ((vK T).mpr h) hi o1 o2;exact⟨((xe T).mp a).2,((xe T).mp b).2,λr hr=>c r ((xe T).mpr ⟨hi,hr⟩)⟩
theorem P8{p r:Q3}(hp:cI (4*n+3) ss p s)(hr:cI (4*n+3) ss r s)(b:bq p r=true):∃q,zG (4*n+3) ss (p,q)/\cI (4*n+3) ss q s/\bq p q=true/\∀r,cI (4*n+3) ss r s->bq p r=true->bq r q=false:=by
 obtain⟨q,_,⟨q1,q2⟩,q3⟩:=Yi (k:=4*n+3) (T:=λq=>cI (4*n+3) ss q s/\bq p q=true) (λq h=>h.1.pq) ⟨r,xX T hr,hr,b⟩;refine⟨q,⟨s,hp,q1,q2,λr h1 h2 h3=>?_⟩,q1,q2,λr h1 h2=>q3 r (xX T h1) ⟨h1,h2⟩⟩;have:=q3 r (xX T h1) ⟨h1,h2⟩;dsimp only at h3;rw[this] at h3;cases h3
theorem P9{p r:Q3}(hp:cI (4*n+3) ss p s)(hr:cI (4*n+3) ss r s)(b:bq r p=true):∃q,zG (4*n+3) ss (q,p)/\cI (4*n+3) ss q s/\bq q p=true/\∀r,cI (4*n+3) ss r s->bq r p=true->bq q r=false:=by
 obtain⟨q,_,⟨q1,q2⟩,q3⟩:=YN (k:=4*n+3) (T:=λq=>cI (4*n+3) ss q s/\bq q p=true) (λq h=>h.1.pq) ⟨r,xX T hr,hr,b⟩;refine⟨q,⟨s,q1,hp,q2,λr h1 h2 h3=>?_⟩,q1,q2,λr h1 h2=>q3 r (xX T h1) ⟨h1,h2⟩⟩;have:=q3 r (xX T h1) ⟨h1,h3⟩;dsimp only at h2;rw[this] at h2;cases h2
theorem LO(hs:s∈ss){a b:Q3}(pa:PQ (4*n+3) a)(pb:PQ (4*n+3) b)(oa:aJ s.1 s.2 a=true)(ob:aJ s.1 s.2 b=true)(ab:bq a b=true)(no:∀r,cI (4*n+3) ss r s->bq a r=true->bq r b=true->False):∃f,zG (4*n+3) ss f/\aJ s.1 s.2 f.1=true/\aJ s.1 s.2 f.2=true/\bq a f.1=false/\bq f.2 b=false:=by
 obtain⟨e1,e2⟩:=Vu T hs;obtain⟨p,_,⟨p1,p2⟩,p3⟩:=YN (k:=4*n+3) (T:=λq=>cI (4*n+3) ss q s/\bq a q=false) (λq h=>h.1.pq) ⟨s.1,xX T e1,e1,(zg oa).2.1⟩;obtain⟨q,_,⟨q1,q2⟩,q3⟩:=Yi (k:=4*n+3) (T:=λq=>cI (4*n+3) ss q s/\bq q b=false) (λq h=>h.1.pq) ⟨s.2,xX T e2,e2,(zg ob).2.2⟩;have pq:bq p q=true:=by
  refine pv λz=>?_;have z:=Qc.mpr z;have k:=yw pb.pos q1.pq.pos p1.pq.pos q2 z;rw[yw pb.pos p1.pq.pos pa.pos k p2] at ab;cases ab
 refine⟨(p,q),⟨s,p1,q1,pq,λr h1 h2 h3=>?_⟩,p1.on,q1.on,p2,q2⟩;dsimp only at h2 h3
 cases c1:bq a r with
 |false=>have:=p3 r (xX T h1) ⟨h1,c1⟩;rw[this] at h2;cases h2
 |true=>
  cases c2:bq r b with
  |false=>have:=q3 r (xX T h1) ⟨h1,c2⟩;rw[this] at h3;cases h3
  |true=>exact no r h1 c1 c2
end
end
structure tG(f g:Q3×Q3):Prop where
 bf:bq f.1 f.2=true
 bg:bq g.1 g.2=true
 z1:dt f.1 f.2 g.1=0
 z2:dt f.1 f.2 g.2=0
 l:bq g.1 f.1=false
 r:bq f.2 g.2=false
theorem LR(a b p q:Q3):dt a b q*p.w-dt a b p*q.w=dX a b*dY p q-dY a b*dX p q:=by unfold dt dX dY aS bQ bR bX;grind
section
variable{N:Nat}{f g:Q3×Q3}(U:tG f g)(f1:PQ N f.1)(f2:PQ N f.2)(g1:PQ N g.1)(g2:PQ N g.2)
include U f1 f2 g1 g2
theorem tG.lvl:lvl f=lvl g:=by
 have e:=LR f.1 f.2 g.1 g.2;rw[U.z1,U.z2,uL,uL,IF] at e;have lf:=jW (m:=0) (s:=f) U.bf;have lg:=jW (m:=0) (s:=g) U.bg;have k:∀s:Q3×Q3,Nu.lvl s= !decide (dX s.1 s.2=0):=λs=>by
  unfold Nu.lvl
  congr 1
  refine ω.mpr ?_;unfold dX;lia
 rw[k,k]
 congr 1
 refine ω.mpr ?_;unfold LP at lf lg
 constructor
 ·intro h;rw[h,uL] at e;have:dY f.1 f.2*dX g.1 g.2=0:=by lia
  rcases kj.mp this with z|z
  ·lia
  ·exact z
 ·intro h;rw[h,uR] at e;have:dX f.1 f.2*dY g.1 g.2=0:=by lia
  rcases kj.mp this with z|z
  ·exact z
  ·lia
theorem tG.mid{M:Q3}(h:RX g M):RX f M:=by
 have x1:=wE (a:=f.1) (b:=g.1) U.l;have x2:=wE (a:=g.2) (b:=f.2) U.r;have lv:=U.lvl f1 f2 g1 g2;have k:∀s:Q3×Q3,Nu.lvl s= !decide (dX s.1 s.2=0):=λs=>by
  unfold Nu.lvl
  congr 1
  refine ω.mpr ?_;unfold dX;lia
 rw[k,k] at lv;have lv:dX f.1 f.2=0↔dX g.1 g.2=0:=by grind
 have gx:=yb U.bg;refine⟨h.w,xZ U.bg U.z1 U.z2 h.on,λla=>?_,λua=>?_⟩
 ·obtain⟨m1,m2⟩:=h.lv (by have:=mt lv.mpr (by lia);lia)
  exact⟨(zB f1.pos g1.pos h.w).2.1 x1 m1,(zB h.w g2.pos f2.pos).2.2 m2 x2⟩
 ·obtain⟨m1,m2,m3⟩:=h.up (lv.mp ua);have yf:0<dY f.1 f.2:=by
   have:=jW (m:=0) (s:=f) U.bf;unfold LP at this;lia
  have o1:=Vq f.1 f.2 g.1;have o2:=Vq f.1 f.2 g.2;rw[U.z1,ua,uL,uL] at o1;rw[U.z2,ua,uL,uL] at o2;have w1:dX f.1 g.1=0:=by
   rcases kj.mp (show dY f.1 f.2*dX f.1 g.1=0 by lia) with z|z
   ·lia
   ·exact z
  have w2:dX f.1 g.2=0:=by
   rcases kj.mp (show dY f.1 f.2*dX f.1 g.2=0 by lia) with z|z
   ·lia
   ·exact z
  have w3:dX g.2 f.2=0:=by
   have t1:=(zB f1.pos g2.pos f2.pos).2.1 (by lia:0<=dX f.1 g.2)
   by_cases c:0<dX g.2 f.2
   ·have:=t1 c;lia
   ·lia
  have y1:0<=dY f.1 g.1:=by
   have:=U.l;have s:=xN (p:=g.1) (q:=f.1) (by rw[y6,w1];rfl)
   rw[s] at this;have:=of_decide_eq_false this;have:=vX f.1 g.1;lia
  have y2:0<=dY g.2 f.2:=by
   have:=U.r;have s:=xN (p:=f.2) (q:=g.2) (by rw[y6,w3];rfl)
   rw[s] at this;have:=of_decide_eq_false this;have:=vX g.2 f.2;lia
  have m0:dX f.1 M=0:=by
   have t1:=(zB f1.pos g1.pos h.w).1 (by lia) (by lia)
   have t2:=(zB h.w g1.pos f1.pos).1 (by rw[y6,m1];exact gq _) (by rw[y6,w1];exact gq _)
   have:=y6 f.1 M;lia
  exact⟨m0,(va f1.pos g1.pos h.w).2.1 y1 m2,(va h.w g2.pos f2.pos).2.2 m3 y2⟩
end
variable{f g:Q3×Q3}
section
variable{n:Nat}{A B:List (Q3×Q3)}{ps pt:List (Nat×Nat)}{w w':Int}(TA:zu n A ps w)(TB:zu n B pt w')(AB:∀s∈A,s∈B)
include TA TB AB
theorem Wg(hf:zG (4*n+3) A f)(hg:zG (4*n+3) B g)(U:tG f g):∀t∈A,(aJ t.1 t.2 f.1=true/\aJ t.1 t.2 f.2=true)↔(aJ t.1 t.2 g.1=true/\aJ t.1 t.2 g.2=true):=λt ht=>by
 obtain⟨s,a1,a2,a3,a4⟩:=hf;obtain⟨s',b1,b2,b3,b4⟩:=hg;obtain⟨e1,e2⟩:=Vu TA ht;obtain⟨k1,k2⟩:=Vu TA a1.mem;have lo:bq g.2 f.1=false:=yw a1.pq.pos b1.pq.pos b2.pq.pos U.l (zf U.bg);have hi:bq f.2 g.1=false:=yw b1.pq.pos b2.pq.pos a2.pq.pos (zf U.bg) U.r
 constructor
 ·intro⟨o1,o2⟩;exact⟨xE e1.pq e2.pq a1.pq a2.pq b1.pq U.bf o1 o2 U.z1 U.l hi,xE e1.pq e2.pq a1.pq a2.pq b2.pq U.bf o1 o2 U.z2 lo U.r⟩
 ·intro⟨o1,o2⟩;obtain⟨p1,p2,p3⟩:=zg o1;obtain⟨q1,q2,q3⟩:=zg o2;obtain⟨te⟩:Nonempty (bq t.1 t.2=true):=⟨(TA.ok t ht).2.2⟩;have zf1:dt g.1 g.2 f.1=0:=cD U.bf U.z1 U.z2 (yx _ _);have zf2:dt g.1 g.2 f.2=0:=cD U.bf U.z1 U.z2 (yj _ _);have t1:dt t.1 t.2 f.1=0:=xZ U.bg p1 q1 zf1;have t2:dt t.1 t.2 f.2=0:=xZ U.bg p1 q1 zf2;have ft1:dt f.1 f.2 t.1=0:=cD te t1 t2 (yx _ _);have ft2:dt f.1 f.2 t.2=0:=cD te t1 t2 (yj _ _);have c1:bq f.1 t.1=false:=by
   cases c:bq f.1 t.1 with
   |false=>rfl
   |true=>
    have c2:bq t.1 f.2=true:=by
     refine pv λz=>?_;have z:=Qc.mpr z;have k:=yw a2.pq.pos e1.pq.pos b1.pq.pos z p2;have:=zJ b1.pq a2.pq (by rw[k];exact pF) (by rw[hi];exact pF)
     have y:=U.bg;rw[this] at y;exact absurd U.r (by rw[y];exact Gs)
    exact(a4 t.1 ⟨a1.mem,xE k1.pq k2.pq a1.pq a2.pq e1.pq U.bf a1.on a2.on ft1 (zf c) (zf c2),e1.pq,e1.st⟩ c c2).elim
  have c2:bq t.2 f.2=false:=by
   cases c:bq t.2 f.2 with
   |false=>rfl
   |true=>
    have c2:bq f.1 t.2=true:=by
     refine pv λz=>?_;have z:=Qc.mpr z;have k:=yw b2.pq.pos e2.pq.pos a1.pq.pos q3 z;have:=zJ a1.pq b2.pq (by rw[k];exact pF) (by rw[lo];exact pF)
     have y:=U.bg;rw[<-this] at y;exact absurd U.l (by rw[y];exact Gs)
    exact(a4 t.2 ⟨a1.mem,xE k1.pq k2.pq a1.pq a2.pq e2.pq U.bf a1.on a2.on ft2 (zf c2) (zf c),e2.pq,e2.st⟩ c2 c).elim
  refine⟨yo t1 c1 ?_,yo t2 ?_ c2⟩
  ·exact yw a1.pq.pos a2.pq.pos e2.pq.pos (zf U.bf) c2
  ·exact yw e1.pq.pos a1.pq.pos a2.pq.pos c1 (zf U.bf)
theorem Jw(hf:zG (4*n+3) A f)(hg:zG (4*n+3) B g)(U:tG f g):ze A f=ze A g:=by
 have:(zy A f).Perm (zy A g):=W0 ((WP A f).imp λh e=>by lia) ((WP A g).imp λh e=>by lia) λk=>by
  rw[yN,yN];exact⟨λ⟨h,o⟩=>⟨h,(Wg TA TB AB hf hg U _ (zh h)).mp o⟩,λ⟨h,o⟩=>⟨h,(Wg TA TB AB hf hg U _ (zh h)).mpr o⟩⟩
 unfold ze;rw[this.length_eq]
theorem Q0(hg:zG (4*n+3) B g){t:Q3×Q3}(ht:t∈A)(o1:aJ t.1 t.2 g.1=true)(o2:aJ t.1 t.2 g.2=true):∃f,zG (4*n+3) A f/\tG f g:=by
 obtain⟨h1,h2,h3⟩:=LN TB hg (AB t ht) o1 o2;obtain⟨_,_,_,bg,_⟩:=hg;obtain⟨f,pf,p1,p2,p3,p4⟩:=LO TA ht h1.pq h2.pq o1 o2 bg λr hr=>h3 r (hr.mono AB);obtain⟨s,k1,k2,k3,_⟩:=id pf;have te:=(TA.ok t ht).2.2;exact⟨f,pf,k3,bg,cD te (zg p1).1 (zg p2).1 (zg o1).1,cD te (zg p1).1 (zg p2).1 (zg o2).1,p3,p4⟩
theorem Ju(hf:zG (4*n+3) A f){p:Q3}{s:Q3×Q3}(hs:cI (4*n+3) A f.1 s)(IV:cI (4*n+3) A f.2 s)(bf:bq f.1 f.2=true)(hp:cI (4*n+3) B p s)(l:bq p f.1=false)(r:bq p f.2=true):∃q,zG (4*n+3) B (p,q)/\tG f (p,q):=by
 obtain⟨q,h1,h2,h3,h4⟩:=P8 TB hp (IV.mono AB) r;have te:=(TA.ok s hs.mem).2.2;exact⟨q,h1,bf,h3,cD te (zg hs.on).1 (zg IV.on).1 (zg hp.on).1,cD te (zg hs.on).1 (zg IV.on).1 (zg h2.on).1,l,h4 _ (IV.mono AB) r⟩
theorem VR(hf:zG (4*n+3) A f){p:Q3}{s:Q3×Q3}(hs:cI (4*n+3) A f.1 s)(IV:cI (4*n+3) A f.2 s)(bf:bq f.1 f.2=true)(hp:cI (4*n+3) B p s)(l:bq f.1 p=true)(r:bq f.2 p=false):∃q,zG (4*n+3) B (q,p)/\tG f (q,p):=by
 obtain⟨q,h1,h2,h3,h4⟩:=P9 TB hp (hs.mono AB) l;have te:=(TA.ok s hs.mem).2.2;exact⟨q,h1,bf,h3,cD te (zg hs.on).1 (zg IV.on).1 (zg h2.on).1,cD te (zg hs.on).1 (zg IV.on).1 (zg hp.on).1,h4 _ (hs.mono AB) l,r⟩
theorem V1(hf:zG (4*n+3) A f):(∃q,zG (4*n+3) B (f.1,q)/\tG f (f.1,q))/\∃q,zG (4*n+3) B (q,f.2)/\tG f (q,f.2):=by
 obtain⟨s,h1,h2,h3,_⟩:=id hf;exact⟨Ju TA TB AB hf h1 h2 h3 (h1.mono AB) (zk _) h3,VR TA TB AB hf h1 h2 h3 (h2.mono AB) h3 (zk _)⟩
theorem V6(hf:zG (4*n+3) A f)(hg:zG (4*n+3) B g)(U:tG f g):(g.2≠f.2->∃q,zG (4*n+3) B (g.2,q)/\tG f (g.2,q))/\(g.1≠f.1->∃q,zG (4*n+3) B (q,g.1)/\tG f (q,g.1)):=by
 obtain⟨s,h1,h2,h3,_⟩:=id hf;obtain⟨o1,o2⟩:=(Wg TA TB AB hf hg U s h1.mem).mp ⟨h1.on,h2.on⟩;obtain⟨k1,k2,_⟩:=LN TB hg (AB s h1.mem) o1 o2
 constructor
 ·intro ne;refine Ju TA TB AB hf h1 h2 h3 k2 (yw h1.pq.pos k1.pq.pos k2.pq.pos U.l (zf U.bg)) ?_;exact pv λz=>ne (zJ k2.pq h2.pq z (by rw[U.r];exact pF))
 ·intro ne;refine VR TA TB AB hf h1 h2 h3 k1 ?_ (yw k1.pq.pos k2.pq.pos h2.pq.pos (zf U.bg) U.r);exact pv λz=>ne (zJ k1.pq h1.pq (by rw[U.l];exact pF) z)
end
end Nu
variable{f g:Q3×Q3}
namespace Nu
section
variable{n:Nat}{ss:List (Q3×Q3)}{ps:List (Nat×Nat)}{g:Int}(T:zu n ss ps g){fs:List (Q3×Q3)}(up:u7 fs)(hf:∀f,f∈fs↔cw ss ps f)(cl:∀v,ah (ss.map (y0 v))=false)
include T up hf cl
theorem LU(h:f∈fs)(ho:ze ss f=true){M:Q3}(hM:RX f M):ic ss M=ic ss (zw f):=by
 have A:=(xW T up hf).filter (ze ss);have E:=VD T up hf cl;obtain⟨i,hi,e⟩:=wQ (ke.mpr ⟨h,ho⟩);subst e;obtain⟨k1,k2,k3⟩:=A.ok _ (zh hi);have M':=YV k1.pos k2.pos k3;obtain⟨b1,b2,_⟩:=X9 A E hi M';obtain⟨c1,c2,_⟩:=X9 A E hi hM;rw[jU (G:=λf=>aX f (zw ((fs.filter (ze ss)).getD i zQ))) λj=>je,X6 T up hf M'.w] at b1 b2;rw[jU (G:=λf=>aX f M) λj=>je,X6 T up hf hM.w] at c1 c2;have:=yb k3;rcases(by lia:0<dX ((fs.filter (ze ss)).getD i zQ).1 ((fs.filter (ze ss)).getD i zQ).2\/dX ((fs.filter (ze ss)).getD i zQ).1 ((fs.filter (ze ss)).getD i zQ).2=0) with z|z
 ·rw[<-c1 z,<-b1 z]
 ·rw[<-c2 z,<-b2 z]
end
theorem Q1{N:Nat}{A:List (Q3×Q3)}(U:tG f g)(f1:PQ N f.1)(f2:PQ N f.2)(g1:PQ N g.1)(g2:PQ N g.2)(e:zC A f=zC A g):Al (zC A f) (zA A f) (zA A g):=by
 have lo:bq g.2 f.1=false:=yw f1.pos g1.pos g2.pos U.l (zf U.bg);have hi:bq f.2 g.1=false:=yw g1.pos g2.pos f2.pos (zf U.bg) U.r;have PX:∀{a b:Q3},PQ N a->PQ N b->bq b a=false->a=b\/bq a b=true:=λ{a b} pa pb h=>by
  by_cases c:bq a b=true
  ·exact .inr c
  ·exact .inl (zJ pa pb c (by rw[h];exact pF))
 have t1:=PX f1 g1 U.l;have t2:=PX g2 f2 U.r;have t3:=PX f1 g2 lo;have t4:=PX g1 f2 hi;unfold zA;rw[<-e]
 cases c:zC A f with
 |true=>
  rw[θ rfl,θ rfl];exact⟨U.bf,U.bg,⟨U.z1,t1,t4⟩,⟨U.z2,t3,t2⟩⟩
 |false=>
  rw[η pF,η pF];have s:∀{a b:Q3}{p:Prop},(a=b\/p)->(b=a\/p):=λh=>h.imp Eq.symm id;refine⟨U.bf,U.bg,⟨?_,s t2,s t3⟩,⟨?_,s t4,s t1⟩⟩
  ·show dt f.2 f.1 g.2=0
   rw[yG,U.z2];rfl
  ·show dt f.2 f.1 g.1=0
   rw[yG,U.z1];rfl
theorem VJ{A:List (Q3×Q3)}(b:bq f.1 f.2=true){u:Bool}(h:bw u (zA A f).1 (zA A f).2=true):u=zC A f/\C7 u (zA A f)=f:=by
 unfold zA at*
 cases c:zC A f with
 |true=>
  rw[θ c] at h;have:=jP (v:=true) h b;subst this;exact⟨rfl,by rw[θ rfl];rfl⟩
 |false=>
  rw[η (by rw[c];exact pF)] at h
  have:=jP (v:=false) h b;subst this;exact⟨rfl,by rw[η pF];rfl⟩
def Je{A:List (Q3×Q3)}(bf:bq f.1 f.2=true)(bg:bq g.1 g.2=true){u:Bool}(h:Al u (zA A f) (zA A g)):u=zC A f/\zC A f=zC A g/\tG f g:=by
 obtain⟨e1,e2⟩:=VJ bf h.bd;obtain⟨e3,e4⟩:=VJ bg h.be;obtain⟨a1,a2,a3⟩:=WX h.o1;obtain⟨b1,b2,b3⟩:=WX h.o2;rw[e2] at a1 a2 a3 b1 b2 b3;refine⟨e1,e1.symm.trans e3,?_⟩;have dg:zA A g=if u=true then g else(g.2,g.1):=by rw[e3];rfl
 rw[dg] at a1 a2 a3 b1 b2 b3
 cases u
 ·exact⟨bf,bg,b1,a1,b2,a3⟩
 ·exact⟨bf,bg,a1,b1,a2,b3⟩
section
variable{n:Nat}{A B:List (Q3×Q3)}{ps pt:List (Nat×Nat)}{w w':Int}(TA:zu n A ps w)(TB:zu n B pt w')(AB:∀s∈A,s∈B){fs gs:List (Q3×Q3)}(uf:u7 fs)(hf:∀f,f∈fs↔cw A ps f)(ug:u7 gs)(hg:∀f,f∈gs↔cw B pt f)(cl:∀v,ah (A.map (y0 v))=false)
include TA TB AB uf hf ug hg cl
theorem wD(h:f∈fs)(ho:ze A f=true)(tD:zG (4*n+3) B g)(U:tG f g):zA A g∈wL A gs/\zC A f=zC A g/\Al (zC A f) (zA A f) (zA A g):=by
 have pf:=(vK TA).mp ((hf f).mp h);have F:=(xW TA uf hf).ok f h;have mg:g∈gs:=(hg g).mpr ((vK TB).mpr tD);have G:=(xW TB ug hg).ok g mg;have e:zC A f=zC A g:=by
  have m1:=LU TA uf hf cl h ho (U.mid F.1 F.2.1 G.1 G.2.1 (YV G.1.pos G.2.1.pos U.bg));unfold zC;rw[m1,U.lvl F.1 F.2.1 G.1 G.2.1]
 refine⟨kh.mpr ⟨g,ke.mpr ⟨mg,?_⟩,rfl⟩,e,Q1 U F.1 F.2.1 G.1 G.2.1 e⟩;rw[<-Jw TA TB AB pf tD U];exact ho
theorem V8:Sub (4*n+3) (fs.filter (ze A)) (gs.filter (ze A)) (wL A fs) (wL A gs):=by
 have FA:=xW TA uf hf;have GA:=xW TB ug hg;have pA:∀f,f∈fs->zG (4*n+3) A f:=λf h=>(vK TA).mp ((hf f).mp h);have pB:∀f,f∈gs->zG (4*n+3) B f:=λf h=>(vK TB).mp ((hg f).mp h);refine⟨WM FA,WM GA,λe he=>?_,λd hd=>?_,λd hd=>?_,λd hd e he u a ne=>?_,λd hd e he u a ne=>?_⟩
 ·obtain⟨g,tD,rfl⟩:=kh.mp he;obtain⟨g1,g2⟩:=ke.mp tD;have:zy A g≠[]:=λz=>by unfold ze at g2;rw[z] at g2;cases g2
  obtain⟨k,hk⟩:=DD _ this;obtain⟨l,o1,o2⟩:=yN.mp hk;obtain⟨f,pf,U⟩:=Q0 TA TB AB (pB g g1) (zh l) o1 o2;have mf:f∈fs:=(hf f).mpr ((vK TA).mpr pf);have of:ze A f=true:=by rw[Jw TA TB AB pf (pB g g1) U];exact g2
  obtain⟨_,_,a⟩:=wD TA TB AB uf hf ug hg cl mf of (pB g g1) U;exact⟨zA A f,kh.mpr ⟨f,ke.mpr ⟨mf,of⟩,rfl⟩,_,a⟩
 ·obtain⟨f,u9,rfl⟩:=kh.mp hd;obtain⟨f1,f2⟩:=ke.mp u9;obtain⟨⟨q,hq,U⟩,⟨q',t6,U'⟩⟩:=V1 TA TB AB (pA f f1)
  cases c:zC A f with
  |true=>
   obtain⟨m,e,a⟩:=wD TA TB AB uf hf ug hg cl f1 f2 hq U;refine⟨_,m,?_,_,a⟩;unfold zA;rw[<-e,c];rfl
  |false=>
   obtain⟨m,e,a⟩:=wD TA TB AB uf hf ug hg cl f1 f2 t6 U';refine⟨_,m,?_,_,a⟩;unfold zA;rw[<-e,c];rfl
 ·obtain⟨f,u9,rfl⟩:=kh.mp hd;obtain⟨f1,f2⟩:=ke.mp u9;obtain⟨⟨q,hq,U⟩,⟨q',t6,U'⟩⟩:=V1 TA TB AB (pA f f1)
  cases c:zC A f with
  |true=>
   obtain⟨m,e,a⟩:=wD TA TB AB uf hf ug hg cl f1 f2 t6 U';refine⟨_,m,?_,_,a⟩;unfold zA;rw[<-e,c];rfl
  |false=>
   obtain⟨m,e,a⟩:=wD TA TB AB uf hf ug hg cl f1 f2 hq U;refine⟨_,m,?_,_,a⟩;unfold zA;rw[<-e,c];rfl
 ·obtain⟨f,u9,rfl⟩:=kh.mp hd;obtain⟨f1,f2⟩:=ke.mp u9;obtain⟨g,tD,rfl⟩:=kh.mp he;obtain⟨g1,g2⟩:=ke.mp tD;obtain⟨e1,e2,U⟩:=Je (FA.ok f f1).2.2 (GA.ok g g1).2.2 a;obtain⟨n1,n2⟩:=V6 TA TB AB (pA f f1) (pB g g1) U
  cases c:zC A f with
  |true=>
   obtain⟨q,hq,U'⟩:=n1 λz=>ne (by unfold zA;rw[<-e2,c];exact z)
   obtain⟨m,e,a'⟩:=wD TA TB AB uf hf ug hg cl f1 f2 hq U';refine⟨_,m,?_,e1▸a'⟩;unfold zA;rw[<-e,<-e2,c];rfl
  |false=>
   obtain⟨q,hq,U'⟩:=n2 λz=>ne (by unfold zA;rw[<-e2,c];exact z)
   obtain⟨m,e,a'⟩:=wD TA TB AB uf hf ug hg cl f1 f2 hq U';refine⟨_,m,?_,e1▸a'⟩;unfold zA;rw[<-e,<-e2,c];rfl
 ·obtain⟨f,u9,rfl⟩:=kh.mp hd;obtain⟨f1,f2⟩:=ke.mp u9;obtain⟨g,tD,rfl⟩:=kh.mp he;obtain⟨g1,g2⟩:=ke.mp tD;obtain⟨e1,e2,U⟩:=Je (FA.ok f f1).2.2 (GA.ok g g1).2.2 a;obtain⟨n1,n2⟩:=V6 TA TB AB (pA f f1) (pB g g1) U
  cases c:zC A f with
  |true=>
   obtain⟨q,hq,U'⟩:=n2 λz=>ne (by unfold zA;rw[<-e2,c];exact z)
   obtain⟨m,e,a'⟩:=wD TA TB AB uf hf ug hg cl f1 f2 hq U';refine⟨_,m,?_,e1▸a'⟩;unfold zA;rw[<-e,<-e2,c];rfl
  |false=>
   obtain⟨q,hq,U'⟩:=n1 λz=>ne (by unfold zA;rw[<-e2,c];exact z)
   obtain⟨m,e,a'⟩:=wD TA TB AB uf hf ug hg cl f1 f2 hq U';refine⟨_,m,?_,e1▸a'⟩;unfold zA;rw[<-e,<-e2,c];rfl
end
end Nu
end
section
namespace Nu
theorem J7{n:Nat}:∀{a b:List (Q3×Q3)},(∀f∈a,PQ n f.1/\PQ n f.2)->u7 a->u7 b->a.Perm b->a=b
 |[],b,_,_,_,p=>(List.nil_perm.mp p).symm
 |x::a,[],_,_,_,p=>absurd p.length_eq (by rw[kZ,uS];lia)
 |x::a,y::b,h,ua,ub,p=>by
  have pt:∀f∈x::a,G6 n [f.1,f.2]:=λf hf q hq=>by grind
  have e:x=y:=by
   refine pv λne=>?_;have m1:y∈a:=by grind
   have m2:x∈b:=by grind
   have l1:=(uI.mp ua).1 y m1;have l2:=(uI.mp ub).1 x m2;have:=XZ (pt x pH) (pt y (pT _ m1)) (pt x pH) l1 l2;rw[qT] at this;cases this
  subst e;rw[J7 (λf hf=>h f (pT _ hf)) (uI.mp ua).2 (uI.mp ub).2 ((List.perm_cons x).mp p)]
def Q2{m:Nat}{fs D:List (Q3×Q3)}(R:Dr m fs D):∀f∈yy D,PQ m f.1/\PQ m f.2:=λf hf=>by
 obtain⟨d,hd,_,e⟩:=XF.mp hf;obtain⟨u,hu⟩:=R.bw hd;obtain⟨_,_,_,c,hc,_⟩:=R.fence hd hu;rw[e];exact⟨(R.pq hd).1,(R.pq hc).2⟩
noncomputable def holds(g s:Q3×Q3):Bool:=aJ s.1 s.2 g.1&&aJ s.1 s.2 g.2
theorem Jr(A:List (Q3×Q3))(g:Q3×Q3):ze A g=ah (A.map (holds g)):=by
 rw[<-qV,<-w5 zQ (holds g)];refine yk λk hk=>?_;have hk:=pe.mp hk;rw[UO];unfold holds
 by_cases c:k∈zy A g
 ·obtain⟨_,o1,o2⟩:=yN.mp c;rw[ζ c];unfold eI at o1 o2;rw[o1,o2];rfl
 ·rw[ι c]
  cases o1:aJ (A.getD k zQ).1 (A.getD k zQ).2 g.1 with
  |false=>rfl
  |true=>
   cases o2:aJ (A.getD k zQ).1 (A.getD k zQ).2 g.2 with
   |false=>rfl
   |true=>exact absurd (yN.mpr ⟨hk,o1,o2⟩) c
def zcl{n:Nat}{A A' J:List (Q3×Q3)}{ps R4 pj:List (Nat×Nat)}{w w' wj:Int}(TA:zu n A ps w)(TA':zu n A' R4 w')(TJ:zu n J pj wj)(h1:∀s∈A,s∈J)(h2:∀s∈A',s∈J){fs fs' gs:List (Q3×Q3)}
  (uf:u7 fs)(hf:∀f,f∈fs↔cw A ps f)(uf':u7 fs')(u9:∀f,f∈fs'↔cw A' R4 f)(ug:u7 gs)(hg:∀f,f∈gs↔cw J pj f)(cl:∀v,ah (A.map (y0 v))=false)(cl':∀v,ah (A'.map (y0 v))=false)
  (od:∀g∈gs,ah (A.map (holds g))=ah (A'.map (holds g)))(pa:∀q:Q3,0<q.w->ic A q=ic A' q){ls ls':List (Q3×Q3)}(L:Vf n A fs ls)(L':Vf n A' fs' ls'):ls=ls':=by
 have S:=V8 TA TJ h1 uf hf ug hg cl;have S':=V8 TA' TJ h2 uf' u9 ug hg cl';have G:=xW TJ ug hg;have e:wL A gs=wL A' gs:=by
  unfold wL;have e1:gs.filter (ze A)=gs.filter (ze A'):=Br λg hg=>by rw[Jr,Jr,od g hg]
  rw[e1];refine UF λg hg=>?_;obtain⟨k1,k2,k3⟩:=G.ok g (ke.mp hg).1;unfold zA zC;rw[pa _ (YV k1.pos k2.pos k3).w]
 have p:ls.Perm ls':=L.pm.trans (S.perm.trans (e▸S'.perm.symm|>.trans L'.pm.symm));exact J7 (λf hf=>Q2 S.R f (L.pm.mem_iff.mp hf)) L.up L'.up p
theorem zdf{a b:List Bool}(h:a.Perm b):ah a=ah b:=by
 induction h with
 |nil=>rfl
 |cons x _ ih=>rw[zS,zS,ih]
 |swap x y l=>
  rw[zS,zS,zS,zS];generalize ah l=z
  cases x<;>cases y<;>cases z<;>rfl
 |trans _ _ h1 h2=>exact h1.trans h2
section
variable(φ:Q3->Q3->Bool)
noncomputable def yg:Q3->List Q3->Bool
 |_,[]=>false
 |a,b::l=>φ a b^^yg b l
noncomputable def zD:List Q3->Bool
 |[]=>false
 |a::l=>yg φ a (l++[a])
theorem XS:∀(l:List Q3)(a c d:Q3),yg φ a (l++[c,d])=(yg φ a (l++[c])^^φ c d)
 |[],a,c,d=>by
  show(φ a c^^(φ c d^^false))=((φ a c^^false)^^φ c d)
  rw[FM,FM]
 |b::l,a,c,d=>by
  show(φ a b^^yg φ b (l++[c,d]))=((φ a b^^yg φ b (l++[c]))^^φ c d)
  rw[XS l b c d,FO]
theorem ZQ:∀(a:Q3)(l:List Q3),zD φ (l++[a])=zD φ (a::l)
 |a,[]=>rfl
 |a,b::l=>by
  show yg φ b ((l++[a])++[b])=(φ a b^^yg φ b (l++[a]))
  rw[ui];show yg φ b (l++[a,b])=_;rw[XS,Dd]
theorem Zh:∀(a b:List Q3),zD φ (b++a)=zD φ (a++b)
 |[],b=>by rw[QM];rfl
 |x::a,b=>by
  have h:=Zh a (b++[x]);rw[ui] at h;rw[show b++x::a=b++([x]++a) from rfl,h,<-ui,ZQ];rfl
variable(sy:∀a b,φ a b=φ b a)
include sy
theorem Jp:∀(l:List Q3)(a c:Q3),yg φ a (l++[c])=yg φ c (l.reverse++[a])
 |[],a,c=>by
  show(φ a c^^false)=(φ c a^^false)
  rw[sy]
 |b::l,a,c=>by
  show(φ a b^^yg φ b (l++[c]))=_
  rw[Jp l b c,Bh,ui];show _=yg φ c (l.reverse++[b,a]);rw[XS,Dd,sy a b]
theorem zbb(r:List Q3):zD φ r.reverse=zD φ r:=by
 cases r with
 |nil=>rfl
 |cons a l=>
  rw[Bh,ZQ];show yg φ a (l.reverse++[a])=yg φ a (l++[a]);rw[Jp φ sy l a a]
end
noncomputable def dj(ψ:Q3×Q3->Bool)(a b:Q3):Bool:= !decide (a=b)&&ψ (yC (a,b))
def LV{n:Nat}{a b:Q3}(ha:PQ n a)(hb:PQ n b)(ne:a≠b):yC (a,b)=yC (b,a):=by
 unfold yC
 by_cases c:bq a b=true
 ·rw[θ c,η (by show ¬bq b a=true;rw[zf c];exact pF)]
 ·rw[η c]
  by_cases c2:bq b a=true
  ·rw[θ c2]
  ·exact absurd (zJ ha hb c c2) ne
theorem JB(φ:Q3->Q3->Bool):∀(l:List Q3)(a c:Q3),ah (((a::l).zip (l++[c])).map λf=>φ f.1 f.2)=yg φ a (l++[c])
 |[],a,c=>rfl
 |b::l,a,c=>by
  show ah ((φ a b)::(((b::l).zip (l++[c])).map λf=>φ f.1 f.2))=(φ a b^^yg φ b (l++[c]))
  rw[zS,JB φ l b c]
theorem sdR_X(ψ:Q3×Q3->Bool)(r:List Q3):ah ((sW r).map ψ)=zD (dj ψ) r:=by
 unfold sW;rw[uc,jH]
 cases r with
 |nil=>rfl
 |cons a l=>exact JB (dj ψ) l a a
theorem qv(ψ:Q3×Q3->Bool):∀rs:List (List Q3),ah ((aq rs).map ψ)=ah (rs.map (zD (dj ψ)))
 |[]=>rfl
 |r::rs=>by
  have e:aq (r::rs)=sW r++aq rs:=rfl;rw[e,ku,jE,qv ψ rs,sdR_X];rfl
theorem Zo{φ Q4:Q3->Q3->Bool}:∀{l:List Q3}{a:Q3},(∀x∈a::l,∀y∈a::l,φ x y=Q4 x y)->yg φ a l=yg Q4 a l
 |[],_,_=>rfl
 |b::l,a,h=>by
  show(φ a b^^yg φ b l)=(Q4 a b^^yg Q4 b l)
  rw[h a pH b (pT _ pH),Zo λx hx y hy=>h x (pT _ hx) y (pT _ hy)]
theorem Zx{φ Q4:Q3->Q3->Bool}{r:List Q3}(h:∀x∈r,∀y∈r,φ x y=Q4 x y):zD φ r=zD Q4 r:=by
 cases r with
 |nil=>rfl
 |cons a l=>exact Zo λx hx y hy=>h x (by simp at hx⊢;rcases hx with z|z|z<;>simp[z]) y (by simp at hy⊢;rcases hy with z|z|z<;>simp[z])
def zcv{n:Nat}(ψ:Q3×Q3->Bool){r:List Q3}(h:∀p∈r,PQ n p):zD (dj ψ) r.reverse=zD (dj ψ) r:=by
 classical
 let φ:Q3->Q3->Bool:=λa b=>if PQ n a/\PQ n b then dj ψ a b else false
 have e:∀x y,PQ n x->PQ n y->φ x y=dj ψ x y:=λx y hx hy=>θ ⟨hx,hy⟩;have sy:∀a b,φ a b=φ b a:=λa b=>by
  by_cases c:PQ n a/\PQ n b
  ·rw[e _ _ c.1 c.2,e _ _ c.2 c.1];unfold dj
   by_cases q:a=b
   ·rw[q]
   ·rw[LV c.1 c.2 q,ι q,ι λz=>q z.symm]
  ·show(if _ then _ else _)=(if _ then _ else _)
   rw[η c,η λz=>c z.symm]
 rw[<-Zx (φ:=φ) λx hx y hy=>e x y (h x (QP.mp hx)) (h y (QP.mp hy)),zbb φ sy,Zx λx hx y hy=>e x y (h x hx) (h y hy)]
def JX(φ:Q3->Q3->Bool)(a m b:Q3)(l:List Q3)(h:φ a b=(φ a m^^φ m b)):zD φ (a::m::b::l)=zD φ (a::b::l):=by
 show(φ a m^^(φ m b^^yg φ b (l++[a])))=(φ a b^^yg φ b (l++[a]))
 rw[h,FO]
end Nu
variable{a b M:Q3}
namespace Nu
def B7(a b M:Q3):Prop:=∃k:Int,0<k/\k*M.x=a.x*b.w+b.x*a.w/\k*M.y=a.y*b.w+b.y*a.w/\k*M.w=2*a.w*b.w
theorem B7.symm(h:B7 a b M):B7 b a M:=by
 obtain⟨k,h0,h1,h2,h3⟩:=h;exact⟨k,h0,by rw[h1];lia,by rw[h2];lia,by rw[h3];grind⟩
theorem B7.dir(h:B7 a b M):∃k:Int,0<k/\k*dX a M=a.w*dX a b/\k*dY a M=a.w*dY a b/\k*dX M b=b.w*dX a b/\k*dY M b=b.w*dY a b/\(∀q,k*dt a M q=a.w*dt a b q)/\(∀q,k*dt M b q=b.w*dt a b q)/\dt a b M=0:=by
 obtain⟨k,h0,h1,h2,h3⟩:=h;have e0:k*dt a b M=0:=by unfold dt aS bQ bR bX;grind
 have e0:dt a b M=0:=by
  rcases kj.mp e0 with z|z
  ·lia
  ·exact z
 refine⟨k,h0,?_,?_,?_,?_,λq=>?_,λq=>?_,e0⟩
 ·unfold dX;grind
 ·unfold dY;grind
 ·unfold dX;grind
 ·unfold dY;grind
 ·unfold dt aS bQ bR bX;grind
 ·unfold dt aS bQ bR bX;grind
theorem wZ{k w u v:Int}(hk:0<k)(hw:0<w)(e:k*u=w*v):(0<u↔0<v)/\(u=0↔v=0)/\(u<0↔v<0):=by
 have t:∀{k w u v:Int},0<k->0<w->k*u=w*v->(0<u->0<v)/\(u=0->v=0)/\(u<0->v<0):=λ{k w u v} hk hw e=>by
  refine⟨λh=>?_,λh=>?_,λh=>?_⟩
  ·have:=uB hk h;rw[e,ud] at this;exact(yv hw).1.mp this
  ·rw[h,uR] at e;rcases kj.mp e.symm with z|z
   ·lia
   ·exact z
  ·have:=uB hk (show 0< -u by lia)
   rw[DP,e,<-DP,ud] at this;have:=(yv hw).1.mp this;lia
 have a:=t hk hw e;have b:=t hw hk e.symm;exact⟨⟨a.1,b.1⟩,⟨a.2.1,b.2.1⟩,⟨a.2.2,b.2.2⟩⟩
theorem B7.bq{a b M:Q3}(h:B7 a b M)(aw:0<a.w)(bw:0<b.w)(c:bq a b=true):My.bq a M=true/\My.bq M b=true:=by
 obtain⟨k,h0,x1,y1,x2,y2,_,_,_⟩:=h.dir;have l:=yV.mp c;unfold Lt LP at l;rw[UL,UL] at l;have p1:=wZ h0 aw x1;have q1:=wZ h0 aw y1;have p2:=wZ h0 bw x2;have q2:=wZ h0 bw y2
 constructor
 ·refine yV.mpr ?_;unfold Lt LP;rw[UL,UL,p1.1,p1.2.1,q1.1];exact l
 ·refine yV.mpr ?_;unfold Lt LP;rw[UL,UL,p2.1,p2.2.1,q2.1];exact l
theorem V0{q:Q3}(h:B7 a b M)(aw:0<a.w)(bw:0<b.w)(mw:0<M.w)(qw:0<q.w)(c:bq a b=true):aX (a,b) q=(aX (a,M) q^^aX (M,b) q):=by
 obtain⟨k,h0,x1,y1,x2,y2,t1,t2,_⟩:=h.dir;have p1:=wZ h0 aw x1;have p2:=wZ h0 bw x2;have s1:=(wZ h0 aw (t1 q)).2.2;have s2:=(wZ h0 bw (t2 q)).2.2;unfold aX;dsimp only;rw[ω.mpr s1,ω.mpr s2];generalize decide (dt a b q<0)=t;have ng:=y6 M q;have n0:=yb c
 by_cases z:dX a b=0
 ·have z1:=p1.2.1.mpr z;have z2:=p2.2.1.mpr z;have f1:¬(0<=dX a q/\0<dX q b):=λ⟨u,v⟩=>by have:=(zB aw qw bw).2.1 u v;lia
  have f2:¬(0<=dX a q/\0<dX q M):=λ⟨u,v⟩=>by have:=(zB aw qw mw).2.1 u v;omega
  have f3:¬(0<=dX M q/\0<dX q b):=λ⟨u,v⟩=>by have:=(zB mw qw bw).2.1 u v;omega
  have g:∀{p r:Prop}[Decidable p][Decidable r],¬(p/\r)->(decide p&&(decide r&&t))=false:=λ{p r} _ _ n=>by grind
  rw[g f1,g f2,g f3];rfl
 ·have z1:=p1.1.mpr (by lia)
  have z2:=p2.1.mpr (by lia)
  by_cases u:0<dX q M
  ·have v:¬0<=dX M q:=by have:=y6 q M;lia
   have b2:=(zB qw mw bw).2.2 (kY u|>λ_=>u) (kY z2);rw[ζ u,ι v,ζ b2]
   cases decide (0<=dX a q)<;>cases t<;>rfl
  ·have v:0<=dX M q:=by have:=y6 q M;lia
   have a2:=(zB aw mw qw).1 (kY z1) v;rw[ι u,ζ v,ζ a2]
   cases decide (0<dX q b)<;>cases t<;>rfl
theorem VX{N:Nat}{g:Q3×Q3}(h:B7 a b M)(pa:PQ N a)(pb:PQ N b)(pM:PQ N M)(g1:PQ N g.1)(g2:PQ N g.2)(bg:bq g.1 g.2=true)(c:bq a b=true)(no:aJ a b g.1=true->aJ a b g.2=true->bq g.1 M=true->bq M g.2=true->False):holds g (a,b)=(holds g (a,M)^^holds g (M,b)):=by
 obtain⟨aM,Mb⟩:=h.bq pa.pos pb.pos c;obtain⟨_,_,_,_,_,_,_,_,z⟩:=h.dir;have oM:aJ a b M=true:=yo z (zf aM) (zf Mb);obtain⟨oa,ob⟩:=Xn c;have i1:∀x,PQ N x->aJ a M x=true->aJ a b x=true:=λx px o=>by
  obtain⟨u1,u2,u3⟩:=zg o;exact xE pa pb pa pM px aM oa oM u1 u2 u3
 have i2:∀x,PQ N x->aJ M b x=true->aJ a b x=true:=λx px o=>by
  obtain⟨u1,u2,u3⟩:=zg o;exact xE pa pb pM pb px Mb oM ob u1 u2 u3
 have b_and:∀{x y:Bool},(x&&y)=true↔x=true/\y=true:=λ{x y}=>by grind
 unfold holds;dsimp only
 cases o1:aJ a b g.1&&aJ a b g.2 with
 |false=>
  have n1:(aJ a M g.1&&aJ a M g.2)=false:=by grind
  have n2:(aJ M b g.1&&aJ M b g.2)=false:=by grind
  rw[n1,n2];rfl
 |true=>
  obtain⟨w1,w2⟩:=b_and.mp o1;obtain⟨u1,u2,u3⟩:=zg w1;obtain⟨v1,v2,v3⟩:=zg w2
  cases q:bq g.1 M with
  |false=>
   have k1:aJ M b g.1=true:=yo (cD c z (yj _ _) u1) q u3;have k2:aJ M b g.2=true:=yo (cD c z (yj _ _) v1) (yw pM.pos g1.pos g2.pos q (zf bg)) v3;have k3:aJ a M g.2=false:=by
    cases w:aJ a M g.2 with
    |false=>rfl
    |true=>
     have:=(zg w).2.2;have:=yw g2.pos pM.pos g1.pos this q;rw[this] at bg;cases bg
   rw[k1,k2,k3]
   cases aJ a M g.1<;>rfl
  |true=>
   have q2:bq M g.2=false:=by grind
   have k1:aJ a M g.1=true:=yo (cD c (yx _ _) z u1) u2 (zf q);have k2:aJ a M g.2=true:=yo (cD c (yx _ _) z v1) v2 q2;have k3:aJ M b g.1=false:=by
    cases w:aJ M b g.1 with
    |false=>rfl
    |true=>
     have:=(zg w).2.1;rw[this] at q;cases q
   rw[k1,k2,k3];rfl
def ZM{n:Nat}{ψ:Q3×Q3->Bool}(h:B7 a b M)(pa:PQ n a)(pb:PQ n b)(ne:a≠b)(ψ1:bq a b=true->ψ (a,b)=(ψ (a,M)^^ψ (M,b)))(ψ2:bq b a=true->ψ (b,a)=(ψ (b,M)^^ψ (M,a))):dj ψ a b=(dj ψ a M^^dj ψ M b):=by
 have nb:∀{x y:Q3},bq x y=true->x≠y:=λh e=>by rw[e,zk] at h;cases h
 unfold dj yC;dsimp only
 by_cases c:bq a b=true
 ·obtain⟨k1,k2⟩:=h.bq pa.pos pb.pos c;rw[θ c,θ k1,θ k2,ι ne,ι (nb k1),ι (nb k2),ψ1 c];rfl
 ·have c2:bq b a=true:=pv λz=>ne (zJ pa pb c z);obtain⟨k1,k2⟩:=h.symm.bq pb.pos pa.pos c2;have f:∀{x y:Q3},bq x y=true->¬bq y x=true:=λh=>by rw[zf h];exact pF
  rw[η c,η (f k2),η (f k1),ι ne,ι (nb k2).symm,ι (nb k1).symm,ψ2 c2,Dd];rfl
end Nu
end
section
variable{n:Nat}{b:Q3}
namespace Nu
def LW{a M q:Q3}(h:B7 a b M)(pa:PQ n a)(pb:PQ n b)(pM:PQ n M)(ne:a≠b)(qw:0<q.w)(l:List Q3):zD (dj λs=>aX s q) (a::M::b::l)=zD (dj λs=>aX s q) (a::b::l):=
 JX _ a M b l (ZM h pa pb ne (λc=>V0 h pa.pos pb.pos pM.pos qw c) λc=>V0 h.symm pb.pos pa.pos pM.pos qw c)
def Zn{a:Q3}{l:List Q3}(ne:a≠b):yC (a,b)∈sW (a::b::l):=by
 unfold sW;refine kh.mpr ⟨(a,b),ke.mpr ⟨?_,by rw[ι ne];rfl⟩,rfl⟩
 exact pH
def ze5{J:List (Q3×Q3)}{pj:List (Nat×Nat)}{w:Int}(T:zu n J pj w){a M:Q3}(h:B7 a b M)(pa:PQ (4*n+3) a)(pb:PQ (4*n+3) b)(pM:PQ (4*n+3) M)(ne:a≠b)(l:List Q3)(j1:∀s∈sW (a::b::l),s∈J)(j2:∀s∈sW (a::M::b::l),s∈J){g:Q3×Q3}(hg:zG (4*n+3) J g):zD (dj (holds g)) (a::M::b::l)=zD (dj (holds g)) (a::b::l):=by
 have sb:=j1 _ (Zn ne);obtain⟨s,k1,k2,bg,_⟩:=id hg;have stM:∀c d:Q3,yC (c,d)∈J->P7 J c/\P7 J d:=λc d hm=>by
  unfold yC at hm
  split at hm
  ·exact⟨.inl ⟨_,hm,.inl rfl⟩,.inl ⟨_,hm,.inr rfl⟩⟩
  ·exact⟨.inl ⟨_,hm,.inr rfl⟩,.inl ⟨_,hm,.inl rfl⟩⟩
 have aM:a≠M:=λe=>by
  have e1:bq a b=true\/bq b a=true:=by
   by_cases c:bq a b=true
   ·exact .inl c
   ·exact .inr (pv λz=>ne (zJ pa pb c z))
  rcases e1 with c|c
  ·have:=(h.bq pa.pos pb.pos c).1;rw[e,zk] at this;cases this
  ·have:=(h.symm.bq pb.pos pa.pos c).2;rw[e,zk] at this;cases this
 have sM:=(stM a M (j2 _ (Zn aM))).2;refine JX _ a M b l (ZM h pa pb ne (λc=>VX h pa pb pM k1.pq k2.pq bg c λo1 o2=>?_) λc=>VX h.symm pb pa pM k1.pq k2.pq bg c λo1 o2=>?_)
 ·have es:yC (a,b)=(a,b):=θ c;rw[es] at sb;obtain⟨_,_,no⟩:=LN T hg sb o1 o2;obtain⟨u1,u2⟩:=h.bq pa.pos pb.pos c;obtain⟨_,_,_,_,_,_,_,_,z⟩:=h.dir;exact no M ⟨sb,yo z (zf u1) (zf u2),pM,sM⟩
 ·have es:yC (a,b)=(b,a):=η (by show ¬bq a b=true;rw[zf c];exact pF)
  rw[es] at sb;obtain⟨_,_,no⟩:=LN T hg sb o1 o2;obtain⟨u1,u2⟩:=h.symm.bq pb.pos pa.pos c;obtain⟨_,_,_,_,_,_,_,_,z⟩:=h.symm.dir;exact no M ⟨sb,yo z (zf u1) (zf u2),pM,sM⟩
def ZA(a b:List (List Q3)):aq (a++b)=aq a++aq b:=QW ..
theorem LX(hn:4*n+3<=8999){rs fC ex:List (List Q3)}(h:∀r∈rs++fC++ex,∀p∈r,PQ n p)(hr:∀r∈rs++fC,r.length<=1000)(ht:(rs.flatMap id).length<=1000/\(fC.flatMap id).length<=1000)(hl:(aq (rs++fC++ex)).length<64)
  (hp:∀q:Q3,0<q.w->ah (rs.map (zD (dj λs=>aX s q)))=ah (fC.map (zD (dj λs=>aX s q))))
  (hh:∀pj w g,zu n (aq (rs++fC++ex)) pj w->zG (4*n+3) (aq (rs++fC++ex)) g->ah (rs.map (zD (dj (holds g))))=ah (fC.map (zD (dj (holds g))))):
  ∃ls:List (Q3×Q3),ls.length<=1300000/\xk [.list (rs.map aA)]=some (.list (ls.map eS))/\xk [.list (fC.map aA)]=some (.list (ls.map eS)):=by
 have eJ:aq (rs++fC++ex)=aq rs++aq fC++aq ex:=by rw[ZA,ZA]
 have ln:(aq rs).length<64/\(aq fC).length<64:=by
  rw[eJ,kW,kW] at hl;lia
 have m1:∀r∈rs,r∈rs++fC++ex:=λr hr=>uO _ (uO _ hr);have m2:∀r∈fC,r∈rs++fC++ex:=λr hr=>uO _ (uQ _ hr);obtain⟨d1,e1,fs,ps,w,ls,rfl,T,up,hf,L⟩:=VT hn (rs:=rs) (λr hr=>h r (m1 r hr)) (λr z=>by have:=hr r (uO _ z);lia) (by lia) ln.1
 obtain⟨d2,e2,fs',R4,w',ls',rfl,T',up',u9,L'⟩:=VT hn (rs:=fC) (λr hr=>h r (m2 r hr)) (λr z=>by have:=hr r (uQ _ z);lia) (by lia) ln.2
 obtain⟨d3,_,gs,pj,wj,_,TJ,ug,hg,_⟩:=VB hn (JM h) hl;have:=zcl T T' TJ (λs hs=>by rw[eJ];exact uO _ (uO _ hs)) (λs hs=>by rw[eJ];exact uO _ (uQ _ hs)) up hf up' u9 ug hg (λv=>Xd v rs) (λv=>Xd v fC) (λg tD=>by
   rw[qv,qv];exact hh pj wj g TJ ((vK TJ).mp ((hg g).mp tD))) (λq qw=>by
   unfold ic;rw[qv,qv];exact hp q qw) L L'
 subst this;exact⟨ls,L.lh,e1,e2⟩
end Nu
end
section
variable{n:Nat}{a b:Q3}
namespace Nu
noncomputable def LY(a b:Q3):Q3:=⟨MP (zw (a,b)).x (zw (a,b)).y (zw (a,b)).w,MQ (zw (a,b)).x (zw (a,b)).y (zw (a,b)).w,MS (zw (a,b)).x (zw (a,b)).y (zw (a,b)).w⟩
theorem Xl(ha:PQ n a)(hb:PQ n b):(zw (a,b)).x.natAbs<2^(2*n+1)/\(zw (a,b)).y.natAbs<2^(2*n+1)/\(zw (a,b)).w.natAbs<2^(2*n+1)/\0<(zw (a,b)).w:=by
 have k:∀{x y z w:Int},x.natAbs<2^n->y.natAbs<2^n->z.natAbs<2^n->w.natAbs<2^n->(x*y+z*w).natAbs<2^(2*n+1):=λ{x y z w} h1 h2 h3 h4=>by
  have e:(2:Nat)^(2*n+1)=2^n*2^n+2^n*2^n:=by rw[ER,Nat.two_mul n,IL];lia
  have m1:(x*y).natAbs<2^n*2^n:=by rw[Uh];exact Dz h1 h2
  have m2:(z*w).natAbs<2^n*2^n:=by rw[Uh];exact Dz h3 h4
  have:=Int.natAbs_add_le (x*y) (z*w);rw[e];lia
 refine⟨k ha.lx hb.lw hb.lx ha.lw,k ha.ly hb.lw hb.ly ha.lw,?_,?_⟩
 ·have:=k ha.lw hb.lw ha.lw hb.lw;have e:(zw (a,b)).w=a.w*b.w+a.w*b.w:=by show 2*a.w*b.w=_;grind
  rw[e];exact this
 ·exact uB (uB (by decide) ha.pos) hb.pos
theorem Wi(ha:PQ n a)(hb:PQ n b):PQ (2*n+1) (LY a b):=by
 obtain⟨h1,h2,h3,h4⟩:=Xl ha hb;exact qZ (by lia) h1 h2 h3
theorem Jg(ha:PQ n a)(hb:PQ n b):B7 a b (LY a b):=by
 obtain⟨h1,h2,h3,h4⟩:=Xl ha hb;have f:=W8 (x:=(zw (a,b)).x) (y:=(zw (a,b)).y) (w:=(zw (a,b)).w) (by omega)
 refine⟨bN (zw (a,b)).x (zw (a,b)).y (zw (a,b)).w,by omega,?_,?_,?_⟩
 ·rw[ud];exact Wp _ _ _
 ·rw[ud];exact X7 _ _ _
 ·rw[ud];exact Xt _ _ _
theorem Q5{w:Int}(h:w.natAbs<2^n):(2*w).natAbs<2^(n+1):=by
 rw[Uh,ER];show 2*w.natAbs<_;lia
theorem LZ(hn:n<=4000)(ha:PQ n a)(hb:PQ n b):j6 [eQ a,eQ b]=some (eQ (LY a b)):=by
 obtain⟨h1,h2,h3,h4⟩:=Xl ha hb;have p:=VI h1 h2 h3 (by lia) (by lia)
 have m6:=zL (Q5 ha.lw) hb.lw (by lia) (by lia)
 have sa:=SQ.of ha (by lia)
 have sb:=SQ.of hb (by lia)
 obtain⟨a1,a2,a3⟩:=sa;obtain⟨b1,b2,b3⟩:=sb;have m1:=zL a1 b3;have m2:=zL b1 a3;have m3:=zL a2 b3;have m4:=zL b2 a3;have m5:=zL (i:=2) (m:=2) (by decide) a3
 unfold j6
 dsimp! [vo,jy,w9,m1,m2,m3,m4,m5,m6,zt,Ic]
 exact υ (λo=>CP (CP o λd=>some (Ou.rt d [Sl.fz (eQ a),Sl.fz (eQ b)])) cF) p
noncomputable def cel(ns:List Int)(k:Nat):Int:=ns.getD k 0
theorem vI(ns:List Int)(k:Nat):zZ [.scr ns,.int (k:Int)]=some (.int (cel ns k)):=by
 unfold zZ cel
 by_cases c:k<ns.length
 ·have a:=ixL (f:=Dt.int) (kH c);have l:decide ((k:Int)<(ns.length:Int))=true:=ζ (by lia)
  dsimp! [zq,kJ,nA,kP,l,a]
  rw[kG,kH c];rfl
 ·have l:decide ((k:Int)<(ns.length:Int))=false:=ι (by lia)
  dsimp! [zq,kJ,nA,kP,l]
  rw[kG,uE (by lia)];rfl
end Nu
end
section
variable{c far:Int}
namespace Nu
def jK{i j:Int}(h0:j≠0)(h:j.natAbs<2^60):zO (.int i) (.int j)=some (.int (i.fdiv j)):=by
 simp only[zO,kI,θ (T4 (i:=i) h0 h (by decide))]
def xV{i j:Int}(h0:j≠0):zx (.int i) (.int j)=some (.int (i.fmod j)):=by
 simp only[zx,kI,θ h0]
noncomputable def pN(x y w:Int):Q3:=⟨MP x y w,MQ x y w,MS x y w⟩
noncomputable def I7:List Int:=[-3,-2,-1,0,1,2,3]
noncomputable def isQ:Option Dt->Q3->Bool
 |some (.tuple [.int a,.int b,.int c]),q=>decide (a=q.x/\b=q.y/\c=q.w)
 |_,_=>false
def Q6{o:Option Dt}{q:Q3}(h:isQ o q=true):o=some (eQ q):=by
 unfold isQ at h
 split at h
 ·obtain⟨h1,h2,h3⟩:=ξ h;rw[h1,h2,h3];rfl
 ·cases h
def L0:∀x∈I7,∀y∈I7,∀w∈([1,2,3,4]:List Int),isQ (br [.int x,.int y,.int w]) (pN x y w)=true:=by decide+kernel
theorem jk:c.fmod 7-3∈I7:=by
 have h1:=Qj (a:=c) (b:=7) (by decide)
 have h2:=UT c (b:=7) (by decide)
 unfold I7;simp only[kg,QO,or_false];lia
noncomputable def cX(c:Int):Int:=c.fmod 7-3
noncomputable def cY(c:Int):Int:=(c.fdiv 7).fmod 7-3
noncomputable def cW(c:Int):Int:=([1,1,2,3,4]:List Int).getD ((c.fdiv 49).fmod 5).toNat 1
theorem Zb(c:Int):cW c∈([1,2,3,4]:List Int):=by
 have h1:=Qj (a:=c.fdiv 49) (b:=5) (by decide)
 have h2:=UT (c.fdiv 49) (b:=5) (by decide)
 unfold cW;generalize (c.fdiv 49).fmod 5=k at*;rcases(by lia:k=0\/k=1\/k=2\/k=3\/k=4) with rfl|rfl|rfl|rfl|rfl<;>decide
noncomputable def Ia(far c:Int):Q3:=if 1<far then⟨cX c*far+cY c,cY c*far-cX c,1⟩ else pN (cX c) (cY c) (cW c)
theorem YK{x:Int}(h:x∈I7):x.natAbs<=3:=by
 unfold I7 at h;simp only[kg,QO,or_false] at h;lia
def Q7(x y:Int):g3 x y 1=1:=by
 unfold g3;exact Nat.gcd_one_right _
theorem W9(hf:far.natAbs<2^70):PQ 80 (Ia far c):=by
 have hx:=YK (jk (c:=c));have hy:=YK (jk (c:=c.fdiv 7));have hx:(cX c).natAbs<=3:=hx;have hy:(cY c).natAbs<=3:=hy;unfold Ia
 split
 ·have m1:(cX c*far).natAbs<=3*2^70:=by rw[Uh];exact Hg hx (AR hf)
  have m2:(cY c*far).natAbs<=3*2^70:=by rw[Uh];exact Hg hy (AR hf)
  refine⟨(by decide:(0:Int)<1),Q7 _ _,?_,?_,(by decide:(1:Int).natAbs<2^80)⟩
  ·show(cX c*far+cY c).natAbs<2^80
   omega
  ·show(cY c*far-cX c).natAbs<2^80
   omega
 ·have hw:=Zb c;simp only[kg,QO,or_false] at hw;exact qZ (by lia) (by lia) (by lia) (by lia)
theorem za3(hf:far.natAbs<2^70):wG [.int c,.int far]=some (eQ (Ia far c)):=by
 have hx:=YK (jk (c:=c));have hy:=YK (jk (c:=c.fdiv 7));have hx:(cX c).natAbs<2^3:=Qt hx (by decide)
 have hy:(cY c).natAbs<2^3:=Qt hy (by decide)
 have m1:=zL hx hf;have m2:=zL hy hf;have d1:=xV (i:=c) (j:=7) (by decide)
 have d3:=jK (i:=c) (j:=7) (by decide) (by decide)
 have d4:=xV (i:=c.fdiv 7) (j:=7) (by decide)
 have d5:=jK (i:=c) (j:=49) (by decide) (by decide)
 have d6:=xV (i:=c.fdiv 49) (j:=5) (by decide)
 have e1:yL (.int (c.fmod 7)) (.int 3)=some (.int (cX c)):=rfl;have e2:yL (.int ((c.fdiv 7).fmod 7)) (.int 3)=some (.int (cY c)):=rfl;have e3:zt (.int (cX c*far)) (.int (cY c))=some (.int (cX c*far+cY c)):=rfl;have e4:yL (.int (cY c*far)) (.int (cX c))=some (.int (cY c*far-cX c)):=rfl;have g:tW (.int far) (.int 1)=some (.bool (decide (1<far))):=rfl;have lw:=Q6 (L0 _ (jk (c:=c)) _ (jk (c:=c.fdiv 7)) _ (Zb c));have lw:br [.int (cX c),.int (cY c),.int (cW c)]=some (eQ (pN (cX c) (cY c) (cW c))):=lw;have ix:af (.list [.int 1,.int 1,.int 2,.int 3,.int 4]) (.int ((c.fdiv 49).fmod 5))=some (.int (cW c)):=by
  have h1:=Qj (a:=c.fdiv 49) (b:=5) (by decide)
  have h2:=UT (c.fdiv 49) (b:=5) (by decide)
  unfold cW;generalize (c.fdiv 49).fmod 5=k at*;rcases(by lia:k=0\/k=1\/k=2\/k=3\/k=4) with rfl|rfl|rfl|rfl|rfl<;>rfl
 unfold wG Ia;generalize br=kk at*
 by_cases z:1<far
 ·rw[θ z];rw[ζ z] at g;clear lw ix;simp only[bx,ao,ar,cf,bI,aK,aC,dV,dC,d2,ae,aa,aN,aQ,aj,dB,sF,cF,H1,kB,kZ,uS,kN,UA,gw,Qm,gW,pY,pX,Qu,Qi,hU,CK,fW,VA,if_true,d1,d3,d4,d5,d6,e1,e2,g,m1,m2,e3,e4];rfl
 ·rw[η z];rw[ι z] at g;simp only[bx,ao,ar,cf,bI,aK,aC,dV,dC,d2,ae,aa,aN,aQ,aj,dB,sF,cF,H1,kB,kZ,uS,kN,UA,gw,Qm,gW,pY,pX,Qu,Qi,hU,CK,fW,VA,if_true,if_false,uk,d1,d3,d4,d5,d6,e1,e2,g,ix,lw]
end Nu
end
section
variable{far:Int}
namespace Nu
noncomputable def cb(c:Int):Int:=([1,1,1,1,1000003,100000000000000000039]:List Int).getD (c.fmod 6).toNat 1
theorem Zs(c:Int):c.fmod 6=0\/c.fmod 6=1\/c.fmod 6=2\/c.fmod 6=3\/c.fmod 6=4\/c.fmod 6=5:=by grind
def L6(c:Int):(cb c).natAbs<2^70:=by
 unfold cb;rcases Zs c with z|z|z|z|z|z<;>rw[z]<;>decide
def Q8:(6<=μ)=True:=eq_true (by decide)
def Q9:(8<=μ)=True:=eq_true (by decide)
def Ra(c:Int):qQ [.int c]=some (.int (cb c)):=by
 have d1:=xV (i:=c) (j:=6) (by decide)
 have p:qK (.int 10) (.int 20)=some (.int 100000000000000000000):=by
  have:Ng 10 20:=⟨by decide,by decide,by decide⟩
  simp only[qK,kI,θ this];rfl
 have a:zt (.int 100000000000000000000) (.int 39)=some (.int 100000000000000000039):=rfl;have ix:af (.list [.int 1,.int 1,.int 1,.int 1,.int 1000003,.int 100000000000000000039]) (.int (c.fmod 6))=some (.int (cb c)):=by
  unfold cb;rcases Zs c with z|z|z|z|z|z<;>rw[z]<;>rfl
 unfold qQ;simp only[bx,aK,d2,aQ,aa,ae,dC,dV,sF,cF,kB,kZ,uS,kN,UA,gw,Qm,gW,pY,hU,CK,Q8,if_true,p,a,d1,ix]
noncomputable def tH(c:Int)(k:Nat):Nat:=([3,4,3,5,4,2,1,0]:List Nat).getD (((c.fdiv 3).fdiv (1+(k:Int))).fmod 8).toNat 0
noncomputable def Rb(c:Int)(k:Nat):Nat:=if k=2 then min (tH c k) 3 else tH c k
theorem ZU(c:Int)(k:Nat):tH c k<=5:=by
 unfold tH;generalize (((c.fdiv 3).fdiv (1+(k:Int))).fmod 8).toNat=j
 rcases(by lia:j=0\/j=1\/j=2\/j=3\/j=4\/j=5\/j=6\/j=7\/8<=j) with rfl|rfl|rfl|rfl|rfl|rfl|rfl|rfl|z<;>try decide
 rw[kG,uE (by simp only[kZ,uS];lia)]
 decide
theorem zao(c:Int)(k:Nat):Rb c k<=5:=by
 have:=ZU c k;unfold Rb
 split
 ·lia
 ·exact this
noncomputable def aR(ns:List Int)(far:Int)(k:Nat):List Q3:=(kM (Rb (cel ns 1) k)).map λj=>Ia far (cel ns (2+6*k+j))
noncomputable def mR(ns:List Int):Nat:=(1+(cel ns 1).fmod 3).toNat
theorem Yx(ns:List Int):1<=mR ns/\mR ns<=3/\(1+(cel ns 1).fmod 3)=(mR ns:Int):=by
 have h1:=Qj (a:=cel ns 1) (b:=3) (by decide)
 have h2:=UT (cel ns 1) (b:=3) (by decide)
 unfold mR;lia
noncomputable def bP(ns:List Int)(far:Int):List (List Q3):=(kM (mR ns)).map (aR ns far)
theorem ix8(c:Int)(k:Nat):af (.list [.int 3,.int 4,.int 3,.int 5,.int 4,.int 2,.int 1,.int 0]) (.int (((c.fdiv 3).fdiv (1+(k:Int))).fmod 8))=some (eN (tH c k)):=by
 have h1:=Qj (a:=(c.fdiv 3).fdiv (1+(k:Int))) (b:=8) (by decide)
 have h2:=UT ((c.fdiv 3).fdiv (1+(k:Int))) (b:=8) (by decide)
 unfold tH;generalize ((c.fdiv 3).fdiv (1+(k:Int))).fmod 8=j at*;rcases(by lia:j=0\/j=1\/j=2\/j=3\/j=4\/j=5\/j=6\/j=7) with rfl|rfl|rfl|rfl|rfl|rfl|rfl|rfl<;>rfl
theorem zdb(ns:List Int)(hf:far.natAbs<2^70):∀(s:List Dt)(k sz:Nat),sz<=5->k<=3->au 1 [0,1,2,4] (iC bG (aa (dV 5) ae)) (gN 0) bv (aj wG (aa (aj zZ (aa (dV 1) (aa (d2 zt (d2 zt (d2 zt (dV 2) (dC (.int 1))) (d2 zn (dC (.int 6)) (dV 4))) (dV 0)) ae))) (aa (dV 3) ae))) [.fz (.scr ns),.fz (.int 1),.fz (.int far),.ow false 1 (.list s),.fz (eN k),.fz (eN sz)]=some (aA ((kM sz).map λj=>Ia far (cel ns (2+6*k+j)))):=λs k sz hs hk=>by
 have it:iC bG (aa (dV 5) ae) [.fz (.scr ns),.fz (.int 1),.fz (.int far),.ow false 1 (.list s),.fz (eN k),.fz (eN sz)]=some ((kM sz).map eN):=by
  have:aa (dV 5) ae [.fz (.scr ns),.fz (.int 1),.fz (.int far),.ow false 1 (.list s),.fz (eN k),.fz (eN sz)]=some [eN sz]:=rfl;unfold iC;rw[this,kB,jC (by lia)]
 unfold au;rw[it,kB];have cm:y9 (λd=>(gN 0 d (inn 1 [0,1,2,4] [.fz (.scr ns),.fz (.int 1),.fz (.int far),.ow false 1 (.list s),.fz (eN k),.fz (eN sz)])).bind λbY=>(bv bY).bind λb=>if b=true then(aj wG (aa (aj zZ (aa (dV 1) (aa (d2 zt (d2 zt (d2 zt (dV 2) (dC (.int 1))) (d2 zn (dC (.int 6)) (dV 4))) (dV 0)) ae))) (aa (dV 3) ae)) bY).bind λy=>some (some y) else some none) ((kM sz).map eN)=some ((kM sz).map λj=>eQ (Ia far (cel ns (2+6*k+j)))):=by
  refine yH λj hj=>?_;have hj:=pe.mp hj;have e0:gN 0 (eN j) (inn 1 [0,1,2,4] [.fz (.scr ns),.fz (.int 1),.fz (.int far),.ow false 1 (.list s),.fz (eN k),.fz (eN sz)])=some [.fz (eN j),.fz (.scr ns),.fz (.int 1),.fz (.int far),.fz (eN k)]:=rfl;have m:=zL (i:=6) (j:=(k:Int)) (m:=3) (n:=10) (by decide) (by omega)
  have ek:eN k=.int (k:Int):=rfl;have ej:eN j=.int (j:Int):=rfl;have a1:zt (.int 1) (.int 1)=some (.int 2):=rfl;have a2:zt (.int 2) (.int (6*(k:Int)))=some (.int (2+6*(k:Int))):=rfl;have a3:zt (.int (2+6*(k:Int))) (.int (j:Int))=some (.int ((2+6*k+j:Nat):Int)):=by
   show some (Dt.int (2+6*(k:Int)+(j:Int)))=_
   congr 2
  have ce:=vI ns (2+6*k+j);have lp:=za3 (far:=far) (c:=cel ns (2+6*k+j)) hf;rw[e0,kB];simp only[bv,aj,aa,ae,d2,dV,dC,sF,kB,if_true,pY,pX,ek,ej,a1,m,a2,a3,ce,lp]
 have:=υ (λo=>CP o λr=>some (Dt.list r)) cm;refine Eq.trans this ?_;show some (Dt.list _)=some (Dt.list _);rw[uc];rfl
theorem zdj(ns:List Int)(far:Int):iC bG (aa (d2 zt (dC (.int 1)) (d2 zx (aj zZ (aa (dV 0) (aa (dV 1) ae))) (dC (.int 3)))) ae) [.fz (.scr ns),.fz (.int 1),.fz (.int far),.ow false 1 (.list []),.un,.un]=some ((kM (mR ns)).map eN):=by
 obtain⟨r1,r2,r3⟩:=Yx ns;have c1:=vI ns 1;have:aa (d2 zt (dC (.int 1)) (d2 zx (aj zZ (aa (dV 0) (aa (dV 1) ae))) (dC (.int 3)))) ae [.fz (.scr ns),.fz (.int 1),.fz (.int far),.ow false 1 (.list []),.un,.un]=some [eN (mR ns)]:=by
  have a:zt (.int 1) (.int ((cel ns 1).fmod 3))=some (.int (1+(cel ns 1).fmod 3)):=rfl;simp only[aa,ae,d2,dC,aj,dV,sF,kB,pY,pX,show((1:Int))=((1:Nat):Int) from rfl,c1];simp only[xV (i:=cel ns 1) (j:=3) (by decide),kB,show((1:Nat):Int)=1 from rfl,a,r3]
  rfl
 unfold iC;rw[this,kB,jC (by lia)]
theorem zca(ns:List Int)(hf:far.natAbs<2^70):jx [.scr ns,.int 1,.int far]=some (.list ((bP ns far).map aA)):=by
 suffices ∀P:Dt->Prop,P (.list ((bP ns far).map aA))->Gv (jx [.scr ns,.int 1,.int far]) P by obtain⟨d,e,h⟩:=this (λd=>d=.list ((bP ns far).map aA)) rfl;rw[e,h]
 intro P hP;obtain⟨r1,r2,r3⟩:=Yx ns;have c1:=vI ns 1;have hg:=zdj ns far;have hc:=zdb ns hf;unfold jx;generalize iC bG (aa (d2 zt (dC (.int 1)) (d2 zx (aj zZ (aa (dV 0) (aa (dV 1) ae))) (dC (.int 3)))) ae)=gg at hg⊢;generalize au 1 [0,1,2,4] _ _ _ _=C at hc⊢
 dsimp! [hg]
 rw[uJ];refine yU (σ:=List (List Q3)) (λs=>[.fz (.scr ns),.fz (.int 1),.fz (.int far),.ow false 1 (.list (s.map aA)),.un,.un]) (λi s=>s=(kM i).map (aR ns far)) [] rfl rfl (λi k s hi hs=>?_) λs hs=>?_
 ·have cq:i<mR ns:=by have:=(kE.mp hi).1;rwa [pE] at this
  rw[uM cq] at hi
  cases hi;have ln:s.length=i:=by grind
  have d1':=jK (i:=cel ns 1) (j:=3) (by decide) (by decide)
  have d2':=jK (i:=(cel ns 1).fdiv 3) (j:=1+(i:Int)) (by lia) (by lia)
  have d3':=xV (i:=((cel ns 1).fdiv 3).fdiv (1+(i:Int))) (j:=8) (by decide)
  have a1':zt (.int 1) (eN i)=some (.int (1+(i:Int))):=rfl;have c1':zZ [.scr ns,.int 1]=some (.int (cel ns 1)):=c1;have lk:zq [.list (s.map aA)]=some (eN i):=by
   rw[yF,ln]
  have k2:zr (eN i) (.int 2)=some (.bool (decide (i=2))):=by
   show some (Dt.bool (decide ((i:Int)=2)))=_
   congr 2
   exact ω.mpr (by lia)
  have mn:y8 (λi j=>if j<i then j else i) [eN (tH (cel ns 1) i),.int 3]=some (eN (min (tH (cel ns 1) i) 3)):=by
   show some (Dt.int (if(3:Int)<(tH (cel ns 1) i:Int) then 3 else(tH (cel ns 1) i:Int)))=some (Dt.int ((min (tH (cel ns 1) i) 3:Nat):Int))
   congr 2
   split<;>lia
  have sl:=ZU (cel ns 1) i;have ls:s.length<μ:=by rw[ln];exact yE (by lia)
  have cc:=hc (s.map aA) i (Rb (cel ns 1) i) (zao _ _) (by lia)
  have er:((kM (Rb (cel ns 1) i)).map λj=>Ia far (cel ns (2+6*i+j)))=aR ns far i:=rfl;rw[er] at cc;refine⟨s++[aR ns far i],?_,by rw[hs,HR,ku];rfl⟩
  have i8:=ix8 (cel ns 1) i;generalize aR ns far i=RK at*;clear hs er hc hg c1 hP;have q1:(d2 af (aQ (aa (dC (.int 3)) (aa (dC (.int 4)) (aa (dC (.int 3)) (aa (dC (.int 5)) (aa (dC (.int 4)) (aa (dC (.int 2)) (aa (dC (.int 1)) (aa (dC (.int 0)) ae))))))))) (d2 zx (d2 zO (d2 zO (aj zZ (aa (dV 0) (aa (dV 1) ae))) (dC (.int 3))) (d2 zt (dC (.int 1)) (dV 4))) (dC (.int 8)))) [.fz (.scr ns),.fz (.int 1),.fz (.int far),.ow false 1 (.list (s.map aA)),.fz (eN i),.un]=some (eN (tH (cel ns 1) i)):=by
   simp only[d2,aQ,aa,ae,dC,aj,dV,sF,kB,kZ,uS,pY,pX,hU,Q9,if_true,c1',d1',a1',d2',d3',i8]
  have q2:∀x,(dB (d2 zr (aj zq (aa (aY 3) ae)) (dC (.int 2)))) [.fz (.scr ns),.fz (.int 1),.fz (.int far),.ow false 1 (.list (s.map aA)),.fz (eN i),x]=some (decide (i=2)):=λx=>by
   dsimp! [lk,k2]
  have q3:(aj (y8 λi j=>if j<i then j else i) (aa (dV 5) (aa (dC (.int 3)) ae))) [.fz (.scr ns),.fz (.int 1),.fz (.int far),.ow false 1 (.list (s.map aA)),.fz (eN i),.fz (eN (tH (cel ns 1) i))]=some (eN (min (tH (cel ns 1) i) 3)):=by
   simp only[aj,aa,ae,dV,dC,sF,kB,pY,pX,mn]
  generalize (d2 af _ _:En->Option Dt)=G1 at q1⊢;generalize (dB _:En->Option Bool)=G2 at q2⊢;generalize (aj (y8 _) _:En->Option Dt)=G3 at q3⊢;clear c1' d1' a1' d2' d3' i8 lk k2 mn;generalize ed:(Dt.list (s.map aA))=dl at*;have ol:sD (.ow false 1 dl)=some (false,s.map aA):=by rw[<-ed];rfl
  have el:(Dt.list ((s++[RK]).map aA))=.list (s.map aA++[aA RK]):=by grind
  rw[el];have lm:(s.map aA).length<μ:=by grind
  generalize s.map aA=sm at*;have st:∀x y,Bu [.fz (.scr ns),.fz (.int 1),.fz (.int far),.ow false 1 dl,.fz (eN i),x] 5 y=[Sl.fz (.scr ns),.fz (.int 1),.fz (.int far),.ow false 1 dl,.fz (eN i),y]:=λ_ _=>rfl;have s3:∀x y z,Bu [.fz (.scr ns),.fz (.int 1),.fz (.int far),x,.fz (eN i),z] 3 y=[Sl.fz (.scr ns),.fz (.int 1),.fz (.int far),y,.fz (eN i),z]:=λ_ _ _=>rfl;have g3':∀x z:Sl,([.fz (.scr ns),.fz (.int 1),.fz (.int far),x,.fz (eN i),z]:En)[3]?=some x:=λ_ _=>rfl;have g0:gN 4 (eN i) [.fz (.scr ns),.fz (.int 1),.fz (.int far),.ow false 1 dl,.un,.un]=some [.fz (.scr ns),.fz (.int 1),.fz (.int far),.ow false 1 dl,.fz (eN i),.un]:=rfl;have nn:∀x z,nxt [4,5] (.nx [.fz (.scr ns),.fz (.int 1),.fz (.int far),x,.fz (eN i),z])=some [.fz (.scr ns),.fz (.int 1),.fz (.int far),x,.un,.un]:=λ_ _=>rfl;have ap:∀(f:En->Option Dt)(Z:En),B8 3 f Z=(f Z).bind λd=>((Z[3]?).bind sD).bind λx=>if x.2.length<μ then some (.nx (Z.set 3 (.ow x.1 1 (.list (x.2++[d]))))) else none:=λ_ _=>rfl;have sq:∀(f g:En->Option Ou)(Z:En),ao f g Z=(f Z).bind (cf g):=λ_ _ _=>rfl;have se:∀(f:En->Option Dt)(Z:En),ar 5 f Z=(f Z).bind λd=>some (.nx (Z.set 5 (.fz d))):=λ_ _=>rfl;have fi:∀(c:En->Option Bool)(f g:En->Option Ou)(Z:En),aC c f g Z=(c Z).bind λb=>if b=true then f Z else g Z:=λ_ _ _ _=>rfl;have Rc:∀Z,bI Z=some (.nx Z):=λ_=>rfl;rw[g0,kB,sq,se,q1,kB,kB,st,yY,sq,fi,q2,kB]
  by_cases z:i=2
  ·have ek:Rb (cel ns 1) i=min (tH (cel ns 1) i) 3:=θ z;rw[ek] at cc;rw[ζ z,θ rfl,se,q3,kB,kB,st,yY,ap,cc,kB,g3',kB,ol,kB,θ lm,s3,kB,nn]
  ·have ek:Rb (cel ns 1) i=tH (cel ns 1) i:=η z;rw[ek] at cc;rw[ι z,η pF,Rc,kB,yY,ap,cc,kB,g3',kB,ol,kB,θ lm,s3,kB,nn]
 ·rw[pE] at hs;have e9:(bP ns far).map aA=s.map aA:=by rw[hs];rfl
  rw[e9] at hP;clear hs e9 hc hg
  dsimp! []
  exact⟨_,rfl,hP⟩
end Nu
end
section
variable{far:Int}{ns:List Int}
namespace Nu
noncomputable def tI(ns:List Int)(far:Int):List Q3:=(kM 3).map λj=>Ia far (cel ns (30+j))
theorem Rd(ns:List Int)(hf:far.natAbs<2^70):wz [.scr ns,.int far]=some (aA (tI ns far)):=by
 have it:iC bG (aa (dC (.int 3)) ae) [.fz (.scr ns),.fz (.int far)]=some ((kM 3).map eN):=by
  have:aa (dC (.int 3)) ae [.fz (.scr ns),.fz (.int far)]=some [eN 3]:=rfl;unfold iC;rw[this,kB,jC (by lia)]
 have cm:y9 (λd=>(gN 0 d (inn 1 [0,1] [.fz (.scr ns),.fz (.int far)])).bind λbY=>(bv bY).bind λb=>if b=true then(aj wG (aa (aj zZ (aa (dV 1) (aa (d2 zt (dC (.int 30)) (dV 0)) ae))) (aa (dV 2) ae)) bY).bind λy=>some (some y) else some none) ((kM 3).map eN)=some ((kM 3).map λj=>eQ (Ia far (cel ns (30+j)))):=by
  refine yH λj hj=>?_;have e0:gN 0 (eN j) (inn 1 [0,1] [.fz (.scr ns),.fz (.int far)])=some [.fz (eN j),.fz (.scr ns),.fz (.int far)]:=rfl;have ej:eN j=.int (j:Int):=rfl;have a3:zt (.int 30) (.int (j:Int))=some (.int ((30+j:Nat):Int)):=by
   show some (Dt.int (30+(j:Int)))=_
   congr 2
  have ce:=vI ns (30+j);have lp:=za3 (far:=far) (c:=cel ns (30+j)) hf;rw[e0,kB];simp only[bv,aj,aa,ae,d2,dV,dC,sF,kB,if_true,pY,pX,ej,a3,ce,lp]
 have fin:au 1 [0,1] (iC bG (aa (dC (.int 3)) ae)) (gN 0) bv (aj wG (aa (aj zZ (aa (dV 1) (aa (d2 zt (dC (.int 30)) (dV 0)) ae))) (aa (dV 2) ae))) [.fz (.scr ns),.fz (.int far)]=some (aA (tI ns far)):=by
  unfold au;rw[it,kB];refine Eq.trans (υ (λo=>CP o λr=>some (Dt.list r)) cm) ?_;show some (Dt.list _)=some (Dt.list _);unfold tI;rw[uc];rfl
 unfold wz;generalize au 1 [0,1] _ _ _ _=C at fin⊢;have e:bx 2 2 (aK C) [.scr ns,.int far]=(aK C [.fz (.scr ns),.fz (.int far)]).bind cF:=rfl;rw[e,Ye,fin,kB,kB,jt]
def L7(hf:far.natAbs<2^70):∀r∈bP ns far,∀p∈r,PQ 80 p:=λr hr p hp=>by
 obtain⟨k,_,rfl⟩:=kh.mp hr;obtain⟨j,_,rfl⟩:=kh.mp hp;exact W9 hf
def Re(hf:far.natAbs<2^70):∀p∈tI ns far,PQ 80 p:=λp hp=>by
 obtain⟨j,_,rfl⟩:=kh.mp hp;exact W9 hf
def qz(ns:List Int)(far:Int)(k:Nat):(aR ns far k).length<=5:=by
 unfold aR;rw[kJ,pE];exact zao _ _
end Nu
end
section
namespace Nu
def isi_i(a:Int):zW "bool" (.int a)=some (.bool false)/\zW "int" (.int a)=some (.bool true):=⟨rfl,rfl⟩
def isi_l(xs:List Dt):zW "bool" (.list xs)=some (.bool false)/\zW "int" (.list xs)=some (.bool false)/\zW "tuple" (.list xs)=some (.bool false)/\zW "list" (.list xs)=some (.bool true):=⟨rfl,rfl,rfl,rfl⟩
def zea(a:Int):ba [.int a]=some (.bool true):=by
 unfold ba
 dsimp! [(isi_i a).1,(isi_i a).2]
 rfl
def Rf(n:Nat)(a:Int):av (n+1) [.int a,.int a]=some (.bool true):=by
 have w:=zea a;have k:zr (.int a) (.int a)=some (.bool true):=by
  show some (Dt.bool (decide (a=a)))=_
  rw[ζ rfl]
 unfold av;generalize av n=g at*;generalize ba=f at*
 dsimp! [(isi_i a).1,(isi_i a).2,w,k]
def X3(n:Nat)(A:Dt)(xs:List Dt)(hA:A=.list xs\/A=.tuple xs)(h:∀d∈xs,av n [d,d]=some (.bool true))(l:xs.length<=8000000):av (n+1) [A,A]=some (.bool true):=by
 suffices Gv (av (n+1) [A,A]) λd=>d=.bool true by obtain⟨d,e,rfl⟩:=this;exact e
 have b1:zW "bool" A=some (.bool false):=by rcases hA with rfl|rfl<;>rfl
 have b2:zW "int" A=some (.bool false):=by rcases hA with rfl|rfl<;>rfl
 have ln:zq [A]=some (eN xs.length):=by rcases hA with rfl|rfl<;>rfl
 have ne:wd (eN xs.length) (eN xs.length)=some (.bool false):=by
  show some (Dt.bool (!decide ((xs.length:Int)=(xs.length:Int))))=_
  rw[ζ rfl];rfl
 have ix:∀i(hi:i<xs.length),af A (eN i)=some xs[i]:=λi hi=>by
  have:=KV (kH hi);rcases hA with rfl|rfl
  ·show Ig xs (i:Int)=_
   exact this
  ·show Ig xs (i:Int)=_
   exact this
 have tl:(zW "tuple" A=some (.bool true))\/(zW "tuple" A=some (.bool false)/\zW "list" A=some (.bool true)):=by
  rcases hA with rfl|rfl
  ·exact .inr ⟨rfl,rfl⟩
  ·exact .inl rfl
 have hg:iC bG (aa (aj zq (aa (dV 1) ae)) ae) [.fz A,.fz A,.un]=some ((kM xs.length).map eN):=by
  have:aa (aj zq (aa (dV 1) ae)) ae [.fz A,.fz A,.un]=some [eN xs.length]:=by dsimp! [ln]
  unfold iC;rw[this,kB,jC l]
 unfold av;generalize av n=g at*;generalize ba=f at*;generalize iC bG (aa (aj zq (aa (dV 1) ae)) ae)=gg at hg⊢;have hd:∀i(hi:i<xs.length),aC (cJ (dB (aj g (aa (d2 af (dV 0) (dV 2)) (aa (d2 af (dV 1) (dV 2)) ae))))) (aK (dC (.bool false))) bI [.fz A,.fz A,.fz (eN i)]=some (.nx [.fz A,.fz A,.fz (eN i)]):=λi hi=>by
  have hx:=h _ (uq hi)
  dsimp! [ix i hi,hx]
 generalize aC (cJ (dB (aj g (aa (d2 af (dV 0) (dV 2)) (aa (d2 af (dV 1) (dV 2)) ae))))) (aK (dC (.bool false))) bI=bb at hd⊢;have key:Gv ((ao (aO [2] gg (gN 2) bb) (aK (dC (.bool true))) [.fz A,.fz A,.un]).bind cF) λd=>d=.bool true:=by
  unfold ao aO;rw[hg,kB,uJ];refine yU (σ:=Unit) (λ_=>[.fz A,.fz A,.un]) (λ_ _=>True) () rfl trivial (λi k s hi _=>⟨(),?_,trivial⟩) λs _=>⟨.bool true,rfl,rfl⟩;have cq:i<xs.length:=by have:=(kE.mp hi).1;rwa [pE] at this
  rw[uM cq] at hi
  cases hi;have e0:gN 2 (eN i) [.fz A,.fz A,.un]=some [.fz A,.fz A,.fz (eN i)]:=rfl;rw[e0,kB,hd i cq,kB];rfl
 generalize ao (aO [2] gg (gN 2) bb) (aK (dC (.bool true)))=KK at key⊢;rcases tl with t|⟨t,t2⟩
 ·dsimp! [b1,b2,t,ln,ne]
  exact key
 ·dsimp! [b1,b2,t,t2,ln,ne]
  exact key
theorem al_Q(p:Q3):av 2 [eQ p,eQ p]=some (.bool true):=X3 1 _ [.int p.x,.int p.y,.int p.w] (.inr rfl) (λd hd=>by
 simp only[kg,QO,or_false] at hd;rcases hd with rfl|rfl|rfl<;>exact Rf 0 _) (by simp only[kZ,uS];lia)
theorem al_S(f:Q3×Q3):av 3 [eS f,eS f]=some (.bool true):=X3 2 _ [eQ f.1,eQ f.2] (.inr rfl) (λd hd=>by
 simp only[kg,QO,or_false] at hd;rcases hd with rfl|rfl<;>exact al_Q _) (by simp only[kZ,uS];lia)
def ze4{ls:List (Q3×Q3)}(l:ls.length<=8000000):YO [.list (ls.map eS),.list (ls.map eS)]=some (.bool true):=X3 3 _ (ls.map eS) (.inl rfl) (λd hd=>by
 obtain⟨f,_,rfl⟩:=kh.mp hd;exact al_S f) (by rw[kJ];exact l)
end Nu
variable{c:Int}{r:List Q3}{n:Nat}
namespace Nu
noncomputable def nO(c:Int)(r:List Q3):List Q3:=if(c.fdiv 5).fmod 2=1 then(r.drop (c.fmod r.length).toNat++r.take (c.fmod r.length).toNat).reverse else r.drop (c.fmod r.length).toNat++r.take (c.fmod r.length).toNat
noncomputable def put(c:Int):List Q3->List Q3
 |a::b::l=>if 0<(c.fdiv 10).fmod 3/\a≠b then a::LY a b::b::l else a::b::l
 |r=>r
noncomputable def fm(c:Int)(r:List Q3):List Q3:=if r.length<2 then r else put c (nO c r)
theorem Wd(c:Int)(r:List Q3):(nO c r).length=r.length:=by
 have:∀k,(r.drop k++r.take k).length=r.length:=λk=>by grind
 unfold nO
 split
 ·grind
 ·exact this _
theorem qS{p:Q3}(h:p∈nO c r):p∈r:=by
 have:∀k,p∈r.drop k++r.take k->p∈r:=λk h=>by grind
 unfold nO at h
 split at h
 ·grind
 ·exact this _ h
theorem M9(ψ:Q3×Q3->Bool)(h:∀p∈r,PQ n p):zD (dj ψ) (nO c r)=zD (dj ψ) r:=by
 have ro:∀k,zD (dj ψ) (r.drop k++r.take k)=zD (dj ψ) r:=λk=>by rw[Zh,uP]
 unfold nO
 split
 ·rw[zcv ψ (n:=n),ro];intro p hp;rcases pD.mp hp with z|z
  ·grind
  ·grind
 ·exact ro _
theorem L8(h:∀p∈r,PQ n p){q:Q3}(qw:0<q.w):zD (dj λs=>aX s q) (fm c r)=zD (dj λs=>aX s q) r:=by
 unfold fm
 split
 ·rfl
 ·rw[<-M9 (n:=n) (λs=>aX s q) (c:=c) h];have hb:∀p∈nO c r,PQ n p:=λp hp=>h p (qS hp);generalize nO c r=b at*;unfold put
  split
  ·rename_i a b l
   have pa:=hb a pH;have pb:=hb b (pT _ pH)
   split
   ·rename_i z
    exact LW (n:=2*n+1) (Jg pa pb) (Pt.mono pa (by lia)) (Pt.mono pb (by lia)) (Wi pa pb) z.2 qw l
   ·rfl
  ·rfl
theorem zaz{N:Nat}{J:List (Q3×Q3)}{pj:List (Nat×Nat)}{w:Int}(T:zu N J pj w)(hN:2*n+1<=4*N+3)(h:∀p∈r,PQ n p)(j1:∀s∈sW (nO c r),s∈J)(j2:∀s∈sW (fm c r),s∈J){g:Q3×Q3}(hg:zG (4*N+3) J g):zD (dj (holds g)) (fm c r)=zD (dj (holds g)) r:=by
 unfold fm at*
 split
 ·rfl
 ·rename_i nl
  rw[η nl] at j2;rw[<-M9 (n:=n) (holds g) (c:=c) h];have hb:∀p∈nO c r,PQ n p:=λp hp=>h p (qS hp);generalize nO c r=b at*;unfold put at*
  split
  ·rename_i a b l
   dsimp only at j2;have pa:=hb a pH;have pb:=hb b (pT _ pH)
   split
   ·rename_i z
    rw[θ z] at j2;exact ze5 T (Jg pa pb) (Pt.mono pa (by lia)) (Pt.mono pb (by lia)) (Pt.mono (Wi pa pb) hN) z.2 l j1 j2 hg
   ·rfl
  ·rfl
end Nu
end
section
namespace Nu
theorem Rg{n:Nat}(hn:n<=4000){r:List Q3}(h:∀p∈r,PQ n p)(hl:r.length<=1000)(c:Int):jj [aA r,.int c]=some (aA (fm c r)):=by
 have sq:∀(f g:En->Option Ou)(Z:En),ao f g Z=(f Z).bind (cf g):=λ_ _ _=>rfl;have fi:∀(c:En->Option Bool)(f g:En->Option Ou)(Z:En),aC c f g Z=(c Z).bind λb=>if b=true then f Z else g Z:=λ_ _ _ _=>rfl;have Rc:∀Z,bI Z=some (.nx Z):=λ_=>rfl;have so:∀(f:En->Option Dt)(Z:En),bK 3 f Z=(f Z).bind λd=>some (.nx (Z.set 3 (.ow false 1 d))):=λ_ _=>rfl;have se:∀(f:En->Option Dt)(Z:En),ar 2 f Z=(f Z).bind λd=>some (.nx (Z.set 2 (.fz d))):=λ_ _=>rfl;have rt1:∀(d:Dt)(Z:En)(g:En->Option Ou),cf g (.rt d Z)=some (.rt d Z):=λ_ _ _=>rfl;have ln:zq [aA r]=some (eN r.length):=yF r;have q0:∀x y,dB (d2 nA (aj zq (aa (dV 0) ae)) (dC (.int 2))) [.fz (aA r),.fz (.int c),x,y]=some (decide (r.length<2)):=λx y=>by
  have k:nA (eN r.length) (.int 2)=some (.bool (decide (r.length<2))):=Ym r.length 2
  dsimp! [ln,k]
 have e0:∀f,bx 4 2 f [aA r,.int c]=(f [.fz (aA r),.fz (.int c),.un,.un]).bind cF:=λ_=>rfl;unfold jj fm;rw[e0,sq,fi,q0,kB]
 by_cases z:r.length<2
 ·rw[ζ z,θ rfl,θ z];have k:aj vY (aa (dV 0) ae) [.fz (aA r),.fz (.int c),.un,.un]=some (aA r):=rfl;rw[Ye,k,kB,kB,rt1,kB,jt]
 ·rw[ι z,η pF,η z,Rc,kB,yY,sq,se];have h1:=Qj (a:=c) (b:=(r.length:Int)) (by lia)
  have h2:=UT c (b:=(r.length:Int)) (by lia)
  have ek:c.fmod r.length=((c.fmod r.length).toNat:Int):=by lia
  have q1:d2 zx (dV 1) (aj zq (aa (dV 0) ae)) [.fz (aA r),.fz (.int c),.un,.un]=some (eN (c.fmod r.length).toNat):=by
   have k:zx (.int c) (eN r.length)=some (eN (c.fmod r.length).toNat):=by
    have:=xV (i:=c) (j:=(r.length:Int)) (by lia)
    rw[ek] at this;exact this
   dsimp! [ln,k]
  have kl:(c.fmod r.length).toNat<=r.length:=by lia
  rw[q1,kB,kB];have hb:∀p∈nO c r,PQ n p:=λp hp=>h p (qS hp);have bl:=Wd c r;unfold nO at*;generalize (c.fmod r.length).toNat=k at*;have s2:Bu [Sl.fz (aA r),.fz (.int c),.un,.un] 2 (.fz (eN k))=[.fz (aA r),.fz (.int c),.fz (eN k),.un]:=rfl;rw[s2,yY,sq,so];have q2:d2 zM (dE (dV 0) (oS (dV 2)) oN) (dE (dV 0) oN (oS (dV 2))) [.fz (aA r),.fz (.int c),.fz (eN k),.un]=some (aA (r.drop k++r.take k)):=by
   have kc:=dZ (f:=eQ) (r.drop k) (r.take k) (by rw[uF,pC];lia)
   have cl:=jS (f:=eQ) r k kl;have er:tA (aA r)=some (r.map eQ):=rfl;simp only[d2,dE,dV,sF,oS,oN,kB,pY,pX,Xu,er,cl.1,cl.2,kc];rfl
  rw[q2,kB,kB];generalize r.drop k++r.take k=m at*;have s3:∀x y,Bu [Sl.fz (aA r),.fz (.int c),.fz (eN k),x] 3 y=[.fz (aA r),.fz (.int c),.fz (eN k),y]:=λ_ _=>rfl;rw[s3,yY,sq,fi];have q3:∀x,dB (d2 zr (d2 zx (d2 zO (dV 1) (dC (.int 5))) (dC (.int 2))) (dC (.int 1))) [.fz (aA r),.fz (.int c),.fz (eN k),x]=some (decide ((c.fdiv 5).fmod 2=1)):=λx=>by
   have a1:=jK (i:=c) (j:=5) (by decide) (by decide)
   have a2:=xV (i:=c.fdiv 5) (j:=2) (by decide)
   have a3:zr (.int ((c.fdiv 5).fmod 2)) (.int 1)=some (.bool (decide ((c.fdiv 5).fmod 2=1))):=rfl
   dsimp! [a1,a2,a3]
  rw[q3,kB];have q4:d1 qM (aY 3) [.fz (aA r),.fz (.int c),.fz (eN k),.ow false 1 (aA m)]=some (aA m.reverse):=by
   show some (Dt.list _)=some (Dt.list _)
   rw[Gq]
  have mid:((if decide ((c.fdiv 5).fmod 2=1)=true then bK 3 (d1 qM (aY 3)) [.fz (aA r),.fz (.int c),.fz (eN k),.ow false 1 (aA m)] else bI [.fz (aA r),.fz (.int c),.fz (eN k),.ow false 1 (aA m)]))=some (.nx [.fz (aA r),.fz (.int c),.fz (eN k),.ow false 1 (aA (if(c.fdiv 5).fmod 2=1 then m.reverse else m))]):=by
   by_cases y:(c.fdiv 5).fmod 2=1
   ·rw[ζ y,θ rfl,θ y,so,q4,kB,s3]
   ·rw[ι y,η pF,η y,Rc]
  rw[mid,kB,yY,sq,fi];generalize (if(c.fdiv 5).fmod 2=1 then m.reverse else m)=b at*;obtain⟨a,b',l,rfl⟩:∃a b' l,b=a::b'::l:=by
   match b,bl with
   |[],bl=>rw[uS] at bl;lia
   |[x],bl=>rw[kZ,uS] at bl;lia
   |x::y::t,_=>exact⟨x,y,t,rfl⟩
  have pa:=hb a pH;have pb:=hb b' (pT _ pH);have x0:af (aA (a::b'::l)) (.int 0)=some (eQ a):=dH (f:=eQ) (xs:=a::b'::l) (i:=0) zQ.1 (by rw[kZ];lia)
  have x1:af (aA (a::b'::l)) (.int 1)=some (eQ b'):=dH (f:=eQ) (xs:=a::b'::l) (i:=1) zQ.1 (by rw[kZ,kZ];lia)
  have gt:dB (d2 tW (d2 zx (d2 zO (dV 1) (dC (.int 10))) (dC (.int 3))) (dC (.int 0))) [.fz (aA r),.fz (.int c),.fz (eN k),.ow false 1 (aA (a::b'::l))]=some (decide (0<(c.fdiv 10).fmod 3)):=by
   have a1:=jK (i:=c) (j:=10) (by decide) (by decide)
   have a2:=xV (i:=c.fdiv 10) (j:=3) (by decide)
   have a3:tW (.int ((c.fdiv 10).fmod 3)) (.int 0)=some (.bool (decide (0<(c.fdiv 10).fmod 3))):=rfl
   dsimp! [a1,a2,a3]
  have nq:dB (d2 Ie (d2 af (aY 3) (dC (.int 0))) (d2 af (aY 3) (dC (.int 1)))) [.fz (aA r),.fz (.int c),.fz (eN k),.ow false 1 (aA (a::b'::l))]=some (!decide (a=b')):=by
   dsimp! [sR,x0,x1,Xk]
  have ab:∀(f g:En->Option Bool)(Z:En),cT f g Z=(f Z).bind λb=>if b=true then g Z else some false:=λ_ _ _=>rfl;have q6:d2 zM (aQ (aa (d2 af (aY 3) (dC (.int 0))) (aa (aj j6 (aa (d2 af (aY 3) (dC (.int 0))) (aa (d2 af (aY 3) (dC (.int 1))) ae))) ae))) (dE (aY 3) (oS (dC (.int 1))) oN) [.fz (aA r),.fz (.int c),.fz (eN k),.ow false 1 (aA (a::b'::l))]=some (aA (a::LY a b'::b'::l)):=by
   have am:=LZ hn pa pb;have kc:=dZ (f:=eQ) [a,LY a b'] (b'::l) (by
    rw[kZ,kZ] at bl;simp only[kZ,uS];lia)
   have er:tA (aA (a::b'::l))=some ((a::b'::l).map eQ):=rfl;have c1:=(P4 (f:=eQ) (a::b'::l)).1;have kc:zM (.list [eQ a,eQ (LY a b')]) (.list ((List.drop 1 (a::b'::l)).map eQ))=some (.list (([a,LY a b']++(b'::l)).map eQ)):=kc;simp only[d2,aQ,aa,ae,aj,dC,aY,sR,dE,oS,oN,R0,kB,pY,pX,kZ,uS,hU,tU,if_true,x0,x1,am,er,c1,kc];rfl
  have Na:∀d:Dt,(cf (cL 3 (aK (dV 3))) (.nx [.fz (aA r),.fz (.int c),.fz (eN k),.ow false 1 d]))=some (.rt d [.fz (aA r),.fz (.int c),.fz (eN k),.fz d]):=λ_=>rfl;have cnd:cT (dB (d2 tW (d2 zx (d2 zO (dV 1) (dC (.int 10))) (dC (.int 3))) (dC (.int 0)))) (dB (d2 Ie (d2 af (aY 3) (dC (.int 0))) (d2 af (aY 3) (dC (.int 1))))) [.fz (aA r),.fz (.int c),.fz (eN k),.ow false 1 (aA (a::b'::l))]=some (decide (0<(c.fdiv 10).fmod 3/\a≠b')):=by
   rw[ab,gt,kB]
   by_cases y:0<(c.fdiv 10).fmod 3
   ·rw[ζ y,θ rfl,nq]
    by_cases w:a=b'
    ·rw[ζ w,ι λt=>t.2 w];rfl
    ·rw[ι w,ζ ⟨y,w⟩];rfl
   ·rw[ι y,η pF,ι λt=>y t.1]
  have pt:put c (a::b'::l)=if 0<(c.fdiv 10).fmod 3/\a≠b' then a::LY a b'::b'::l else a::b'::l:=rfl;rw[cnd,kB,pt]
  by_cases y:0<(c.fdiv 10).fmod 3/\a≠b'
  ·rw[ζ y,θ rfl,θ y,so,q6,kB,kB,s3,Na,kB,jt]
  ·rw[ι y,η pF,η y,Rc,kB,Na,kB,jt]
end Nu
variable{ns:List Int}{far:Int}
namespace Nu
theorem Jm:∀l:List (List Q3),(aq l).length<=(l.flatMap id).length
 |[]=>pI _
 |r::l=>by
  have ih:=Jm l;unfold aq at*;rw[UM,UM,kW,kW];have:=JD r;show _<=r.length+_;lia
theorem YT{k:Nat}:∀{l:List (List Q3)},(∀r∈l,r.length<=k)->(l.flatMap id).length<=k*l.length
 |[],_=>QB _
 |r::l,h=>by
  have ih:=YT λx hx=>h x (pT _ hx);have:=h r pH;rw[UM,kW,kZ,Nat.mul_add,Nat.mul_one];show r.length+_<=_;lia
theorem JJ(c:Int)(r:List Q3):(fm c r).length<=r.length+1:=by
 unfold fm
 split
 ·lia
 ·have:=Wd c r;generalize nO c r=b at*;unfold put
  split
  ·grind
  ·lia
theorem Rh{c:Int}{r:List Q3}(h:∀p∈r,PQ 80 p):∀p∈fm c r,PQ 161 p:=λp hp=>by
 unfold fm at hp
 split at hp
 ·exact Pt.mono (h p hp) (by lia)
 ·have hb:∀p∈nO c r,PQ 80 p:=λp hp=>h p (qS hp);generalize nO c r=b at*;unfold put at hp
  split at hp
  ·rename_i a b l
   split at hp
   ·rcases kg.mp hp with z|hp
    ·rw[z];exact Pt.mono (hb a pH) (by lia)
    ·rcases kg.mp hp with z|hp
     ·rw[z];exact Wi (hb a pH) (hb b (pT _ pH))
     ·exact Pt.mono (hb p (pT _ hp)) (by lia)
   ·exact Pt.mono (hb p hp) (by lia)
  ·exact Pt.mono (hb p hp) (by lia)
noncomputable def dF(ns:List Int)(far:Int):List (List Q3):=((kM (mR ns)).map λk=>fm (cel ns (21+k)) (aR ns far k)).reverse
noncomputable def cP(ns:List Int)(far:Int):List (List Q3):=if(cel ns 24).fmod 3=1 then[tI ns far]++dF ns far++[tI ns far] else dF ns far
noncomputable def Nb(ns:List Int)(far:Int):List (List Q3):=(kM (mR ns)).map λk=>nO (cel ns (21+k)) (aR ns far k)
def Nc{φ:List Q3->Bool}(h:∀k,k<mR ns->φ (fm (cel ns (21+k)) (aR ns far k))=φ (aR ns far k)):ah ((bP ns far).map φ)=ah ((cP ns far).map φ):=by
 have e:ah ((dF ns far).map φ)=ah ((bP ns far).map φ):=by
  unfold dF bP;rw[zdf ((Ao _).map φ),uc,uc];exact yk λk hk=>h k (pe.mp hk)
 unfold cP
 split
 ·rw[ku,ku,jE,jE,e];show _=(((φ (tI ns far)^^false)^^_)^^(φ (tI ns far)^^false));generalize ah ((bP ns far).map φ)=x
  cases φ (tI ns far)<;>cases x<;>rfl
 ·exact e.symm
def qx(hf:far.natAbs<2^70)(k:Nat):∀p∈aR ns far k,PQ 80 p:=λp hp=>by
 obtain⟨j,_,rfl⟩:=kh.mp hp;exact W9 hf
theorem JG{r:List Q3}(h:r∈cP ns far):r=tI ns far\/∃k,k<mR ns/\r=fm (cel ns (21+k)) (aR ns far k):=by
 have t:r∈dF ns far->∃k,k<mR ns/\r=fm (cel ns (21+k)) (aR ns far k):=λh=>by
  obtain⟨k,hk,e⟩:=kh.mp (QP.mp h);exact⟨k,pe.mp hk,e.symm⟩
 unfold cP at h
 split at h
 ·grind
 ·exact .inr (t h)
theorem zd4(ns:List Int)(hf:far.natAbs<2^70):∃ls:List (Q3×Q3),ls.length<=1300000/\xk [.list ((bP ns far).map aA)]=some (.list (ls.map eS))/\xk [.list ((cP ns far).map aA)]=some (.list (ls.map eS)):=by
 obtain⟨m1,m2,_⟩:=Yx ns;have l1:∀r∈bP ns far,r.length<=5:=λr hr=>by obtain⟨k,_,rfl⟩:=kh.mp hr;exact qz _ _ _
 have l2:∀r∈cP ns far,r.length<=6:=λr hr=>by
  rcases JG hr with rfl|⟨k,_,rfl⟩
  ·unfold tI;rw[kJ,pE];lia
  ·have:=JJ (cel ns (21+k)) (aR ns far k);have:=qz ns far k;lia
 have l3:∀r∈Nb ns far,r.length<=5:=λr hr=>by
  obtain⟨k,_,rfl⟩:=kh.mp hr;rw[Wd];exact qz _ _ _
 have n1:(bP ns far).length<=3:=by unfold bP;rw[kJ,pE];exact m2
 have n3:(Nb ns far).length<=3:=by unfold Nb;rw[kJ,pE];exact m2
 have n0:(dF ns far).length<=3:=by unfold dF;rw[Ui,kJ,pE];exact m2
 have f1:=YT l1;have f3:=YT l3;have f0:((dF ns far).flatMap id).length<=18:=by
  have:∀r∈dF ns far,r.length<=6:=λr hr=>by
   obtain⟨k,_,e⟩:=kh.mp (QP.mp hr);rw[<-e];have:=JJ (cel ns (21+k)) (aR ns far k);have:=qz ns far k;lia
  have:=YT this;lia
 have f2:((cP ns far).flatMap id).length<=24:=by
  have lf:(tI ns far).length=3:=by unfold tI;rw[kJ,pE]
  unfold cP
  split
  ·grind
  ·lia
 have tot:(aq (bP ns far++cP ns far++Nb ns far)).length<64:=by
  have:=Jm (bP ns far++cP ns far++Nb ns far);rw[QW,QW,kW,kW] at this;lia
 have inJ:∀{r:List Q3},r∈bP ns far++cP ns far++Nb ns far->∀s∈sW r,s∈aq (bP ns far++cP ns far++Nb ns far):=λhr s hs=>Uy.mpr ⟨_,hr,hs⟩;refine LX (n:=161) (by lia) (ex:=Nb ns far) (λr hr p hp=>?_) (λr hr=>?_) ⟨by lia,by lia⟩ tot (λq qw=>Nc λk hk=>L8 (qx hf k) qw) λpj w g T hg=>Nc λk hk=>zaz T (n:=80) (by lia) (qx hf k) (inJ ?_) (inJ ?_) hg
 ·rcases pD.mp hr with hr|hr
  ·rcases pD.mp hr with hr|hr
   ·exact Pt.mono (L7 hf r hr p hp) (by lia)
   ·rcases JG hr with rfl|⟨k,_,rfl⟩
    ·exact Pt.mono (Re hf p hp) (by lia)
    ·exact Rh (qx hf k) p hp
  ·obtain⟨k,_,rfl⟩:=kh.mp hr;exact Pt.mono (qx hf k p (qS hp)) (by lia)
 ·grind
 ·exact uQ _ (kh.mpr ⟨k,pe.mpr hk,rfl⟩)
 ·refine uO _ (uQ _ ?_);have:fm (cel ns (21+k)) (aR ns far k)∈dF ns far:=QP.mpr (kh.mpr ⟨k,pe.mpr hk,rfl⟩);unfold cP
  split
  ·grind
  ·exact this
end Nu
end
namespace Nu
abbrev cx(ns:List Int)(far:Int)(rs:List (List Q3))(x y z:Sl):En:=[.fz (.scr ns),.fz (.int far),.fz (.list (rs.map aA)),x,y,z]
theorem ev_law27(ns:List Int):F_law [.scr ns]=some (.bool true):=by
 suffices Gv (F_law [.scr ns]) λd=>d=.bool true by obtain⟨d,e,rfl⟩:=this;exact e
 have sq:∀(f g:En->Option Ou)(Z:En),ao f g Z=(f Z).bind (cf g):=λ_ _ _=>rfl;have fi:∀(c:En->Option Bool)(f g:En->Option Ou)(Z:En),aC c f g Z=(c Z).bind λb=>if b=true then f Z else g Z:=λ_ _ _ _=>rfl;have Rc:∀Z,bI Z=some (.nx Z):=λ_=>rfl;have so:∀(f:En->Option Dt)(Z:En),bK 3 f Z=(f Z).bind λd=>some (.nx (Z.set 3 (.ow false 1 d))):=λ_ _=>rfl;have se:∀(i:Nat)(f:En->Option Dt)(Z:En),ar i f Z=(f Z).bind λd=>some (.nx (Z.set i (.fz d))):=λ_ _ _=>rfl;have hf:=L6 (cel ns 0);have c0:zZ [.scr ns,.int 0]=some (.int (cel ns 0)):=vI ns 0;have c24:zZ [.scr ns,.int 24]=some (.int (cel ns 24)):=vI ns 24;have ef:=Ra (cel ns 0);obtain⟨ls,ll,L1,L2'⟩:=zd4 ns hf;have al:=ze4 (ls:=ls) (by lia)
 have fr:=Rd ns hf;have er:=zca ns hf;obtain⟨m1,m2,_⟩:=Yx ns;have rl:(bP ns (cb (cel ns 0))).length=mR ns:=by unfold bP;rw[kJ,pE]
 have rk:∀i,i<mR ns->(bP ns (cb (cel ns 0))).getD i []=aR ns (cb (cel ns 0)) i:=λi hi=>by
  unfold bP;rw[kG,kX,uM hi];rfl
 have eo:∀i,i<mR ns->jj [aA (aR ns (cb (cel ns 0)) i),.int (cel ns (21+i))]=some (aA (fm (cel ns (21+i)) (aR ns (cb (cel ns 0)) i))):=λi _=>Rg (n:=80) (by lia) (qx hf i) (by have:=qz ns (cb (cel ns 0)) i;lia) _
 have eoth:dF ns (cb (cel ns 0))=((kM (mR ns)).map λk=>fm (cel ns (21+k)) (aR ns (cb (cel ns 0)) k)).reverse:=rfl;have eof:cP ns (cb (cel ns 0))=if(cel ns 24).fmod 3=1 then[tI ns (cb (cel ns 0))]++dF ns (cb (cel ns 0))++[tI ns (cb (cel ns 0))] else dF ns (cb (cel ns 0)):=rfl;generalize cb (cel ns 0)=far at*;generalize bP ns far=rs at*;generalize tI ns far=fg at*;generalize dF ns far=ot at*;generalize cP ns far=oF at*;have q1:aj qQ (aa (aj zZ (aa (dV 0) (aa (dC (.int 0)) ae))) ae) [.fz (.scr ns),.un,.un,.un,.un,.un]=some (.int far):=by simp only[cx,aj,aa,ae,dV,dC,sF,kB,pY,c0,ef]
 have q2:aj jx (aa (dV 0) (aa (dC (.int 1)) (aa (dV 1) ae))) [.fz (.scr ns),.fz (.int far),.un,.un,.un,.un]=some (.list (rs.map aA)):=by simp only[cx,aj,aa,ae,dV,dC,sF,kB,pY,pX,er]
 have hg:iC bG (aa (aj zq (aa (dV 2) ae)) ae) (cx ns far rs (.ow false 1 (.list [])) .un .un)=some ((kM (mR ns)).map eN):=by
  have:aa (aj zq (aa (dV 2) ae)) ae (cx ns far rs (.ow false 1 (.list [])) .un .un)=some [eN (mR ns)]:=by
   simp only[cx,aj,aa,ae,dV,sF,kB,pY,pX,yF,rl]
  unfold iC;rw[this,kB,jC (by lia)]
 have e0:∀f,bx 6 1 f [.scr ns]=(f [.fz (.scr ns),.un,.un,.un,.un,.un]).bind cF:=λ_=>rfl;have fo:∀(fg:List Nat)(it:En->Option (List Dt))(h:Dt->En->Option En)(b:En->Option Ou)(Z:En),aO fg it h b Z=(it Z).bind λds=>ym h b fg ds Z:=λ_ _ _ _ _=>rfl;have ins:∀(f:En->Option Dt)(Z:En),Ii 3 f Z=(f Z).bind λd=>((Z[3]?).bind sD).bind λx=>if x.2.length<μ then some (.nx (Z.set 3 (.ow x.1 1 (.list (d::x.2))))) else none:=λ_ _=>rfl;have q3:∀(s:List Dt)(i:Nat),i<mR ns->aj jj (aa (d2 af (dV 2) (dV 4)) (aa (aj zZ (aa (dV 0) (aa (d2 zt (dC (.int 21)) (dV 4)) ae))) ae)) (cx ns far rs (.ow false 1 (.list s)) (.fz (eN i)) .un)=some (aA (fm (cel ns (21+i)) (aR ns far i))):=λs i hi=>by
  have x:af (.list (rs.map aA)) (eN i)=some (aA (aR ns far i)):=by rw[dH (f:=aA) [] (by rw[rl];exact hi),rk i hi]
  have a:zt (.int 21) (eN i)=some (.int ((21+i:Nat):Int)):=by
   show some (Dt.int (21+(i:Int)))=_
   congr 2
  have ce:=vI ns (21+i);have o:=eo i hi;simp only[cx,aj,aa,ae,d2,dV,dC,sF,kB,pY,pX,x,a,ce,o]
 have q4:∀d x,dB (d2 zr (d2 zx (aj zZ (aa (dV 0) (aa (dC (.int 24)) ae))) (dC (.int 3))) (dC (.int 1))) (cx ns far rs (.ow false 1 d) x .un)=some (decide ((cel ns 24).fmod 3=1)):=λd x=>by
  have a2:=xV (i:=cel ns 24) (j:=3) (by decide)
  have a3:zr (.int ((cel ns 24).fmod 3)) (.int 1)=some (.bool (decide ((cel ns 24).fmod 3=1))):=rfl
  dsimp! [cx,c24,a2,a3]
 have q5:∀x,d2 zM (d2 zM (aQ (aa (aj wz (aa (dV 0) (aa (dV 1) ae))) ae)) (aY 3)) (aQ (aa (aj wz (aa (dV 0) (aa (dV 1) ae))) ae)) (cx ns far rs (.ow false 1 (.list (ot.map aA))) x .un)=some (.list (([fg]++ot++[fg]).map aA)):=λx=>by
  have lo:ot.length<=3:=by rw[eoth,Ui,kJ,pE];exact m2
  have k1:=dZ (f:=aA) [fg] ot (by simp only[kZ,uS];lia)
  have k2:=dZ (f:=aA) ([fg]++ot) [fg] (by simp only[kW,kZ,uS];lia)
  have k1:zM (.list [aA fg]) (.list (ot.map aA))=some (.list (([fg]++ot).map aA)):=k1;have k2:zM (.list (([fg]++ot).map aA)) (.list [aA fg])=some (.list (([fg]++ot++[fg]).map aA)):=k2;generalize ([fg]++ot).map aA=w1 at*;generalize ([fg]++ot++[fg]).map aA=w2 at*;simp only[cx,d2,aQ,aj,aa,ae,dV,aY,sF,sR,kB,pY,pX,kZ,uS,hU,tT,if_true,fr,k1,k2]
 have q6:∀d x,aj xk (aa (dV 2) ae) (cx ns far rs (.ow false 1 d) x .un)=some (.list (ls.map eS)):=λd x=>by
  simp only[cx,aj,aa,ae,dV,sF,kB,pY,pX,L1]
 have q7:∀x,eU (d1 (zW "list") (dV 5)) (aj YO (aa (aj xk (aa (dV 3) ae)) (aa (dV 5) ae))) (cx ns far rs (.fz (.list (oF.map aA))) x (.fz (.list (ls.map eS))))=some (.bool true):=λx=>by
  have k:=(isi_l (ls.map eS)).2.2.2
  dsimp! [cx,k,L2',al]
 unfold F_law;rw[e0,sq,se,q1,kB,kB];rw[show Bu [Sl.fz (.scr ns),.un,.un,.un,.un,.un] 1 (.fz (.int far))=[.fz (.scr ns),.fz (.int far),.un,.un,.un,.un] from rfl,yY,sq,se,q2,kB,kB];rw[show Bu [Sl.fz (.scr ns),.fz (.int far),.un,.un,.un,.un] 2 (.fz (.list (rs.map aA)))=(cx ns far rs .un .un .un) from rfl,yY,sq,so];rw[show aQ ae (cx ns far rs .un .un .un)=some (.list []) from rfl,kB,kB];rw[show Bu (cx ns far rs .un .un .un) 3 (.ow false 1 (.list []))=(cx ns far rs (.ow false 1 (.list [])) .un .un) from rfl,yY,sq,fo,hg,kB,uJ];refine yU (σ:=List (List Q3)) (λs=>(cx ns far rs (.ow false 1 (.list (s.map aA))) .un .un)) (λi s=>s=((kM i).map λk=>fm (cel ns (21+k)) (aR ns far k)).reverse) [] rfl rfl (λi k s hi hs=>?_) λs hs=>?_
 ·have cq:i<mR ns:=by have:=(kE.mp hi).1;rwa [pE] at this
  rw[uM cq] at hi
  cases hi;have ln:s.length=i:=by rw[hs,Ui,kJ,pE]
  have lm:(s.map aA).length<μ:=by rw[kJ,ln];exact yE (by lia)
  refine⟨fm (cel ns (21+i)) (aR ns far i)::s,?_,by rw[hs,HR,ku,FZ];rfl⟩
  have e1:gN 4 (eN i) (cx ns far rs (.ow false 1 (.list (s.map aA))) .un .un)=some (cx ns far rs (.ow false 1 (.list (s.map aA))) (.fz (eN i)) .un):=rfl;have g3:((cx ns far rs (.ow false 1 (.list (s.map aA))) (.fz (eN i)) .un):En)[3]?=some (.ow false 1 (.list (s.map aA))):=rfl;have ol:sD (.ow false 1 (.list (s.map aA)))=some (false,s.map aA):=rfl;have s3:∀y,Bu (cx ns far rs (.ow false 1 (.list (s.map aA))) (.fz (eN i)) .un) 3 y=(cx ns far rs y (.fz (eN i)) .un):=λ_=>rfl;have nn:∀y,nxt [4] (.nx (cx ns far rs y (.fz (eN i)) .un))=some (cx ns far rs y .un .un):=λ_=>rfl;rw[e1,kB,ins,q3 _ i cq,kB,g3,kB,ol,kB,θ lm,s3,kB,nn];rfl
 ·rw[pE,<-eoth] at hs;subst hs;rw[yY,sq,fi,q4,kB];have s3:∀y z,Bu (cx ns far rs z .un .un) 3 y=(cx ns far rs y .un .un):=λ_ _=>rfl;have md:(if decide ((cel ns 24).fmod 3=1)=true then bK 3 (d2 zM (d2 zM (aQ (aa (aj wz (aa (dV 0) (aa (dV 1) ae))) ae)) (aY 3)) (aQ (aa (aj wz (aa (dV 0) (aa (dV 1) ae))) ae))) (cx ns far rs (.ow false 1 (.list (s.map aA))) .un .un) else bI (cx ns far rs (.ow false 1 (.list (s.map aA))) .un .un))=some (.nx (cx ns far rs (.ow false 1 (.list (oF.map aA))) .un .un)):=by
   by_cases y:(cel ns 24).fmod 3=1
   ·rw[ζ y,θ rfl,so,q5,kB,s3,eof,θ y]
   ·rw[ι y,η pF,Rc,eof,η y]
  rw[md,kB,yY,sq,se,q6,kB,kB];have s5:∀y z,Bu (cx ns far rs z .un .un) 5 y=(cx ns far rs z .un y):=λ_ _=>rfl;have fz3:∀(f:En->Option Ou)(d:Dt)(y:Sl),cL 3 f (cx ns far rs (.ow false 1 d) .un y)=f (cx ns far rs (.fz d) .un y):=λ_ _ _=>rfl;rw[s5,yY,fz3,Ye,q7,kB,kB,jt];exact⟨_,rfl,rfl⟩
end Nu
end Mine
namespace Mine
open PySem L2
variable{mg:Str->Option kL}{ps:List Str}{us:List kL}{F:Qn}
namespace Nu
def Fd(K:Qw)(x:Str)(st:Stmt)(f:Addr)(fd:Qn)(cd:kL):Prop:=QX K uX x=some (some (.ref f))/\tC K x x st f fd cd
def Ld(K:Qw)(x:Str)(st:Stmt)(f c p:Addr)(fd:Qn):Prop:=Fd K x st f fd (.ref c)/\Gu K c p=true/\Db K x=some (c,p)/\K.lookup p=none
section
variable{K:Qw}{x:Str}{st:Stmt}{f c p:Addr}{oc:kL}{od an:Option Addr}{sl:Array (Option kL)}{kV dc pm cd ct:kL}
def fd_mk(a:QX K uX x=some (some (.ref f)))(l:K.lookup f=some ⟨oc,od,.func (gZ x x (wm st) (yK st) (zd st) .none kV dc pm an cd ct),sl⟩)(c:Ch K cd x=true)(k:BZ K (.ref f)=true):Fd K x st f (gZ x x (wm st) (yK st) (zd st) .none kV dc pm an cd ct) cd:=⟨a,zai l c k⟩
def ld_mk{td:Option Addr}{tv:Array kL}{ts:Array (Option kL)}{tc:kL}(a:QX K uX x=some (some (.ref f)))(l:K.lookup f=some ⟨oc,od,.func (gZ x x (wm st) (yK st) (zd st) .none kV dc pm an (.ref c) ct),sl⟩)(e:Ch K (.ref c) x=true)(k:BZ K (.ref f)=true)(_:K.lookup c=some ⟨tc,td,.fields tv,ts⟩)(_:tv[11]?=some (.ref p))(h:Gu K c p=true)(t:Db K x=some (c,p))(n:K.lookup p=none):Ld K x st f c p (gZ x x (wm st) (yK st) (zd st) .none kV dc pm an (.ref c) ct):=⟨⟨a,zai l e k⟩,h,t,n⟩
def Fd.at{h:Heap}{d:Qn}(q:Fd K x st f d cd)(X:K.In h)(G:h.Ns uX mg)(b:∀(kV doc pm:kL)(an:Option Addr)(nH ct:kL)(us:List kL),us.length=ps.length->BF (gZ x x (wm st) (yK st) (zd st) .none kV doc pm an nH ct) ⟨us,[]⟩=pure (ps.zip us)):zi K mg x st ps f d:=⟨⟨_,q.2⟩,q.2.binds b,Hq X G q.1⟩
end
def yQ{α:Type}{l:List α}(i:Nat){a:α}(h:l[i]?=some a):a∈l:=kT h
theorem RZ{n:Nat}(h:us.length=n+1):∃x vs,us=x::vs/\vs.length=n:=by
 cases us with
 |nil=>cases h
 |cons x vs=>exact⟨x,vs,rfl,Hv h⟩
def ar1(h:us.length=1)(f:∀x0,BF F ⟨[x0],[]⟩=pure (ps.zip [x0])):BF F ⟨us,[]⟩=pure (ps.zip us):=by
 obtain⟨x0,us,rfl,h0⟩:=RZ h
 cases UI h0;exact f x0
def ar2(h:us.length=2)(f:∀x0 x1,BF F ⟨[x0,x1],[]⟩=pure (ps.zip [x0,x1])):BF F ⟨us,[]⟩=pure (ps.zip us):=by
 obtain⟨x0,us,rfl,h0⟩:=RZ h;obtain⟨x1,us,rfl,h1⟩:=RZ h0
 cases UI h1;exact f x0 x1
def ar3(h:us.length=3)(f:∀x0 x1 x2,BF F ⟨[x0,x1,x2],[]⟩=pure (ps.zip [x0,x1,x2])):BF F ⟨us,[]⟩=pure (ps.zip us):=by
 obtain⟨x0,us,rfl,h0⟩:=RZ h;obtain⟨x1,us,rfl,h1⟩:=RZ h0;obtain⟨x2,us,rfl,h2⟩:=RZ h1
 cases UI h2;exact f x0 x1 x2
def all_mk{l:HO}{w:World}{K:Qw}{h:Heap}{fa f0 f1 f2 f3 f4 f5 f6 f7 f8 f9 f10 f11 f12 f13 f14 f15 f16 f17 f18 f19 f20 f21 f22 f23 f24 f25 f26 f27 f28 f29 f30 f31 f32 f33 f34 f35 f36 f37 f38 f39 f40 f41 f42 f43 f44 q0 p0 q1 p1 q2 p2 q3 p3 q4 p4:Addr}{d0 d1 d2 d3 d4 d5 d6 d7 d8 d9 d10 d11 d12 d13 d14 d15 d16 d17 d18 d19 d20 d21 d22 d23 d24 d25 d26 d27 d28 d29 d30 d31 d32 d33 d34 d35 d36 d37 d38 d39 d40 d41 d42 d43 d44:Qn}{c0 c1 c2 c3 c4 c5 c6 c7 c8 c9 c10 c13 c14 c15 c16 c17 c18 c20 c22 c23 c24 c25 c26 c28 c29 c30 c31 c32 c33 c34 c35 c36 c37 c38 c39 c40 c41 c42 c43 c44:kL}(X:K.In h)(G:h.Ns uX mg)(hfa:mg "law"=some (.ref fa))
  (h0:Fd K "is_whole" Wl f0 d0 c0)
  (h1:Fd K "divisor" WC f1 d1 c1)
  (h2:Fd K "point" X8 f2 d2 c2)
  (h3:Fd K "before" XE f3 d3 c3)
  (h4:Fd K "sign_of" Ww f4 d4 c4)
  (h5:Fd K "line_of" Vj f5 d5 c5)
  (h6:Fd K "side_of" Wy f6 d6 c6)
  (h7:Fd K "turn" Xo f7 d7 c7)
  (h8:Fd K "met" Wx f8 d8 c8)
  (h9:Fd K "amid" Wa f9 d9 c9)
  (h10:Fd K "order_keys" Vk f10 d10 c10)
  (h11:Ld K "in_order" ju f11 q0 p0 d11)
  (h12:Ld K "by_points" jg f12 q1 p1 d12)
  (h13:Fd K "halved" Vg f13 d13 c13)
  (h14:Fd K "stretch" Vi f14 d14 c14)
  (h15:Fd K "ends_of" WW f15 d15 c15)
  (h16:Fd K "meet" WH f16 d16 c16)
  (h17:Fd K "meet_on_line" WE f17 d17 c17)
  (h18:Fd K "is_upright" W4 f18 d18 c18)
  (h19:Ld K "flanks" jM f19 q2 p2 d19)
  (h20:Fd K "mixed" Wb f20 d20 c20)
  (h21:Ld K "fans_of" vV f21 q3 p3 d21)
  (h22:Fd K "stops" Vo f22 d22 c22)
  (h23:Fd K "stop_at" WF f23 d23 c23)
  (h24:Fd K "lying_at" WT f24 d24 c24)
  (h25:Fd K "note" Xz f25 d25 c25)
  (h26:Fd K "shared_ends" XU f26 d26 c26)
  (h27:Ld K "near_pairs" jB f27 q4 p4 d27)
  (h28:Fd K "pieces" WR f28 d28 c28)
  (h29:Fd K "sides_of" WA f29 d29 c29)
  (h30:Fd K "fences_of" XB f30 d30 c30)
  (h31:Fd K "straightened" XQ f31 d31 c31)
  (h32:Fd K "straight_on" Ve f32 d32 c32)
  (h33:Fd K "land_of" WU f33 d33 c33)
  (h34:Fd K "flanked" Wq f34 d34 c34)
  (h35:Fd K "_law_cell_at" X0 f35 d35 c35)
  (h36:Fd K "_law_whole" Wj f36 d36 c36)
  (h37:Fd K "_law_lowest" Xr f37 d37 c37)
  (h38:Fd K "_law_point" XI f38 d38 c38)
  (h39:Fd K "_law_rings" Wr f39 d39 c39)
  (h40:Fd K "_law_far" XW f40 d40 c40)
  (h41:Fd K "_law_alike" Wm f41 d41 c41)
  (h42:Fd K "_law_far_ring" Vb f42 d42 c42)
  (h43:Fd K "_law_otherwise" WI f43 d43 c43)
  (h44:Fd K "law" X4 f44 d44 c44)
  (nd:([p0,p1,p2,p3,p4]:List Addr).Nodup)
  (z0:QX K uX "abs"=some none)(z1:QX K uX "bool"=some none)(z2:QX K uX "enumerate"=some none)(z3:QX K uX "int"=some none)(z4:QX K uX "isinstance"=some none)(z5:QX K uX "len"=some none)(z6:QX K uX "list"=some none)(z7:QX K uX "max"=some none)(z8:QX K uX "min"=some none)(z9:QX K uX "range"=some none)(z10:QX K uX "reversed"=some none)(z11:QX K uX "sorted"=some none)(z12:QX K uX "tuple"=some none)(z13:QX K uX "zip"=some none):
  ∃(fd:Qn)(tb:List (Addr×Pos×Str)),(∀t∈tb,K.lookup t.1=none/\∃y c,y∈(["in_order","by_points","flanks","fans_of","near_pairs"]:List Str)/\Db K y=some (c,t.1))/\(∀(s:kR)(v:kL),FS s fd ⟨[v],[]⟩ [("_law_script",v)])/\∀base:Heap,K.In base->base.Ns uX mg->(∀t∈tb,base.BuiltinsAt mg t.1)->zm ⟨l.prog,w,K,mg,base,tb⟩ 10 fa fd ["_law_script"] F_law:=by
 cases hfa.symm.trans (Hq X G h44.1);refine⟨d44,[(p0,⟨66,34,66,51⟩,H9 "in_order" ju),(p1,⟨72,30,72,68⟩,H9 "by_points" jg),(p2,⟨128,36,128,81⟩,H9 "flanks" jM),(p3,⟨149,33,149,85⟩,H9 "fans_of" vV),(p4,⟨188,52,188,83⟩,H9 "near_pairs" jB)],?_,?_,λbase hK E8 hB=>ok_law (ad:=(λn=>[f0,f1,f2,f3,f4,f5,f6,f7,f8,f9,f10,f11,f12,f13,f14,f15,f16,f17,f18,f19,f20,f21,f22,f23,f24,f25,f26,f27,f28,f29,f30,f31,f32,f33,f34,f35,f36,f37,f38,f39,f40,f41,f42,f43,fa,q0,p0,q1,p1,q2,p2,q3,p3,q4,p4].getD n 0)) (fd:=(λn=>[d0,d1,d2,d3,d4,d5,d6,d7,d8,d9,d10,d11,d12,d13,d14,d15,d16,d17,d18,d19,d20,d21,d22,d23,d24,d25,d26,d27,d28,d29,d30,d31,d32,d33,d34,d35,d36,d37,d38,d39,d40,d41,d42,d43,d44].getD n d44)) ?_⟩
 ·simp only[List.forall_mem_cons,QO,false_implies,implies_true,and_true];exact⟨⟨h11.2.2.2,"in_order",q0,yQ 0 rfl,h11.2.2.1⟩,⟨h12.2.2.2,"by_points",q1,yQ 1 rfl,h12.2.2.1⟩,⟨h19.2.2.2,"flanks",q2,yQ 2 rfl,h19.2.2.1⟩,⟨h21.2.2.2,"fans_of",q3,yQ 3 rfl,h21.2.2.1⟩,⟨h27.2.2.2,"near_pairs",q4,yQ 4 rfl,h27.2.2.1⟩⟩
 ·obtain⟨_,⟨_,_,_,_,_,_,_,_,e,_⟩,_⟩:=h44;subst e;exact λs v=>.of_eq rfl
 ·refine⟨h0.at X G ?_,h1.at X G ?_,h2.at X G ?_,h3.at X G ?_,h4.at X G ?_,h5.at X G ?_,h6.at X G ?_,h7.at X G ?_,h8.at X G ?_,h9.at X G ?_,h10.at X G ?_,h11.1.at X G ?_,h11.1.2,⟨AH hK h11.2.1,hB _ (yQ 0 rfl),jV nd (yQ 0 rfl)⟩,h12.1.at X G ?_,h12.1.2,⟨AH hK h12.2.1,hB _ (yQ 1 rfl),jV nd (yQ 1 rfl)⟩,h13.at X G ?_,h14.at X G ?_,h15.at X G ?_,h16.at X G ?_,h17.at X G ?_,h18.at X G ?_,h19.1.at X G ?_,h19.1.2,⟨AH hK h19.2.1,hB _ (yQ 2 rfl),jV nd (yQ 2 rfl)⟩,h20.at X G ?_,h21.1.at X G ?_,h21.1.2,⟨AH hK h21.2.1,hB _ (yQ 3 rfl),jV nd (yQ 3 rfl)⟩,h22.at X G ?_,h23.at X G ?_,h24.at X G ?_,h25.at X G ?_,h26.at X G ?_,h27.1.at X G ?_,h27.1.2,⟨AH hK h27.2.1,hB _ (yQ 4 rfl),jV nd (yQ 4 rfl)⟩,h28.at X G ?_,h29.at X G ?_,h30.at X G ?_,h31.at X G ?_,h32.at X G ?_,h33.at X G ?_,h34.at X G ?_,h35.at X G ?_,h36.at X G ?_,h37.at X G ?_,h38.at X G ?_,h39.at X G ?_,h40.at X G ?_,h41.at X G ?_,h42.at X G ?_,h43.at X G ?_,h44.at X G ?_,ut X G z0,ut X G z1,ut X G z2,ut X G z3,ut X G z4,ut X G z5,ut X G z6,ut X G z7,ut X G z8,ut X G z9,ut X G z10,ut X G z11,ut X G z12,ut X G z13⟩
  all_goals
   intro _ _ _ _ _ _ us hl
   first|exact ar1 hl λ_=>rfl|exact ar2 hl λ_ _=>rfl|exact ar3 hl λ_ _ _=>rfl
end Nu
end Mine
set_option genInjectivity false
set_option genSizeOf false
structure PySem.W.Fast:Prop where(tw4785163768871884289 tw7401154949258114200 tw18020194545191801257 tw739951866155653553 tw1385203912393953944 tw6110057361596350695 tw6636999902393623091 tw3010431850365965466 tw6832740735190147980 tw12629998965422024928 tw5120021296899618481 tw17956023225024523617 tw6015569602555499081 tw15645874968356358930 tw18114630409844652315 tw4890488257176455455 tw5683755793663835927 tw16892814384960345146 tw15594020704387666000 tw11299511342430286554 tw12636310264795097981 tw16730997406860969309 tw11447596410653577059 tw8467234332005738653 tw13601979445249864777 tw5766725578527647648 tw10576865229935742291 tw14017424026795366407 tw1782181752271046301 tw13203004827330938126 tw8739966299369251357 tw7589741646093904088 tw1892316675161049419 tw8160500703506077659 tw17612038960431400156 tw285544143158147163 tw14336585077222898861 tw5160867035050909017 tw5777342159535971957 tw17815117061701715247 tw12557808736027038288 tw13741749164584699621 tw4523342547113360407 tw9018930612284827866 tw9882450653373104507 tw7232292561392993003 tw13751029846222503261 tw10818685045331550993 tw8309232600649051830 tw13283391963273320648 tw8916072036464686634 tw17437407590850585552 tw8055426101255474281 tw14637934971035280787 tw16543633091416028083 tw5229523852017810811 tw3755927916971902049 tw11464449060613456396 tw10509246590164970898 tw2052611332703772451 tw2184444883233025062 tw822504132630899596 tw18296671301038504671 tw7126165266899090682 tw12788625447419332528 tw5390573995825918240 tw4785772391515059981 tw11873298149419549943 tw2344010333045303566 tw765813550686645346 tw2754702917657784112 tw8676900860740209711 tw9582768819860125521 tw6856115181801016221 tw1515084516100262365 tw14769260347908564041 tw16047902353416517535 tw5566402053383261091 tw4180991206472270015 tw12408201321198671239 tw14470096549899309902 tw7965573810207246024 tw5945445347172982399 tw5611437055570936037 tw9586970188326260055 tw17135967764562019380 tw1826172782631002180 tw1467277699095411847 tw6584610902546852174 tw9446349745583021548 tw5882584578582433596 tw11545030795900218962 tw6559855958818264182 tw4370234683391089458 tw3826566321008740936 tw9206012237846388598 tw2531926656647796552 tw11875390256888974776 tw17184666534133477527 tw4200079853083607822 tw4003142833442478265 tw11836676808592230958 tw7293957381871099217 tw7053159683859860978 tw6117006677039168936 tw6512657210672071794 tw11742021101436609949 tw14836919602843960065 tw2988090619788412439 tw7965938634619487157 tw17651554166630761704 tw16045374498442430073 tw13928319380959743469 tw14079866760214181375 tw11566576831540596220 tw18073540390875740355 tw17899167238674515148 tw12021557862053957969 tw9397730197469019512 tw12704556962631563119 tw3590791464068356640 tw429148819413733393 tw13673271430728586775 tw9103889232826682334 tw11881712047786759325 tw969524661762897654 tw6927818164842809152 tw868223356592833586 tw15354525758694054189 tw12249390768651625315 tw12552144670313243233 tw9859685504534784967 tw9204665933844158545 tw17423070897993962249 tw14852332234717938460 tw14021040235525584756 tw17058680185745224719 tw15029695778260011203 tw10783334727199351811 tw17164725185969381479 tw882137848766971091 tw7811757124608723763 tw11863807191944627905 tw16424186923013037388 tw13390177593800700063 tw11962917362391869999 tw14738134105535649699 tw6681935521531485317 tw367695651258161706 tw17694295515461538355 tw8208141095748242690 tw7179002660697732299 tw11106285362806407106 tw7611609673003017777 tw9364952171624236693 tw14325676308079271530 tw18094562214771569432 tw14565430910489911044 tw8304118907786508477 tw17580100308708771129 tw621030364418720434 tw2798210726937287666 tw14579899607685745899 tw12205068605836977111 tw10973210286801280181 tw14657700461939412259 tw9625119333999505896 tw3521311178736488121 tw3482941605805709061 tw9657538893249498236 tw14580079228049859575 tw3173750716344261275 tw3538298116091776127 tw8601163287417854116 tw15829112562219260817 tw323852359016151630 tw6839629298751654124 tw12837803036411738437 tw12934509440004962006 tw17183660605695696993 tw13423759882978493 tw763071277525388392 tw11354470313507248720 tw10089955228421591581 tw15601402995635316984 tw215670647645223570 tw1283210288422686659 tw12585489640942647008 tw11019758267759455152 tw14001672924213343773 tw8963994402591497692 tw8246852495665124246 tw10648664449579099524 tw5279884111706776427 tw6672087548920656702 tw3820034006166011794 tw10041288506384931122 tw16621178163759247377 tw7860017662847623325 tw5863918641431439272 tw17154634617667301321 tw17760232188125431465:True)
open PySem PySem.W PyProof.Rows
set_option maxRecDepth 100000 in
set_option maxHeartbeats 0 in
theorem PySem.Challenge.cw_acre_k27_whole_the_same_land_holds : PySem.Challenge.rw_acre_k27_whole_the_same_land.Holds := by
 w_on;o_law;k_head;(case hw=>w_witness2)
 k_fill
 refine L2.walk_ofN (l:=PySem.Challenge.rw_acre_k27_whole_the_same_land) (n:=63) (k:=10) (x:="_law_script") (F:=Mine.Nu.F_law) (ds:=["in_order","by_points","flanks","fans_of","near_pairs"]) rfl (by decide) rfl ⟨rfl,by decide,by decide⟩ (λw h Y=>PySem.W.km_in_of Y) (λy hy=>by simp only[kg,QO,or_false] at hy;rcases hy with rfl|rfl|rfl|rfl|rfl<;>exact⟨_,rfl⟩) ?F λns hl=>Mine.Nu.ev_law27 ns
 case F=>
  intro w mg fa h KX G T3
  refine' Mine.Nu.all_mk KX G T3 ?h0 ?h1 ?h2 ?h3 ?h4 ?h5 ?h6 ?h7 ?h8 ?h9 ?h10 ?h11 ?h12 ?h13 ?h14 ?h15 ?h16 ?h17 ?h18 ?h19 ?h20 ?h21 ?h22 ?h23 ?h24 ?h25 ?h26 ?h27 ?h28 ?h29 ?h30 ?h31 ?h32 ?h33 ?h34 ?h35 ?h36 ?h37 ?h38 ?h39 ?h40 ?h41 ?h42 ?h43 ?h44 ?nd ?z0 ?z1 ?z2 ?z3 ?z4 ?z5 ?z6 ?z7 ?z8 ?z9 ?z10 ?z11 ?z12 ?z13
  all_goals (try (refine' Mine.Nu.fd_mk ?a ?l ?c ?k;(case a=>k_is);(case l=>k_is);(case c=>k_is);(case k=>k_is)))
  all_goals (try (refine' Mine.Nu.ld_mk ?a ?l ?c ?k ?e ?v ?h ?t ?n;(case a=>k_is);(case l=>k_is);(case c=>k_is);(case k=>k_is);(case e=>k_is);(case v=>rfl);(case h=>kernel_rfl);(case t=>kernel_rfl);(case n=>kernel_rfl)))
  (case nd=>decide)
  all_goals k_is
