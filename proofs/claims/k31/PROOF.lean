import PyProof.Rows.All
import Wide.All
import OpenK.AllK
import Wide.FinOn
import Lean
import PyProof.EqAt
import PyProof.EqKinds
import PyProof.TupleCall
import PySem.Challenge.RW_acre_k31_marks
open Option renaming bind_eq_some_iff->kA,bind_some->kG,bind_assoc->uL,map_eq_some_iff->uO,map_some->gK,toList->Bd,getD_none->FS,bind->Fx
open PySem renaming wpAny_bind->kB,Value->kL,wpAny_pure->kR,Shared->kW,starEach->kh,mainGlobals->pZ,mem_of_lookup->pg,bootBuiltins->uD,wpAny_Call_Name_kw->uV,backTo->ub,wpAny_truthy_bool->uj,wpAny_seqItems->uv,wpAny_execs_cons->uw,FuncData->uz,wpAny_callSpecial?_slot->QB,Around->QF,wpAny_call_entry->QN,Program->QT,wpAny_field->QW,compareOp->QX,swapsWith->QY,wpAny_mono->Qe,keywordEach->Qi,wpAny_Assign_Name->Qo,wpAny_newObj_type->Qp,wpAny_execs_nil->Qt,wpAny_passesOwn->Qu,codeAny_builtin->Qv,isSubtype_type->UI,wpAny_typeNameOfWhole_keyiter->UJ,sysModules->UN,codeAny_mono->US,wpAny_updateSeq->Uh,foldedSetIterable->Ui,plainId_quiet->Uk,wpAny_typeNameOf_keyiter->Ul,wpAny_isInstance->Un,Paired->Uo,rawInt->Uq,backToKw->Ut,IsPair->Uw,sliceBounds->hU,wpAny_Assign_Subscript->gE,wpAny_setField_rec->gG,wpAny_loadPart'->gJ,call_isinstance->gL,behindInMarks->gP,wpAny_attempt->gQ,wpAny_holding->gR,wpAny_isTrue_Compare1->gS,wpAny_pyIter_list->gZ,codeAny->gc,Builtin->gh,wpAny_newFunctionEnv_cells->AA,wpAny_rule->AD,firstArgMember->AE,wpAny_letGo->AF,argBest->AL,pyNext->AO,bindArgs->AT,wpAny_Constant_int->Af,isSubtype->Am,slot_list_getitem->As,wpAny_Expr_any->Ax,wpAny_setField->Ay,wpAny_tryCatch->BB,wpAny_dictEntries->BC,codeAny_call_function->BM,wpAny_isOneOf_keyiter->BO,builtinLookup_eq_fast->BP,Spec->BS,wpAny_Name->BT,call_meets->BV,DictEntry->BX,compEnvC->Be,letOwnedTupleGo->Bi,seqItems?->Bv,Fin->Bw,assignEach->Bz,wpAny_pyIter_tuple->CB,recursionLimit->CC,NameKind->CE,wpAny_call->CG,wpAny_fieldsOf->CJ,callWith->CK,wpAny_BinOp->CU,getItem->CV,wpAny_Return_some->CW,list_append->CY,wpAny_of_eq->Cb,wpAny_standAt->Cf,wpAny_getItem_list_slice->Ch,wpAny_newList->Cj,wpAny_forIn_list->Cr,wpAny_pyIter_zip->DD,builtinsNs->DH,seqIndex_neg->DJ,wpAny_getItem_list_neg->DL,BindsTo->DM,closureFor->DP,richCompare_meets_room->DX,wpAny_specialOf->Db,wpAny_dictEpoch->Dd,typeLookup_type->De,wpAny_storeName_local->Dh,wpAny_notOrdered_dict->Dj,wpAny_loadName_local->Dr,intBits_le_iff->Ds,seqIndex_of->Du,wpAny_newFunctionEnv->Dz,wpAny_updateSeq_pair->EB,isSubtype_stop->EC,dictSetDefault->EE,intKind->EJ,eqIsQuiet->EK,Arguments->EL,cellsFrom->EM,evalPart_none->ET,wpAny_handled->EU,wpAny_onRaise->EV,PyData->EZ,wpAny_List_spliced->Eb,wpAny_evalAll_cons->Ee,wpAny_assign_Name->El,codeAny_whileLoop->Em,codeAny_func->Eo,storedH->Ep,call_meetsIn->Er,wpAny_pyIter_slot->Et,wpAny_pyIter_enum->Eu,wpAny_evalAll_nil->Ey,wpAny_pyHash_int->FL,storeName->FN,wpAny_Dict_empty->FQ,noFill_tuple_add->FR,slicePick->FU,checkBuiltinCall->FW,entryFor_of_tree->FX,wpAny_Slice->Fj,wpAny_throw->Fl,richCompare->Fm,storedH_new->Fo,codeAny_of_tree->GA,callerA->GI,ReadsAll->GJ,entryOfKey->GK,pyIter->GL,Result->GM,newExc->GN,argsOk->GO,call->GQ,defaultsOf->GS,tupleKind->Gm,updateSeq->Go,typeOf->Gr,ItemsOf->Gu,sizeLine->ψ,wpAny->δ,model->ε,cLine->ν
open List renaming getElem?_eq_getElem->kC,getD_eq_getElem?_getD->kE,getElem?_eq_some_iff->kH,length_map->kJ,range->kN,mem_cons->kT,getElem?_map->kY,map_cons->kZ,length_append->kb,mem_of_getElem?->kg,mem_map->ki,mem_range->kn,length_cons->ku,size_toArray->pA,mem_append->pC,map_append->pD,mem_singleton->pE,mem_iff_getElem?->pF,mem_filter->pG,pairwise_iff_getElem->pI,length_range->pM,take_add_one->pP,getElem?_eq_none->pR,mem_iff_getElem->pW,not_mem_nil->pe,getElem_mem->pi,getElem?_range->uA,length_take->uC,map_map->uE,length_filter_le->uF,mem_append_right->uG,getElem?_append_right->uJ,pairwise_cons->uK,mem_cons_of_mem->uM,mem_cons_self->uN,mem_append_left->uP,all_eq_true->uS,nodup_cons->uU,take_length->uc,length_singleton->uh,lookup_cons->QA,mem_flatMap->QC,nodup_append->QE,getElem?_append_left->QH,pairwise_singleton->QK,map_congr_left->QS,ext_getElem?->QU,eq_nil_of_length_eq_zero->QV,length_zip->Qd,getElem?_cons_succ->Qh,cons_append->Qk,pairwise_append->Ql,drop_eq_getElem_cons->Qw,length_replicate->Qx,take_append_drop->Qz,length_drop->UC,filter_cons->UE,set_cons_succ->UF,mem_of_mem_take->UK,getElem?_cons_zero->UM,length_set->UP,length_nil->UQ,zipWith_cons_cons->UT,map_nil->UW,zip_cons_cons->UZ,getElem?_drop->Ub,take_zero->Uc,set_cons_zero->Uf,getElem?_replicate->Us,any_eq_true->Uu,mem_reverse->hH,toArray->gC,getElem?_take->gI,nil_append->gO,getElem?_zipWith->gV,getElem?_toArray->gW,getElem?_set->gY,getElem?_set_ne->AG,zipWith->AK,length_reverse->AS,append_nil->Ab,of_mem_zip->Ac,foldl_cons->Ae,replicate->Aq,take_sublist->Aw,getElem?_set_self->BF,drop_of_length_le->BH,take_of_length_le->BJ,map_snd_zip->BW,eq_nil_iff_forall_not_mem->BZ,reduceReplicate->Bg,forIn_cons->Bj,filterMap_cons->Bn,flatMap_append->Bo,perm_ext_iff_of_nodup->CO,length->CX,append_assoc->Ca,flatMap_cons->Cc,getElem?_take_of_lt->Ce,getElem_inj->Cu,zip_append->Dc,filter_nil->Dg,getElem?_reverse->Dl,modify_succ_cons->Dm,modify_zero_cons->Do,getElem?_modify->Dv,forIn_nil->EA,drop_eq_nil_iff->EG,length_zipWith->EN,filterMap_map->Ef,filter_append->Ei,map_singleton->Ej,zip_nil_left->Ev,reverse_cons->Ew,map_set->FI,foldl_append->FJ,all_eq_false->FK,drop_length->FO,map_fst_zip->FP,zipIdx_cons->FV,ext_getElem->FZ,getElem_map->Fb,nodup_range->Fe,perm_middle->Ff,map_reverse->Fg,filter->Fw,zipIdx_nil->Fz,drop_drop->GU,drop_zero->GV,all_cons->Gf,map_take->Gh,map_drop->Gi,all_map->HH
open PySem.Heap renaming get?_push_of_some->kK,get?_push_size->ke,get?_none_of_le->pU,get?_update_other->pX,lt_size->po,get?_update_self->uo,SameBut->Qc,size_push->Uv,get?_update_ne->EO,size_update->FY,ExtBut->Fk,IsTuple->Gs
open Int renaming le_of_lt->kM,mul_eq_zero->kX,mul_pos->kf,mul_nonpos_of_nonpos_of_nonneg->kj,mul_neg_of_neg_of_pos->kx,mul_nonneg->kz,zero_mul->pY,mul_zero->ph,mul_comm->uY,lt_trichotomy->ue,toNat_natCast->uk,neg_mul->QG,natAbs_mul->Qb,mul_le_mul_of_nonneg_right->UD,neg_zero->UH,lt_or_le->UX,add_zero->UY,fdiv_eq_ediv_of_nonneg->Ud,ofNat_dvd_left->Ue,mul_neg_of_pos_of_neg->Ug,le_refl->hW,mul_le_mul_of_nonneg_left->hZ,one_mul->gA,mul_neg->gB,mul_lt_mul_of_pos_right->gw,eq_of_mul_eq_mul_right->AJ,mul_nonpos_of_nonneg_of_nonpos->Ak,zero_add->BE,fmod_nonneg_of_pos->BK,fmod_add_mul_fdiv->BQ,le_ediv_of_mul_le->BR,mul_ediv_mul_of_pos_left->Bm,fdiv_mul_cancel->Bp,add_comm->Bu,le_of_mul_le_mul_right->CM,fmod_lt_of_pos->CN,mul_right_comm->CP,mul_pos_of_neg_of_neg->CS,sub_zero->DV,not_lt->DZ,not_le->Da,le_antisymm->Df,mul_one->Dw,natAbs_natCast->Eg,le_trans->Ez,ediv_mul_le->GE,neg_mul_neg->GH,natAbs_dvd->GX,lt_irrefl->Gg,le_total->Gw,lt_asymm->HA,zero_sub->HF
open Lean renaming maxHeartbeats->kO,mkIdent->Bt,TSyntax->FG,MacroM->Ft
open Prod renaming fst->pH,ext->Uy,snd->HK
open PySem.Obj renaming mapSeq->pJ,data_mapFields->Ai,isFreed_of_fields->Di,data_mapDictKeys->EF,mapFields->EW,cls_mapFields->Es
open Nat renaming le_refl->pL,le_trans->uR,zero_le->ui,lt_of_le_of_lt->um,ne_of_lt->ut,lt_of_lt_of_le->Qg,gcd_dvd_left->Uz,le_of_lt->gD,lt_trichotomy->gu,gcd_dvd_right->gv,pow_le_pow_right->AH,lt_or_eq_of_le->Aj,ne_of_gt->Az,succ_pos->BI,lt_succ_self->BU,reduceAdd->Bc,zero_add->Br,dvd_trans->Co,xor_assoc->Cp,le_mul_of_pos_right->DF,mul_lt_mul''->DG,sub_self->DW,pow_succ->DY,le_of_ble_eq_true->Dp,add_assoc->ER,lt_irrefl->EX,reduceSub->EY,lt_or_gt_of_ne->Eh,lt_succ_of_lt->Ex,gcd_mul_right->FH,le_succ->Fp,min_le_left->GB,testBit_xor->GG,testBit_or->GY,mul_le_mul->GZ,mul_succ->HB,zero_xor->HC,add_zero->HE,pow_add->HL,one_mul->HM,gcd->HP
open Bool renaming and_eq_true->pO,eq_false_iff->pS,false_ne_true->pb,false_eq_true->ul,eq_iff_iff->QL,true_and->Qn,not_eq_true'->UL,and_true->AZ,false_and->At,false_xor->BG,xor_false->BL,not_eq_true->BY,and_false->Dy,not_eq_false'->Ek,not_or->Fv,or_eq_true->GF,not_true->Gb,or_false->Gc,and_comm->Gj,false_or->Gk,not_not->HD,true_or->HG
open Option.some renaming inj->pT,injEq->CZ
open PySem.W renaming mg_none_of->py,nsIn->uT,Frag->QM,fnOf->Uj,codeHd_of_K->Um,hideAll->gM,callWith_K->Ag,keepIn->Au,cellsFrom_some->Av,codeIn->CD,codeRec_of->CF,tabIn->Cm,mg_of->Cq,hideAll_get->EQ,kat_cons->Fa,codeHdIn->Fh,kat_yes->GC,OpenLaw->GD,kat_no->GW
open Classical renaming byContradiction->uB
open PySem.PyData renaming canLayAll0->uH,depthAll->ud,canLay0->uu,depth->QJ,eqv->UA,eqvAll->UG,int->gH,tuple->FE
open PySem.Calls renaming spliced_cons->uI,spliced_nil->QD,Name_function_global->Bx,evalArgs_plain->Dx
open PySem.Value renaming ref->uQ,none->QQ,type->Ua,bool->AI,isInt_shape->CT,isInt->Fi,isStrOf->Ga,int->HQ
open PySem.Str renaming ofString->uW
open PyProof.Rows renaming seqObj->uX,listItems_at->Qr,callWith_builtin1->UB,callWith_type1->UU,envOfC->Ur,IntsAre->gq,get?_update_seq->Ad,subscriptTail_builtinR->Ar,subscriptTail->Bb,SortKind->Bf,Subscript_->By,listUpdate_at->Ck,lt_int->Ct,AllBare->DI,mirror_size->EI,slot_tuple_getitem->Ec,keyKind'->FA,ksk_end->Gy,keyLt'->Gz
open PySem.NameKind renaming free->uZ,cell->AX
open PySem.SeqAt renaming shaped->uq,eqBoolOverData->CL
open PySem.Builtin.SmallTypes renaming nextOf->QI,ownedTupleIsFree->Qa,ownedTupleHandOut->AQ
open PySem.F renaming plain_max_loop->QO,slot_list_append->QZ,slot_dict_keyiterator_next->Qf,slot_tuple_iterator_next->Qq,slot_zip_next->gU,args_list_append_2->AC,entry_list_append->AN,args_dict_keyiterator_next_1->AR,type_list_append->AV,slot_list_extend->AW,entry_dict_keyiterator_next->AY,args_tuple_iterator_next_1->Ah,plainAttrs_list->Al,entry_tuple_iterator_next->An,entry_max_loop->BA,slot_dict_get->BN,slot_dict_setdefault->Bl,args_list_extend_2->CH,entry_list_extend->CQ,slot_dict_getitem->CR,args_tuple_add_2->Cg,slot_list_insert->Cn,args_dict_get_3->Cw,plainAttrs_dict->Cy,entry_tuple_add->Cz,args_zip_next_1->DA,entry_dict_get->DO,slot_tuple_add->DQ,entry_zip_next->DR,slot_dict_iter->DS,slot_list_lt->EH
open Array renaming getElem?_eq_getElem->QP,length_toList->Qs,getElem?_toList->Qy,getD_eq_getD_getElem?->UV,getElem?_eq_none->BD,toList_append->EP,forIn_toList->Ea,getD->GT,size->HN
open PySem.Heap.SameBut renaming update->QR
open PySem.Around renaming under_plainId->Qj
open PySem.Builtin.List renaming listExtendWith->Qm,listTooLong->AU,listSameRef->Ci,listItems->DU
open False renaming elim->UO
open Ne renaming symm->UR
open PySem.MeetsSeq3 renaming plain_eq_loop->Ux,entry_eq_loop->DE
open PySem.Builtin.Tuple renaming tupleHashOf->AM
open List.Pairwise renaming imp_of_mem->Aa,filter->Bh
open PySem.Builtin renaming bitAnd->Ao,bitXor->Dq,bitOr->ES
open PySem.Paired renaming length->Ba
open PySem.Builtin.Dict_items renaming ownsTuple->Bk
open PySem.Builtin.Builtins renaming bindParams->Bq
open PySem.Heap.IsSliceOf renaming new->CI
open PyProof renaming noPylong_of_log2->Cd
open PySem.IsL renaming update->Cv
open PySem.Builtin.Range renaming rangeSize->DB
open PySem.AutoSeq1 renaming sub_list_list->DN
open PySem.Builtin.Dict renaming showsAll->Dk
open ToString renaming toString->ED
open PySem.Code renaming quiet_builtin->Ed
open Sum.inl renaming inj->Fu
open ForInStep renaming yield->Fy
open PySem.Manifest renaming find?->GP
open PySem.Walks renaming list->GR
open PySem.Shared renaming TypeIs->Ge,heap->HI
open PyProof.Rows.IsTup renaming new->Gn
open Sum renaming inl->Gp,inr->HO
open Nat.succ renaming inj->Gq
open PySem.IsRange renaming new->HJ
set_option Elab.async false
set_option linter.all false
set_option maxRecDepth 100000
set_option maxHeartbeats 4000000
set_option compiler.extract_closed false
set_option bootstrap.genMatcherCode false
set_option genSizeOfSpec false
def θ:=@if_pos
def η:=@if_neg
def ι:=@decide_eq_false
def ζ:=@decide_eq_true
def ξ:=@of_decide_eq_true
def ω:=@decide_eq_decide
def τ:=@decide_eq_true_iff
def χ:=@beq_self_eq_true
def υ:=@congrArg
noncomputable section
namespace L2
open PySem PySem.Spec PyProof.Rows
abbrev dh:=Sum Int Str
noncomputable def jt:dh->kL->Bool
 |.inl k,v=>Fi k v
 |.inr x,v=>Ga x v
noncomputable def Rk(w:World):dh->Int
 |.inl k=>hashInt k
 |.inr x=>hashStr w x
theorem va:∀{k:dh}{v:kL},jt k v=true->(∃i t,k=Gp i/\v=HQ i t)\/(∃x t,k=HO x/\v=Value.str x t)
 |.inl i,v,h=>by
  obtain⟨t,e⟩:=CT (k:=i) (v:=v) h;exact .inl ⟨i,t,rfl,e⟩
 |.inr x,v,h=>by
  obtain⟨t,e⟩:=Value.isStrOf_shape (x:=x) (v:=v) h;exact .inr ⟨x,t,rfl,e⟩
def zax(i:Int)(t:Tok):jt (.inl i) (.int i t)=true:=by simp[jt,Fi]
def zap(x:Str)(t:Tok):jt (.inr x) (.str x t)=true:=by simp[jt,Ga]
noncomputable def w9(prog:QT)(w:World):PySem.KeyKind prog w dh where
 is:=jt
 hash:=Rk w
 inj:=λv a b ha hb=>by
  rcases va ha with⟨i,t,rfl,rfl⟩|⟨x,t,rfl,rfl⟩<;>rcases va hb with⟨j,u,rfl,e⟩|⟨y,u,rfl,e⟩<;>cases e<;>rfl
 byValue:=λk v h=>by rcases va h with⟨i,t,rfl,rfl⟩|⟨x,t,rfl,rfl⟩<;>rfl
 pyHash:=λhv h=>by
  rcases va hv with⟨i,t,rfl,rfl⟩|⟨x,t,rfl,rfl⟩
  ·exact FL h
  ·exact wpAny_pyHash_str h
 eqBool:=λhu hv h=>by
  rcases va hu with⟨i,t,rfl,rfl⟩|⟨x,t,rfl,rfl⟩<;>rcases va hv with⟨j,u,rfl,rfl⟩|⟨y,u,rfl,rfl⟩
  ·exact wpAny_eqBool_int (by rw[show decide ((Gp i:dh)=.inl j)=(i==j) from by by_cases e:i=j<;>simp[e]] at h;exact h)
  ·exact SeqAt.EqAt.int_str i t y u _ _ _ _ (by simpa using h)
  ·exact SeqAt.EqAt.str_int x t j u _ _ _ _ (by simpa using h)
  ·exact wpAny_eqBool_str (by simpa using h)
 «strs»:=λk x t v h=>by
  rcases va h with⟨i,u,rfl,e⟩|⟨y,u,rfl,e⟩<;>cases e
  cases v<;>rfl
abbrev KI:=Int ⊕ List Int
abbrev KT:=List KI
noncomputable def dS:KI->EZ
 |.inl k=>.int k
 |.inr l=>.tuple (l.map .int)
section
variable{prog:QT}{w:World}{A:QF}{E:kL->kW->Prop}{s:kW}{h h':Heap}{O:Addr->Prop}
inductive IT(prog:QT)(w:World)(O:Addr->Prop)(h:Heap):KT->List kL->Prop
 |nil:IT prog w O h [] []
 |a {k t ks vs}:IT prog w O h ks vs->IT prog w O h (.inl k::ks) (.int k t::vs)
 |t {l b ks vs}:¬O b->IsTupleKey (EJ prog w) h l b->IT prog w O h ks vs->IT prog w O h (.inr l::ks) (.ref b::vs)
def IK(prog:QT)(w:World)(O:Addr->Prop)(h:Heap)(k:KT)(a:Addr):Prop:=¬O a/\∃o items n,h.get? a=some o/\o.cls=.type "tuple"/\o.data=.seq items n/\IT prog w O h k items.toList
noncomputable def iH(w:World)(prog:QT):KI->Int
 |.inl k=>hashInt k
 |.inr l=>tupleKeyHash (EJ prog w) l
noncomputable def iN:KI->Nat
 |.inl _=>1
 |.inr l=>l.length+1
variable{vs:List kL}
theorem zd4{l:List Int}(e:ItemsAre (EJ prog w) l vs):GJ h vs (l.map .int) []:=by
 induction e with
 |nil=>exact .nil
 |cons k _ ih=>obtain⟨t,rfl⟩:=CT k;exact .cons (as:=[]) (bs:=[]) (.int _ t) ih
variable{k:KT}
theorem IT.read(e:IT prog w O h k vs):GJ h vs (k.map dS) []:=by
 induction e with
 |nil=>exact .nil
 |a _ ih=>exact .cons (as:=[]) (bs:=[]) (.int _ _) ih
 |t _ k _ ih=>obtain⟨o,aS,n,h1,h2,h3,h4⟩:=k;exact .cons (as:=[]) (bs:=[]) (.tuple h1 h2 h3 (zd4 h4)) ih
variable{a:Addr}
def IK.read(e:IK prog w O h k a):Reads h (.ref a) (.tuple (k.map dS)) []:=by
 obtain⟨_,o,aS,n,h1,h2,h3,h4⟩:=e;exact .tuple h1 h2 h3 h4.read
theorem VP:∀{a b:List Int},UG (a.map .int) (b.map .int)=decide (a=b)
 |[],[]=>rfl
 |[],_::_=>rfl
 |_::_,[]=>rfl
 |a::as,b::bs=>by
  show(a==b&&UG (as.map .int) (bs.map .int))=_
  rw[VP];by_cases e:a=b<;>simp[e]
theorem C5{a b:KI}:UA (dS a) (dS b)=decide (a=b):=by
 cases a with
 |inl a=>cases b with
  |inl b=>show(a==b)=_;by_cases e:a=b<;>simp[e]
  |inr b=>rfl
 |inr a=>cases b with
  |inl b=>rfl
  |inr b=>show UG (a.map .int) (b.map .int)=_;rw[VP];simp
theorem YG:∀{a b:KT},UG (a.map dS) (b.map dS)=decide (a=b)
 |[],[]=>rfl
 |[],_::_=>rfl
 |_::_,[]=>rfl
 |a::as,b::bs=>by
  show(UA (dS a) (dS b)&&UG (as.map dS) (bs.map dS))=_
  rw[C5,YG];by_cases e:a=b<;>simp[e]
theorem te:∀l:List Int,uH (l.map .int)=true/\ud (l.map .int)=0
 |[]=>⟨rfl,rfl⟩
 |k::l=>by
  obtain⟨h1,h2⟩:=te l
  constructor
  ·simpa[uH,uu] using h1
  ·simpa[ud,QJ] using h2
theorem qo:∀l:KT,uH (l.map dS)=true/\ud (l.map dS)<=1
 |[]=>⟨rfl,by simp[ud]⟩
 |k::l=>by
  obtain⟨h1,h2⟩:=qo l
  cases k with
  |inl k=>exact⟨by simpa[uH,uu,dS] using h1,by simpa[ud,QJ,dS] using h2⟩
  |inr k=>
   obtain⟨h3,h4⟩:=te k;exact⟨by simpa[uH,uu,dS,h3] using h1,by simp[ud,QJ,dS,h4];lia⟩
def IK.inj{l:KT}(x:IK prog w O h k a)(y:IK prog w O h l a):k=l:=by
 have e:=SeqAt.Reads.unique _ _ _ _ _ (show uu (.tuple (k.map dS))=true from(qo k).1) x.read y.read
 injection e with e
 have:=YG (a:=k) (b:=l);rw[e,YG] at this;exact ξ (this.symm.trans (by simp))
theorem zci{Q:Int->kW->Prop}(hu:A.units+8<ν)(hk:IK prog w O s.heap k a)(h:Q (reduceHash (AM (k.map (iH w prog)))) {s with toks:=s.toks+((k.map iN).sum+1)}):δ (ε prog w) A (pyHash (.ref a)) Q E s:=by
 obtain⟨_,o,items,n,ho,hc,hd,hi⟩:=hk;refine PySem.W.pyHash_slot ⟨o,ho,hc⟩ PySem.F.slot_tuple_hash PySem.F.entry_tuple_hash (PySem.F.args_tuple_hash_1 _) (beq_builtin_none _) (.inr (by lia)) ?_
 show δ _ _ (Builtin.Tuple.tupleItemsOf (.ref a)>>=_) _ _ s
 refine kB (wpAny_tupleItemsOf ho hd (kB ?_));rw[<-Ea];refine Cr _ (λbz(b:Array Int) s'=>∃done left,k=done++left/\IT prog w O s.heap left bz/\b.toList=done.map (iH w prog)/\s'={s with toks:=s.toks+(done.map iN).sum}) _ ?_ ?_ _ _ ⟨[],k,rfl,hi,rfl,rfl⟩
 ·rintro x bz b s' ⟨done,left,rfl,hl,hb,rfl⟩
  cases hl with
  |@a k t ks _ Mo=>exact kB (FL (kR ⟨done++[.inl k],ks,by simp,Mo,by simp[hb,iH],by simp[ER,iN]⟩))
  |@t l b' ks _ _ h1 Mo=>exact kB ((Gm (EJ prog w)).pyHash (k:=l) (tupleKind_room_in1 (by lia)) h1 (kR ⟨done++[.inr l],ks,by simp,Mo,by simp[hb,iH,Gm],by simp[ER,iN,Gm]⟩))
 ·rintro b s' ⟨done,left,rfl,hl,hb,rfl⟩
  cases hl;rw[Ab] at h;show δ _ _ (retInt (AM b.toList)) _ _ _;rw[hb];exact kB (wpAny_mkInt (kR ⟨_,_,rfl,by simpa[ER] using h⟩))
theorem zbq{Q:Bool->kW->Prop}(hk:IK prog w O s.heap k a)(h:Q true s):δ (ε prog w) A (EK 8 (.ref a)) Q E s:=by
 obtain⟨_,o,items,n,ho,hc,hd,hi⟩:=hk;have go:∀(m:Nat){aS:Array kL}{n:Nat}{o:Obj}{a:Addr}{Q:Bool->kW->Prop},s.heap.get? a=some o->o.cls=.type "tuple"->o.data=.seq aS n->(∀v∈aS.toList,∀Q:Bool->kW->Prop,Q true s->δ (ε prog w) A (EK m v) Q E s)->Q true s->δ (ε prog w) A (EK (m+1) (.ref a)) Q E s:=λm{aS n o a Q} ho hc hd hv h=>by
  have hT:s.TypeIs (.ref a) "tuple":=⟨o,ho,hc⟩;unfold EK;refine kB (Db hT PySem.F.slot_tuple_eq.lookup ?_);show δ _ _ (isInstance (.ref a) (.type "tuple")>>=_) _ _ s;refine kB (Un hT isSubtype_tuple_tuple ?_);simp only[Gb,ul,if_false];refine kB (uv ho hd (kB ?_));show δ _ _ (forIn aS _ _) _ _ s;rw[<-Ea];refine Cr _ (λbz r s'=>r.1=none/\s'=s/\∀v∈bz,v∈aS.toList) _ ?_ ?_ _ _ ⟨rfl,rfl,λ_ z=>z⟩
  ·rintro v bz r s' ⟨hr,rfl,all⟩;refine kB (hv v (all v (by simp)) _ ?_)
   simp only[Gb,ul,if_false];exact kR ⟨rfl,rfl,λu Mp=>all u (uM _ Mp)⟩
  ·rintro⟨r1,r2⟩ s' ⟨hr,rfl,_⟩
   simp only at hr
   subst hr;exact kR h
 have U0:∀(m:Nat){v:kL},carriedByValue v=true->∀Q:Bool->kW->Prop,Q true s->δ (ε prog w) A (EK m v) Q E s:=λm v c Q q=>by rw[eqIsQuiet_byValue _ c];exact kR q
 refine go 7 ho hc hd (λv hv Q q=>?_) h;generalize items.toList=vs at hi hv
 induction hi with
 |nil=>cases hv
 |a _ ih=>
  rcases kT.mp hv with rfl|hv
  ·exact U0 _ rfl Q q
  ·exact ih hv
 |@t l b _ _ _ h1 _ ih=>
  rcases kT.mp hv with rfl|hv
  ·obtain⟨o,aS,n,e1,e2,e3,e4⟩:=h1;exact go 6 e1 e2 e3 (λv hv=>U0 _ (e4.byValue v hv)) q
  ·exact ih hv
def Gd(O:Addr->Prop)(h:Heap)(O':Addr->Prop)(h':Heap):Prop:=∀a o,h.get? a=some o->¬O a->h'.get? a=some o/\¬O' a
theorem IK.go{O':Addr->Prop}(g:Gd O h O' h')(x:IK prog w O h k a):IK prog w O' h' k a:=by
 obtain⟨n,o,aS,m,h1,h2,h3,h4⟩:=x;refine⟨(g a o h1 n).2,o,aS,m,(g a o h1 n).1,h2,h3,?_⟩;generalize aS.toList=vs at h4
 induction h4 with
 |nil=>exact .nil
 |a _ ih=>exact .a ih
 |t y z _ ih=>obtain⟨o,aS,n,z1,z2⟩:=z;exact .t (g _ o z1 y).2 ⟨o,aS,n,(g _ o z1 y).1,z2⟩ ih
noncomputable def xl(prog:QT)(w:World):HeapKind prog w KT where
 is:=IK prog w λ_=>False
 hash:=λk=>reduceHash (AM (k.map (iH w prog)))
 draws:=λk=>(k.map iN).sum+1
 room:=λA=>A.units+8<ν
 inj:=λhx hy=>hx.inj hy
 keeps:=λ{h h' k a d o es ep} x ho hd hs=>by
  obtain⟨_,u,aS,n,e1,e2,e3,e4⟩:=x;refine⟨id,u,aS,n,(hs.2 a λq=>by subst q;rw[ho] at e1;cases e1;rw[hd] at e3;cases e3).trans e1,e2,e3,?_⟩
  generalize aS.toList=vs at e4
  induction e4 with
  |nil=>exact .nil
  |a _ ih=>exact .a ih
  |t y z _ ih=>exact .t y (z.keeps ho hd hs) ih
 pyHash:=λhu hk h=>zci hu hk h
 eqBool:=λ{A E s x y a b Q} hu hx hy h=>by
  refine SeqAt.eqAt_reads (.tuple (x.map dS)) (.tuple (y.map dS)) A s _ _ _ _ hx.read hy.read (qo x).1 (qo y).1 ?_ _ _ _ _ ?_
  ·have:=(qo x).2;show A.units+min (ud _+1) _<_;lia
  ·show Q (UG _ _) s;rw[YG];exact h
 quiet:=λhk h=>zbq hk h
end
end L2
namespace L2
open PySem
inductive Dt where
 |none|bool (b:Bool)|int (i:Int)|str (x:Str)|list (xs:List Dt)|tuple (xs:List Dt)|dK (ks:List dh) (xs:List Dt)|dT (ks:List KT) (xs:List Dt)
inductive Sl where
 |un|fz (d:Dt)|ow (io:Bool) (n:Nat) (d:Dt)|rd (d:Dt)
abbrev En:=List Sl
inductive Ou where
 |nx (Z:En)|rt (d:Dt) (Z:En)|bk (Z:En)|ct (Z:En)
mutual
noncomputable def cB:Dt->Option EZ
 |.none=>some .none
 |.bool c=>some (.bool c)
 |.int i=>some (.int i)
 |.str x=>some (.str x)
 |.list ds=>(we ds).bind λps=>some (.list ps)
 |.tuple ds=>(we ds).bind λps=>some (.tuple ps)
 |.dK _ _=>none
 |.dT _ _=>none
noncomputable def we:List Dt->Option (List EZ)
 |[]=>some []
 |d::ds=>(cB d).bind λp=>(we ds).bind λps=>some (p::ps)
end
noncomputable def sF:Sl->Option Dt
 |.fz d=>some d
 |_=>none
noncomputable def sR:Sl->Option Dt
 |.fz d=>some d
 |.ow _ 1 d=>some d
 |.rd d=>some d
 |_=>none
noncomputable def dV(i:Nat):En->Option Dt:=λZ=>(Z[i]?).bind sF
noncomputable def aA(i:Nat):En->Option Dt:=λZ=>(Z[i]?).bind sR
noncomputable def dC(d:Dt):En->Option Dt:=λ_=>some d
noncomputable def d1(k:Dt->Option Dt)(f:En->Option Dt):En->Option Dt:=λZ=>(f Z).bind k
noncomputable def d2(k:Dt->Dt->Option Dt)(f g:En->Option Dt):En->Option Dt:=λZ=>(f Z).bind λa=>(g Z).bind (k a)
noncomputable def ae:En->Option (List Dt):=λ_=>some []
noncomputable def aa(f:En->Option Dt)(g:En->Option (List Dt)):En->Option (List Dt):=λZ=>(f Z).bind λa=>(g Z).bind λas=>some (a::as)
noncomputable def ax(g:En->Option (List Dt)):En->Option Dt:=λZ=>(g Z).bind λas=>if as.length<=ψ then some (.tuple as) else none
noncomputable def aK(g:En->Option (List Dt)):En->Option Dt:=λZ=>(g Z).bind λas=>if as.length<=ψ then some (.list as) else none
noncomputable def aj(F:List Dt->Option Dt)(g:En->Option (List Dt)):En->Option Dt:=λZ=>(g Z).bind F
noncomputable def fP:Dt->Option Bool
 |.bool b=>some b
 |_=>none
noncomputable def dB(f:En->Option Dt):En->Option Bool:=λZ=>(f Z).bind fP
noncomputable def bM(c d:En->Option Bool):En->Option Bool:=λZ=>(c Z).bind λb=>if b=true then d Z else some false
noncomputable def cb(c d:En->Option Bool):En->Option Bool:=λZ=>(c Z).bind λb=>if b=true then some true else d Z
noncomputable def aT(c:En->Option Bool):En->Option Bool:=λZ=>(c Z).bind λb=>some (!b)
noncomputable def C6(c:En->Option Bool)(f g:En->Option Dt):En->Option Dt:=λZ=>(c Z).bind λb=>if b=true then f Z else g Z
def mZ(i j:Int):Prop:=i.natAbs<2^1000000/\j.natAbs<2^1000000
def Y5(_i j:Int):Prop:=j≠0/\j.natAbs<2^8999
def C7(i j:Int):Prop:=0<=j/\j<=1000000/\i.natAbs<2^64
instance{i j:Int}:Decidable (mZ i j):=inferInstanceAs (Decidable (_/\_))
instance{i j:Int}:Decidable (Y5 i j):=inferInstanceAs (Decidable (_/\_))
instance{i j:Int}:Decidable (C7 i j):=inferInstanceAs (Decidable (_/\_))
noncomputable def kI(C:Int->Int->Prop)[∀i j,Decidable (C i j)](g:Int->Int->Int):Dt->Dt->Option Dt
 |.int i,.int j=>if C i j then some (.int (g i j)) else none
 |_,_=>none
noncomputable def mI(g:Int->Int->Int):Dt->Dt->Option Dt
 |.int i,.int j=>some (.int (g i j))
 |_,_=>none
noncomputable def kP(p:Int->Int->Bool):Dt->Dt->Option Dt
 |.int i,.int j=>some (.bool (p i j))
 |_,_=>none
noncomputable def kU(g:Int->Int):Dt->Option Dt
 |.int i=>some (.int (g i))
 |_=>none
noncomputable def zN:=mI (·+·)
noncomputable def zo:=mI (·-·)
noncomputable def zf:=kI mZ (·*·)
noncomputable def zE:=kI Y5 Int.fdiv
noncomputable def zG:=kI (λ_ j=>j≠0) Int.fmod
noncomputable def qU:=kI C7 λi j=>i^j.toNat
noncomputable def w6:=mI Dq
noncomputable def m9:=mI ES
noncomputable def qF:=mI Ao
noncomputable def yC:=kU λi=> -i
noncomputable def cz:=kP λi j=>decide (i<j)
noncomputable def mJ:=kP λi j=>decide (i<=j)
noncomputable def lC:=kP λi j=>decide (j<i)
noncomputable def Lr:=kP λi j=>decide (j<=i)
noncomputable def zB:Dt->Dt->Option Dt:=kP λi j=>decide (i=j)
noncomputable def yb:Dt->Dt->Option Dt:=kP λi j=> !decide (i=j)
noncomputable def cI(a b:Dt):Option Dt:=(cB a).bind λx=>(cB b).bind λy=>if uq x=true/\uq y=true then some (.bool (UA x y)) else none
noncomputable def bZ(a b:Dt):Option Dt:=(cB a).bind λx=>(cB b).bind λy=>if uq x=true/\uq y=true then some (.bool (!PyData.eqv x y)) else none
noncomputable def jD:Dt->Dt->Option Dt
 |.none,.none=>some (.bool true)
 |_,.none=>some (.bool false)
 |_,_=>none
noncomputable def ixN(n:Nat)(i:Int):Option Nat:=if 0<=i then(if i<n then some i.toNat else none) else if-(n:Int)<=i then some (i+n).toNat else none
noncomputable def C8{α:Type}(xs:List α)(i:Int):Option α:=(ixN xs.length i).bind λj=>xs[j]?
noncomputable def af:Dt->Dt->Option Dt
 |.list ds,.int i=>C8 ds i
 |.tuple ds,.int i=>C8 ds i
 |_,_=>none
noncomputable def fi(f g:En->Option Dt):En->Option Dt:=λZ=>(dB f Z).bind λb=>if b=true then g Z else some (.bool false)
noncomputable def Ls(f g:En->Option Dt):En->Option Dt:=λZ=>(dB f Z).bind λb=>if b=true then some (.bool true) else g Z
noncomputable def C9:Dt->Option Dt
 |.bool b=>some (.bool (!b))
 |_=>none
noncomputable def dq:Sl->Sl
 |.ow _ _ d=>.fz d
 |s=>s
noncomputable def ak(i:Nat)(f:En->Option Dt):En->Option Ou:=λZ=>(f Z).bind λd=>some (.nx (Z.set i (.fz d)))
noncomputable def aU(i:Nat)(f:En->Option Dt):En->Option Ou:=λZ=>(f Z).bind λd=>some (.nx (Z.set i (.ow false 1 d)))
noncomputable def cC(g:En->Option Ou):Ou->Option Ou
 |.nx Z=>g Z
 |o=>some o
noncomputable def ag(f g:En->Option Ou):En->Option Ou:=λZ=>(f Z).bind (cC g)
noncomputable def aO:En->Option Ou:=λZ=>some (.nx Z)
noncomputable def aC(f:En->Option Dt):En->Option Ou:=λZ=>(f Z).bind λd=>some (.rt d Z)
noncomputable def au(c:En->Option Bool)(f g:En->Option Ou):En->Option Ou:=λZ=>(c Z).bind λb=>if b=true then f Z else g Z
noncomputable def cm(i:Nat)(f:En->Option Ou):En->Option Ou:=λZ=>f (Z.modify i dq)
noncomputable def qi:En->Option Ou:=λ_=>none
noncomputable def fJ:Dt->Option (List Dt)
 |.list ds=>some ds
 |_=>none
noncomputable def iq:Sl->Option (Bool×List Dt)
 |.ow io 1 (.list ds)=>some (io,ds)
 |_=>none
noncomputable def iw(i:Nat)(f:En->Option Dt):En->Option Ou:=λZ=>(f Z).bind λd=>((Z[i]?).bind iq).bind λx=>if x.2.length<ψ then some (.nx (Z.set i (.ow x.1 1 (.list (x.2++[d]))))) else none
noncomputable def Lu:Dt->Option (List Dt)
 |.tuple ds=>some ds
 |_=>none
noncomputable def iL(f:En->Option Dt):En->Option (List Dt):=λZ=>(f Z).bind fJ
noncomputable def iT(f:En->Option Dt):En->Option (List Dt):=λZ=>(f Z).bind Lu
noncomputable def bI:List Dt->Option (List Dt)
 |[.int j]=>if-(2^62)<=j/\j<2^62/\j.toNat<=ψ then some ((kN j.toNat).map λk:Nat=>.int k) else none
 |_=>none
noncomputable def dU:List Dt->Option (List Dt)
 |[.int i,.int j]=>if(-(2^62)<=i/\i<2^62/\ -(2^62)<=j/\j<2^62)/\(j-i).toNat<=ψ then some ((kN (j-i).toNat).map λk:Nat=>.int (i+k)) else none
 |_=>none
noncomputable def lE:List Dt->Option (List Dt)
 |[.list xs,.list ys]=>some (AK (λa b=>.tuple [a,b]) xs ys)
 |_=>none
noncomputable def fj:List Dt->Option (List Dt)
 |[.tuple xs,.tuple ys]=>if xs.length=ys.length then some (AK (λa b=>.tuple [a,b]) xs ys) else none
 |_=>none
noncomputable def iG:List Dt->Option (List Dt)
 |[.list xs]=>some ((kN xs.length).zipWith (λ(k:Nat) x=>.tuple [.int k,x]) xs)
 |_=>none
noncomputable def lG:List Dt->Option (List Dt)
 |[.list xs]=>some xs.reverse
 |_=>none
noncomputable def iC(k:List Dt->Option (List Dt))(g:En->Option (List Dt)):En->Option (List Dt):=λZ=>(g Z).bind k
noncomputable def gN(i:Nat):Dt->En->Option En:=λd Z=>some (Z.set i (.fz d))
noncomputable def bJ:List Dt->En->Option En
 |[],Z=>some Z
 |_,_=>none
noncomputable def aG(h:Dt->En->Option En)(hs:List Dt->En->Option En):List Dt->En->Option En
 |d::ds,Z=>(h d Z).bind (hs ds)
 |[],_=>none
noncomputable def gT(n:Nat)(hs:List Dt->En->Option En):Dt->En->Option En:=λd Z=>(Lu d).bind λds=>if ds.length=n then hs ds Z else none
noncomputable def fgt(fg:List Nat)(Z:En):En:=fg.foldl (λZ i=>Z.set i .un) Z
noncomputable def zw(h:Dt->En->Option En)(b:En->Option Ou)(fg:List Nat):List Dt->En->Option Ou
 |[],Z=>some (.nx Z)
 |d::ds,Z=>(h d Z).bind λbA=>(b bA).bind λo=>match o with
  |.nx b9=>zw h b fg ds (fgt fg b9)
  |.ct b9=>zw h b fg ds (fgt fg b9)
  |.bk b9=>some (.nx b9)
  |.rt d ρ'=>some (.rt d ρ')
noncomputable def aB(fg:List Nat)(it:En->Option (List Dt))(h:Dt->En->Option En)(b:En->Option Ou):En->Option Ou:=λZ=>(it Z).bind λds=>zw h b fg ds Z
noncomputable def fQ:Sl->Sl
 |.ow _ n d=>if n=1 then .rd d else .un
 |s=>s
noncomputable def ti(k:Nat)(ix:List Nat)(Z:En):En:=Aq k .un++ix.map λi=>((Z[i]?).map fQ).getD .un
noncomputable def xG(f:Dt->Option (Option Dt)):List Dt->Option (List Dt)
 |[]=>some []
 |d::ds=>(f d).bind λo=>(xG f ds).bind λr=>some (o.toList++r)
noncomputable def ao(k:Nat)(ix:List Nat)(it:En->Option (List Dt))(h:Dt->En->Option En)(c:En->Option Bool)(e:En->Option Dt):En->Option Dt:=λZ=>(it Z).bind λds=>
 (xG (λd=>(h d (ti k ix Z)).bind λbA=>(c bA).bind λb=>if b=true then(e bA).bind λy=>some (some y) else some none) ds).bind λr=>some (.list r)
noncomputable def aD:En->Option Bool:=λ_=>some true
noncomputable def cD:Ou->Option Dt
 |.rt d _=>some d
 |.nx _=>some .none
 |_=>none
noncomputable def bg(n k:Nat)(f:En->Option Ou):List Dt->Option Dt:=λds=>if ds.length=k then(f (ds.map Sl.fz++Aq (n-k) .un)).bind cD else none
noncomputable def zu:List Dt->Option Dt
 |[.list ds]=>some (.int ds.length)
 |[.tuple ds]=>some (.int ds.length)
 |_=>none
noncomputable def vA:List Dt->Option Dt
 |[.int i]=>some (.int (if i<0 then-i else i))
 |_=>none
noncomputable def wJ(g:Int->Int->Int):List Dt->Option Dt
 |[.int i,.int j]=>some (.int (g i j))
 |_=>none
noncomputable def yv:List Dt->Option Dt
 |[.list ds]=>some (.list ds)
 |[.tuple ds]=>some (.list ds)
 |_=>none
noncomputable def zR:Dt->Dt->Option Dt
 |.list xs,.list ys=>if xs.length+ys.length<=ψ then some (.list (xs++ys)) else none
 |_,_=>none
noncomputable def yV:Dt->Dt->Option Dt
 |.tuple (x::xs),.tuple ys=>if(x::xs).length+ys.length<=ψ then some (.tuple (x::xs++ys)) else none
 |_,_=>none
noncomputable def fR(n d:Nat):Option Int->Nat
 |none=>d
 |some v=>if v<0 then(v+(n:Int)).toNat else min v.toNat n
noncomputable def y0{α:Type}(xs:List α)(lo hi:Option Int):List α:=(xs.drop (fR xs.length 0 lo)).take (fR xs.length xs.length hi-fR xs.length 0 lo)
noncomputable def oN:En->Option (Option Int):=λ_=>some none
noncomputable def Pl:Dt->Option (Option Int)
 |.int i=>some (some i)
 |_=>none
noncomputable def oS(f:En->Option Dt):En->Option (Option Int):=λZ=>(f Z).bind Pl
noncomputable def fS(f:En->Option Dt)(lo hi:En->Option (Option Int)):En->Option Dt:=λZ=>(f Z).bind λd=>(lo Z).bind λl=>(hi Z).bind λu=>(fJ d).bind λds=>some (.list (y0 ds l u))
noncomputable def cJ(fg:List Nat)(c:En->Option Bool)(b:En->Option Ou):Nat->En->Option Ou
 |0,_=>none
 |n+1,Z=>(c Z).bind λt=>if t=true then(b Z).bind λo=>match o with
   |.nx b9=>cJ fg c b n (fgt fg b9)
   |.ct b9=>cJ fg c b n (fgt fg b9)
   |.bk b9=>some (.nx b9)
   |.rt d ρ'=>some (.rt d ρ')
  else some (.nx Z)
noncomputable def wm(n:Nat)(fg:List Nat)(c:En->Option Bool)(b:En->Option Ou):En->Option Ou:=cJ fg c b n
noncomputable def yM(f:En->Option Dt)(h:Dt->En->Option En):En->Option Ou:=λZ=>(f Z).bind λd=>(h d Z).bind λρ'=>some (.nx ρ')
noncomputable def fT(i:Nat)(k:Dt->Dt->Option Dt)(f:En->Option Dt):En->Option Ou:=ak i (d2 k (dV i) f)
noncomputable def iX(i:Nat)(g:En->Option (List Dt)):En->Option Ou:=λZ=>(g Z).bind λzs=>((Z[i]?).bind iq).bind λx=>if x.2.length+zs.length<=ψ then some (.nx (Z.set i (.ow x.1 1 (.list (x.2++zs))))) else none
noncomputable def Rl(i:Nat)(f:En->Option Dt):En->Option Ou:=λZ=>(f Z).bind λd=>((Z[i]?).bind iq).bind λx=>if x.2.length<ψ then some (.nx (Z.set i (.ow x.1 1 (.list (d::x.2))))) else none
noncomputable def zn{α β:Type}(f:α->Option β):List α->Option (List β)
 |[]=>some []
 |a::as=>(f a).bind λb=>(zn f as).bind λbs=>some (b::bs)
noncomputable def yN:Dt->Option Int
 |.int i=>some i
 |_=>none
noncomputable def j6(i:Nat)(fk fv:En->Option Dt):En->Option Ou:=λZ=>(fv Z).bind λv=>(fk Z).bind λk=>(yN k).bind λn=>((Z[i]?).bind iq).bind λx=>(ixN x.2.length n).bind λj=>some (.nx (Z.set i (.ow x.1 1 (.list (x.2.set j v)))))
noncomputable def wu:Dt->Option dh
 |.int i=>some (.inl i)
 |.str x=>some (.inr x)
 |_=>none
noncomputable def Mq:Dt->Option KI
 |.int i=>some (.inl i)
 |.tuple ds=>(zn yN ds).bind λl=>some (.inr l)
 |_=>none
noncomputable def xQ:Dt->Option KT
 |.tuple ds=>zn Mq ds
 |_=>none
noncomputable def kD:dh->Dt
 |.inl i=>.int i
 |.inr x=>.str x
noncomputable def U1:KI->Dt
 |.inl i=>.int i
 |.inr l=>.tuple (l.map .int)
noncomputable def Pm(k:KT):Dt:=.tuple (k.map U1)
section
variable{κ α:Type}[DecidableEq κ]
noncomputable def cq:List κ->List α->κ->Option α
 |k'::ks,a::as,k=>if k'=k then some a else cq ks as k
 |_,_,_=>none
noncomputable def yR(ks:List κ)(k:κ):Bool:=decide (k∈ks)
noncomputable def pK(ks:List κ)(k:κ):List κ:=if k∈ks then ks else ks++[k]
noncomputable def pV(ks:List κ)(as:List α)(k:κ)(a:α):List α:=if k∈ks then AK (λk' b=>if k'=k then a else b) ks as else as++[a]
noncomputable def zV:List κ->κ->Option Nat
 |[],_=>none
 |k'::ks,k=>if k'=k then some 0 else(zV ks k).bind λn=>some (n+1)
end
noncomputable def yy:Dt->Dt->Option Dt
 |.dK ks ds,k=>(wu k).bind (cq ks ds)
 |.dT ks ds,k=>(xQ k).bind (cq ks ds)
 |_,_=>none
noncomputable def yf:Dt->Dt->Option Bool
 |.dK ks _,k=>(wu k).bind λk=>some (yR ks k)
 |.dT ks _,k=>(xQ k).bind λk=>some (yR ks k)
 |_,_=>none
noncomputable def iI(di:Bool)(f g:En->Option Dt):En->Option Dt:=λZ=>(f Z).bind λk=>(g Z).bind λd=>(yf d k).bind λc=>some (.bool (if di=true then !c else c))
noncomputable def bN(f g:En->Option Dt):En->Option Dt:=λZ=>(f Z).bind λd=>(g Z).bind (yy d)
noncomputable def fm(f g z:En->Option Dt):En->Option Dt:=λZ=>(f Z).bind λd=>(g Z).bind λk=>(z Z).bind λz=>(yf d k).bind λc=>if c=true then yy d k else some z
noncomputable def xi:Dt->Dt->Dt->Option Dt
 |.dK ks ds,k,v=>(wu k).bind λk=>if ks.length<ψ then some (.dK (pK ks k) (pV ks ds k v)) else none
 |.dT ks ds,k,v=>(xQ k).bind λk=>if ks.length<ψ then some (.dT (pK ks k) (pV ks ds k v)) else none
 |_,_,_=>none
noncomputable def Mr:Sl->Option (Bool×Dt)
 |.ow io n d=>if n=1 then some (io,d) else none
 |_=>none
noncomputable def fU(i:Nat)(fk fv:En->Option Dt):En->Option Ou:=λZ=>(fv Z).bind λv=>(fk Z).bind λk=>((Z[i]?).bind Mr).bind λx=>(xi x.2 k v).bind λd=>some (.nx (Z.set i (.ow x.1 1 d)))
noncomputable def yD:List Dt->Option Dt
 |[.dT ks _]=>if(ks.all λk=>decide (k.length<=ψ)&&k.all λi=>match i with|.inl _=>true|.inr l=>decide (l.length<=ψ))=true then some (.list (ks.map Pm)) else none
 |[.dK ks _]=>some (.list (ks.map kD))
 |_=>none
noncomputable def iD(f:En->Option Dt):En->Option (List Dt):=λZ=>(f Z).bind λd=>(yD [d]).bind fJ
noncomputable def iJ:List Int->Int->Int
 |[],d=>d
 |n::ns,_=>ns.foldl max n
noncomputable def nh(f g:En->Option Dt):En->Option Dt:=λZ=>(f Z).bind λd=>(fJ d).bind λds=>(zn yN ds).bind λns=>(g Z).bind λz=>(yN z).bind λz=>some (.int (iJ ns z))
noncomputable def setCh:Dt->Nat->Dt->Dt
 |.list ds,j,c=>.list (ds.set j c)
 |.dK ks ds,j,c=>.dK ks (ds.set j c)
 |.dT ks ds,j,c=>.dT ks (ds.set j c)
 |d,_,_=>d
noncomputable def yx:Dt->List Dt
 |.list ds=>ds
 |.dK _ ds=>ds
 |.dT _ ds=>ds
 |_=>[]
noncomputable def as2:Sl->Option (Bool×Dt)
 |.ow io 2 d=>some (io,d)
 |.ow io 1 (.dT [] [])=>some (io,.dT [] [])
 |.ow io 1 (.dK [] [])=>some (io,.dK [] [])
 |_=>none
noncomputable def yU:Dt->Dt->Option Nat
 |.dK ks _,k=>(wu k).bind (zV ks)
 |.dT ks _,k=>(xQ k).bind (zV ks)
 |.list ds,.int i=>ixN ds.length i
 |_,_=>none
noncomputable def Pn:Dt->Dt->Option Dt
 |.list cs,v=>if cs.length<ψ then some (.list (cs++[v])) else none
 |_,_=>none
noncomputable def qt(i:Nat)(fk fl fv:En->Option Dt):En->Option Ou:=λZ=>(fv Z).bind λv=>(fk Z).bind λk=>(fl Z).bind λl=>((Z[i]?).bind as2).bind λx=>(yU x.2 k).bind λj=>((yx x.2)[j]?).bind λc0=>(xi c0 l v).bind λc=>some (.nx (Z.set i (.ow x.1 2 (setCh x.2 j c))))
noncomputable def jv(i:Nat)(fk fv:En->Option Dt):En->Option Ou:=λZ=>(fk Z).bind λk=>(fv Z).bind λv=>((Z[i]?).bind as2).bind λx=>(yU x.2 k).bind λj=>((yx x.2)[j]?).bind λc0=>(Pn c0 v).bind λc=>some (.nx (Z.set i (.ow x.1 2 (setCh x.2 j c))))
noncomputable def Yu:Dt->Dt->Dt->Option Dt
 |.dT ks ds,k,c=>(xQ k).bind λk=>if ks.length<ψ/\yR ks k=false then some (.dT (ks++[k]) (ds++[c])) else none
 |_,_,_=>none
noncomputable def YX(i:Nat)(fk fc:En->Option Dt):En->Option Ou:=λZ=>(fc Z).bind λc=>(fk Z).bind λk=>((Z[i]?).bind as2).bind λx=>(Yu x.2 k c).bind λd=>some (.nx (Z.set i (.ow x.1 2 d)))
noncomputable def ni(d k v:Dt):Option Dt:=match d with
 |.dT ks ds=>(xQ k).bind λkk=>if ks.length<ψ then match zV ks kk with
  |some j=>(ds[j]?).bind λc=>(Pn c v).bind λc=>some (.dT ks (ds.set j c))
  |none=>some (.dT (ks++[kk]) (ds++[.list [v]])) else none
 |_=>none
noncomputable def YM(i:Nat)(fk:En->Option Dt)(j:Nat):En->Option Ou:=λZ=>(fk Z).bind λk=>(dV j Z).bind λv=>((Z[i]?).bind as2).bind λx=>(ni x.2 k v).bind λd=>some (.nx (Z.set i (.ow x.1 2 d)))
noncomputable def w2:Sl->Option Dt
 |.ow true 2 d=>some d
 |_=>none
noncomputable def nu:Ou->Option Dt
 |.nx Z=>(Z[0]?).bind w2
 |.rt .none Z=>(Z[0]?).bind w2
 |_=>none
noncomputable def vU(n k:Nat)(f:En->Option Ou):Dt->List Dt->Option Dt:=λd0 ds=>if ds.length+1=k then(f (.ow true 2 d0::(ds.map Sl.fz++Aq (n-(ds.length+1)) .un))).bind nu else none
noncomputable def D0(i:Nat)(F:Dt->List Dt->Option Dt)(ga:En->Option (List Dt)):En->Option Ou:=λZ=>(ga Z).bind λds=>((Z[i]?).bind as2).bind λx=>(F x.2 ds).bind λd=>some (.nx (Z.set i (.ow x.1 2 d)))
noncomputable def jW(di:Bool)(f:En->Option Dt)(i:Nat):En->Option Dt:=λZ=>(f Z).bind λk=>((Z[i]?).bind as2).bind λx=>(yf x.2 k).bind λc=>some (.bool (if di=true then !c else c))
noncomputable def iy:Dt->Option (Int×Int)
 |.tuple [.int i,.int j]=>some (i,j)
 |_=>none
noncomputable def Ms:Dt->Option (List (Int×Int))
 |.list ds=>zn iy ds
 |_=>none
noncomputable def jx(lt:Nat->Nat->Bool)(i:Nat):List Nat->List Nat
 |[]=>[i]
 |j::r=>if lt j i=true then j::jx lt i r else i::j::r
noncomputable def xq(lt:Nat->Nat->Bool):List Nat->List Nat
 |[]=>[]
 |i::r=>jx lt i (xq lt r)
noncomputable def vO(lt:Nat->Nat->Bool):List Nat->Bool
 |[]=>true
 |i::r=>r.all (λj=>lt i j&& !lt j i)&&vO lt r
noncomputable def nA(n:Nat)(ds:List Dt)(lt:Nat->Nat->Bool):Option (List Dt):=if vO lt (xq lt (kN n))=true then some ((xq lt (kN n)).map λi=>ds.getD i .none) else none
noncomputable def xX(js:List Nat)(Z:En):Option (List Sl):=zn (λj=>(Z[j]?).bind λs=>(sR s).bind λ_=>some (fQ s)) js
noncomputable def wz:Nat:=64
noncomputable def jC{κ:Type}(of:Dt->Option κ)(lt:κ->κ->Bool)(df:κ)(i0:Nat)(f g:En->Option Dt):En->Option Dt:=λZ=>(g Z).bind λd=>(fJ d).bind λds=>if ds.length<wz then(Z[i0]?).bind λs=>(sR s).bind λ_=>(zn (λd=>f [.fz d,fQ s]) ds).bind λdr=>(zn of dr).bind λks=>(nA ds.length ds λi j=>lt (ks.getD i df) (ks.getD j df)).bind λr=>some (.list r) else none
noncomputable def nG(p:Int->Option Bool):Nat->Int->Int->Option Int
 |0,_,_=>none
 |n+1,lo,hi=>if lo<hi then(p ((lo+hi)/2)).bind λb=>if b=true then nG p n lo ((lo+hi)/2) else nG p n ((lo+hi)/2+1) hi else some lo
noncomputable def wK(js:List Nat)(f g:En->Option Dt):En->Option Dt:=λZ=>(g Z).bind λd=>(yN d).bind λn=>(xX js Z).bind λss=>(nG (λk=>(f (.fz (.int k)::ss)).bind fP) (n.toNat+1) 0 n).bind λr=>some (.int r)
noncomputable def D1(tp di:Bool)(k d:Dt):Option Dt:=(cB k).bind λx=>(if tp=true then Lu d else fJ d).bind λds=>(we ds).bind λes=>if x.canLay0=true/\uH es=true/\x.depth<=60 then some (.bool (if di=true then !(es.any λe=>UA e x) else es.any λe=>UA e x)) else none
noncomputable def vR(i:Int):List Int->List Int
 |[]=>[i]
 |j::r=>if i<=j then i::j::r else j::vR i r
noncomputable def jJ:List Int->List Int
 |[]=>[]
 |i::r=>vR i (jJ r)
noncomputable def wC:List Dt->Option Dt
 |[d]=>(fJ d).bind λds=>(zn yN ds).bind λns=>if ns.length<64 then some (.list ((jJ ns).map .int)) else none
 |_=>none
noncomputable def Rm:Dt->Option Dt
 |.list xs=>some (.list xs.reverse)
 |_=>none
noncomputable def xH(Tx T:String):Bool:=(Tx==T)||(Tx=="bool"&&T=="int")
noncomputable def U2:Dt->Option String
 |.none=>some "NoneType"
 |.bool _=>some "bool"
 |.int _=>some "int"
 |.str _=>some "str"
 |.list _=>some "list"
 |.tuple _=>some "tuple"
 |_=>none
noncomputable def yg(T:String)(d:Dt):Option Dt:=(U2 d).bind λt=>some (.bool (xH t T))
end L2
namespace L2
open PySem PySem.Spec PyProof.Rows
open PySem.W (tabObj)
structure Gx where
 P:QT
 w:World
 K:QM
 mg:Str->Option kL
 base:Heap
 tb:List (Addr×Pos×Str)
def Gx.T(G:Gx)(a:Addr):Prop:=∃t∈G.tb,t.1=a
abbrev AP:=Addr->Prop
abbrev bG:AP:=λ_=>False
abbrev lo(vs:List kL)(n:Nat):Obj:={cls:=.type "list",data:=.seq vs.toArray n}
def DK(G:Gx)(h:Heap)(p:Addr)(ks:List dh)(vs:List kL):Prop:=ks.length=vs.length/\vs.length<=ψ/\(p==UN)=false/\h.DictOf (w9 G.P G.w) p (ks.zip vs)
def DT(G:Gx)(O:AP)(h:Heap)(p:Addr)(ks:List KT)(vs:List kL):Prop:=∃bs:List Addr,ks.length=bs.length/\bs.length=vs.length/\vs.length<=ψ/\(p==UN)=false/\ks.Nodup/\Uo (IK G.P G.w O h) ks bs/\
 ∃o es ep,h.get? p=some o/\o.ExactDict/\o.data=.dict es ep/\es.toList=(ks.zip (bs.zip vs)).map (GK (xl G.P G.w))
def Top(G:Gx)(O:AP)(h:Heap)(R:List Dt->List kL->Prop):Dt->Addr->Prop
 |.list ds,p=>∃vs n,h.get? p=some (lo vs n)/\vs.length<=ψ/\R ds vs
 |.dK ks ds,p=>∃vs,DK G h p ks vs/\R ds vs
 |.dT ks ds,p=>∃vs,DT G O h p ks vs/\R ds vs
 |_,_=>False
mutual
def R(G:Gx)(O:AP)(h:Heap):Dt->kL->Prop
 |.none,v=>v=.none
 |.bool b,v=>v=.bool b
 |.int i,v=>∃t,v=.int i t
 |.str x,v=>∃t,v=.str x t
 |.tuple ds,v=>∃p vs,v=.ref p/\¬O p/\IsTup h p (gC vs)/\vs.length<=ψ/\Rs G O h ds vs
 |.list ds,v=>∃p vs n,v=.ref p/\¬O p/\h.get? p=some (lo vs n)/\vs.length<=ψ/\Rs G O h ds vs
 |.dK ks ds,v=>∃p vs,v=.ref p/\¬O p/\DK G h p ks vs/\Rs G O h ds vs
 |.dT ks ds,v=>∃p vs,v=.ref p/\¬O p/\DT G O h p ks vs/\Rs G O h ds vs
def Rs(G:Gx)(O:AP)(h:Heap):List Dt->List kL->Prop
 |[],vs=>vs=[]
 |d::ds,vs=>∃v r,vs=v::r/\R G O h d v/\Rs G O h ds r
end
section
variable{G:Gx}{O O' O2:AP}{h h' h2:Heap}{p a:Addr}{d:Dt}{ds es:List Dt}{v u:kL}{vs us:List kL}{ks:List dh}{kt:List KT}
def Gd.trans(g:Gd O h O' h')(k:Gd O' h' O2 h2):Gd O h O2 h2:=λa o e n=>k a o (g a o e n).1 (g a o e n).2
def Gd.less(i:∀a,O' a->O a):Gd O h O' h:=λ_ _ e n=>⟨e,λz=>n (i _ z)⟩
def DK.at(x:DK G h p ks vs)(k:∀o,h.get? p=some o->h'.get? p=some o):DK G h' p ks vs:=by
 obtain⟨a,b,c,o,es,ep,e,r⟩:=x;exact⟨a,b,c,o,es,ep,k _ e,r⟩
theorem DT.at(g:Gd O h O' h')(x:DT G O h p kt vs)(k:∀o,h.get? p=some o->h'.get? p=some o):DT G O' h' p kt vs:=by
 obtain⟨bs,a,b,c,d,n,q,o,es,ep,e,r⟩:=x;refine⟨bs,a,b,c,d,n,?_,o,es,ep,k _ e,r⟩;clear a b n r
 induction q with
 |nil=>exact .nil
 |cons x _ ih=>exact .cons (x.go g) ih
def DK.get(x:DK G h p ks vs):∃o es ep,h.get? p=some o/\o.data=.dict es ep:=by obtain⟨_,_,_,o,es,ep,e,_,d,_⟩:=x;exact⟨o,es,ep,e,d⟩
def DT.get(x:DT G O h p kt vs):∃o es ep,h.get? p=some o/\o.data=.dict es ep:=by obtain⟨_,_,_,_,_,_,_,o,es,ep,e,_,d,_⟩:=x;exact⟨o,es,ep,e,d⟩
theorem Top.get{R:List Dt->List kL->Prop}(x:Top G O h R d p):∃o,h.get? p=some o/\∀z,o.data≠.fields z:=by
 cases d with
 |list ds=>obtain⟨_,_,e,_⟩:=x;exact⟨_,e,λz q=>nomatch q⟩
 |dK ks ds=>obtain⟨_,x,_⟩:=x;obtain⟨o,_,_,e,q⟩:=x.get;exact⟨o,e,λz y=>by rw[q] at y;cases y⟩
 |dT ks ds=>obtain⟨_,x,_⟩:=x;obtain⟨o,_,_,e,q⟩:=x.get;exact⟨o,e,λz y=>by rw[q] at y;cases y⟩
 |_=>exact x.elim
theorem Top.imp{R R':List Dt->List kL->Prop}(g:Gd O h O' h')(k:∀o,h.get? p=some o->h'.get? p=some o)(r:∀ds vs,R ds vs->R' ds vs):∀{d},Top G O h R d p->Top G O' h' R' d p
 |.list _,⟨vs,n,e,l,q⟩=>⟨vs,n,k _ e,l,r _ _ q⟩
 |.dK _ _,⟨vs,x,q⟩=>⟨vs,x.at k,r _ _ q⟩
 |.dT _ _,⟨vs,x,q⟩=>⟨vs,x.at g k,r _ _ q⟩
theorem R.top(x:Top G O h (Rs G O h) d p)(n:¬O p):R G O h d (.ref p):=by
 cases d with
 |list ds=>obtain⟨vs,m,x⟩:=x;rw[R];exact⟨p,vs,m,rfl,n,x⟩
 |dK ks ds=>obtain⟨vs,x⟩:=x;rw[R];exact⟨p,vs,rfl,n,x⟩
 |dT ks ds=>obtain⟨vs,x⟩:=x;rw[R];exact⟨p,vs,rfl,n,x⟩
 |_=>exact x.elim
mutual
theorem R.go(g:Gd O h O' h'):∀(d:Dt)(v:kL),R G O h d v->R G O' h' d v
 |.none,v,x=>by rw[R] at x⊢;exact x
 |.bool _,v,x=>by rw[R] at x⊢;exact x
 |.int _,v,x=>by rw[R] at x⊢;exact x
 |.str _,v,x=>by rw[R] at x⊢;exact x
 |.tuple ds,v,x=>by rw[R] at x⊢;obtain⟨p,vs,e,n,⟨o,q,t⟩,l,r⟩:=x;exact⟨p,vs,e,(g p o q n).2,⟨o,(g p o q n).1,t⟩,l,Rs.go g ds vs r⟩
 |.list ds,v,x=>by rw[R] at x⊢;obtain⟨p,vs,m,e,n,q,l,r⟩:=x;exact⟨p,vs,m,e,(g p _ q n).2,(g p _ q n).1,l,Rs.go g ds vs r⟩
 |.dK ks ds,v,x=>by
  rw[R] at x⊢;obtain⟨p,vs,e,n,q,r⟩:=x;obtain⟨o,_,_,z,_⟩:=q.get;exact⟨p,vs,e,(g p o z n).2,q.at λo z=>(g p o z n).1,Rs.go g ds vs r⟩
 |.dT ks ds,v,x=>by
  rw[R] at x⊢;obtain⟨p,vs,e,n,q,r⟩:=x;obtain⟨o,_,_,z,_⟩:=q.get;exact⟨p,vs,e,(g p o z n).2,q.at g λo z=>(g p o z n).1,Rs.go g ds vs r⟩
theorem Rs.go(g:Gd O h O' h'):∀(ds:List Dt)(vs:List kL),Rs G O h ds vs->Rs G O' h' ds vs
 |[],vs,x=>by rw[Rs] at x⊢;exact x
 |d::ds,vs,x=>by rw[Rs] at x⊢;obtain⟨v,r,e,q,qs⟩:=x;exact⟨v,r,e,R.go g d v q,Rs.go g ds r qs⟩
end
theorem Rs.len:∀{ds:List Dt}{vs:List kL},Rs G O h ds vs->ds.length=vs.length
 |[],vs,x=>by rw[Rs] at x;rw[x];rfl
 |d::ds,vs,x=>by rw[Rs] at x;obtain⟨_,r,rfl,_,q⟩:=x;rw[ku,ku,q.len]
def Rs.nil:Rs G O h [] []:=by rw[Rs]
def Rs.cons(x:R G O h d v)(q:Rs G O h ds vs):Rs G O h (d::ds) (v::vs):=by rw[Rs];exact⟨v,vs,rfl,x,q⟩
theorem Rs.get:∀{ds:List Dt}{vs:List kL}{i:Nat}{d:Dt},Rs G O h ds vs->ds[i]?=some d->∃v,vs[i]?=some v/\R G O h d v
 |[],vs,i,d,x,e=>by simp at e
 |_::ds,vs,0,d,x,e=>by rw[Rs] at x;obtain⟨v,r,rfl,q,_⟩:=x;cases e;exact⟨v,rfl,q⟩
 |_::ds,vs,i+1,d,x,e=>by rw[Rs] at x;obtain⟨v,r,rfl,_,q⟩:=x;exact q.get (i:=i) e
theorem Rs.of{ds:List Dt}{vs:List kL}(l:ds.length=vs.length)(x:∀(i:Nat)(d:Dt)(v:kL),ds[i]?=some d->vs[i]?=some v->R G O h d v):Rs G O h ds vs:=by
 induction ds generalizing vs with
 |nil=>cases vs with
  |nil=>exact .nil
  |cons v vs=>cases l
 |cons d ds ih=>cases vs with
  |nil=>cases l
  |cons v vs=>exact .cons (x 0 d v rfl rfl) (ih (Gq l) λi d v a b=>x (i+1) d v a b)
theorem Rs.app(x:Rs G O h ds vs)(y:Rs G O h es us):Rs G O h (ds++es) (vs++us):=by
 induction ds generalizing vs with
 |nil=>rw[Rs] at x;subst x;exact y
 |cons d ds ih=>rw[Rs] at x;obtain⟨v,r,rfl,x1,x2⟩:=x;exact .cons x1 (ih x2)
def RT(G:Gx)(O:AP)(h:Heap)(d:Dt)(v:kL):Prop:=R G O h d v\/∃p,v=.ref p/\Top G O h (Rs G O h) d p
abbrev RM:Bool->Gx->AP->Heap->Dt->kL->Prop
 |true=>RT
 |false=>R
theorem RM.of(x:R G O h d v):∀{m},RM m G O h d v
 |true=>.inl x
 |false=>x
def RT.int{i:Int}(x:RT G O h (.int i) v):∃t,v=.int i t:=by have x:=x.elim id λ⟨_,_,z⟩=>z.elim;rw[R] at x;exact x
def RT.bl{b:Bool}(x:RT G O h (.bool b) v):v=.bool b:=by have x:=x.elim id λ⟨_,_,z⟩=>z.elim;rw[R] at x;exact x
def RT.tup(x:RT G O h (.tuple ds) v):∃p vs,v=.ref p/\¬O p/\IsTup h p (gC vs)/\vs.length<=ψ/\Rs G O h ds vs:=by have x:=x.elim id λ⟨_,_,z⟩=>z.elim;rw[R] at x;exact x
def RT.lst(x:RT G O h (.list ds) v):∃p vs n,v=.ref p/\h.get? p=some (lo vs n)/\vs.length<=ψ/\Rs G O h ds vs:=by
 rcases x with x|⟨p,e,vs,n,x⟩
 ·rw[R] at x;obtain⟨p,vs,n,e,_,x⟩:=x;exact⟨p,vs,n,e,x⟩
 ·exact⟨p,vs,n,e,x⟩
def RT.go(g:Gd O h O' h')(k:∀p o,v=.ref p->h.get? p=some o->h'.get? p=some o)(x:RT G O h d v):RT G O' h' d v:=x.elim (λx=>.inl (R.go g _ _ x)) λ⟨p,e,x⟩=>.inr ⟨p,e,x.imp g (λo=>k p o e) λ_ _=>Rs.go g _ _⟩
theorem R.ref(x:R G O h d (.ref p)):¬O p/\∃o,h.get? p=some o:=by
 cases d with
 |tuple ds=>rw[R] at x;obtain⟨_,_,e,n,⟨o,z,_⟩,_⟩:=x;cases e;exact⟨n,o,z⟩
 |list ds=>rw[R] at x;obtain⟨_,_,_,e,n,z,_⟩:=x;cases e;exact⟨n,_,z⟩
 |dK ks ds=>rw[R] at x;obtain⟨_,_,e,n,z,_⟩:=x;cases e;obtain⟨o,_,_,z,_⟩:=z.get;exact⟨n,o,z⟩
 |dT ks ds=>rw[R] at x;obtain⟨_,_,e,n,z,_⟩:=x;cases e;obtain⟨o,_,_,z,_⟩:=z.get;exact⟨n,o,z⟩
 |int _=>rw[R] at x;obtain⟨_,x⟩:=x;cases x
 |str _=>rw[R] at x;obtain⟨_,x⟩:=x;cases x
 |_=>rw[R] at x;cases x
def RT.ex(x:RT G O h d v)(e:v=.ref p):∃o,h.get? p=some o:=by
 subst e;rcases x with x|⟨_,e,x⟩
 ·exact x.ref.2
 ·cases e;obtain⟨o,z,_⟩:=x.get;exact⟨o,z⟩
def R.int{i:Int}{t:Tok}:R G O h (.int i) (.int i t):=by rw[R];exact⟨t,rfl⟩
def R.bl{b:Bool}:R G O h (.bool b) (.bool b):=by rw[R]
def R.str{x:Str}{t:Tok}:R G O h (.str x) (.str x t):=by rw[R];exact⟨t,rfl⟩
def R.non:R G O h .none .none:=by rw[R]
mutual
theorem R.rd:∀(d:Dt)(v:kL)(y:EZ),cB d=some y->R G O h d v->∃as,Reads h v y as
 |.none,v,y,e,x=>by cases e;rw[R] at x;subst x;exact⟨_,.none⟩
 |.bool b,v,y,e,x=>by cases e;rw[R] at x;subst x;exact⟨_,.bool b⟩
 |.int i,v,y,e,x=>by cases e;rw[R] at x;obtain⟨t,rfl⟩:=x;exact⟨_,.int i t⟩
 |.str i,v,y,e,x=>by cases e;rw[R] at x;obtain⟨t,rfl⟩:=x;exact⟨_,.str i t⟩
 |.list ds,v,y,e,x=>by
  rw[cB] at e;obtain⟨ps,q,e⟩:=kA.mp e;cases e;rw[R] at x;obtain⟨p,vs,n,rfl,_,z,_,r⟩:=x;obtain⟨as,r⟩:=Rs.rd ds vs ps q r;exact⟨_,.list z rfl rfl (by simpa using r)⟩
 |.tuple ds,v,y,e,x=>by
  rw[cB] at e;obtain⟨ps,q,e⟩:=kA.mp e;cases e;rw[R] at x;obtain⟨p,vs,rfl,_,⟨o,z,c,n,z2⟩,_,r⟩:=x;obtain⟨as,r⟩:=Rs.rd ds vs ps q r;exact⟨_,.tuple z c z2 (by simpa using r)⟩
 |.dK _ _,v,y,e,x=>by rw[cB] at e;cases e
 |.dT _ _,v,y,e,x=>by rw[cB] at e;cases e
theorem Rs.rd:∀(ds:List Dt)(vs:List kL)(ps:List EZ),we ds=some ps->Rs G O h ds vs->∃as,GJ h vs ps as
 |[],vs,ps,e,x=>by rw[we] at e;cases e;rw[Rs] at x;subst x;exact⟨_,.nil⟩
 |d::ds,vs,ps,e,x=>by
  rw[we] at e;obtain⟨p,q1,e⟩:=kA.mp e;obtain⟨ps',q2,e⟩:=kA.mp e;cases e;rw[Rs] at x;obtain⟨v,r,rfl,h1,h2⟩:=x;obtain⟨as,r1⟩:=R.rd d v p q1 h1;obtain⟨bs,r2⟩:=Rs.rd ds r ps' q2 h2;exact⟨_,.cons r1 r2⟩
end
theorem RT.rd{y:EZ}(e:cB d=some y)(x:RT G O h d v):∃as,Reads h v y as:=by
 rcases x with x|⟨p,rfl,x⟩
 ·exact R.rd _ _ _ e x
 ·cases d with
  |list ds=>
   rw[cB] at e;obtain⟨ps,q,e⟩:=kA.mp e;cases e;obtain⟨vs,n,z,_,r⟩:=x;obtain⟨as,r⟩:=Rs.rd ds vs ps q r;exact⟨_,.list z rfl rfl (by simpa using r)⟩
  |dK _ _=>rw[cB] at e;cases e
  |dT _ _=>rw[cB] at e;cases e
  |_=>exact x.elim
end
open PySem.W (tabObj)
structure Mod(K:QM)(mg:Str->Option kL)(base:Heap):Prop where
 kin:K.In base
 glob:base.Ns pZ mg
 blt:∃mb,base.Ns DH mb/\∀x:Str,x≠"__name__"->mb x=uD x
 nolimit:base.NoLimit
structure Cx extends Gx where
 A:QF
 N:List Str
 env:Env
 fn:Bool
 rb:AP
abbrev Os:=Nat->Addr->Prop
def dW(ow:Os):AP:=λa=>∃i,ow i a
def Cx.cel(X:Cx):AP:=λa=>∃x,X.env.cells.lookup x=some a
def Cx.O(X:Cx)(B:AP)(ow:Os):AP:=λa=>B a\/dW ow a\/a=X.env.locals\/X.cel a
def Cx.W(X:Cx)(ow:Os):AP:=λa=>dW ow a\/a=X.env.locals\/(X.fn=true/\X.cel a)
structure Cx.Ok(X:Cx):Prop where
 mod:Mod X.K X.mg X.base
 kind:X.env.scope.kind=.function
 glob:X.env.globals=pZ
 blt:X.env.builtins=DH
 inj:∀x y c,X.env.cells.lookup x=some c->X.env.cells.lookup y=some c->x=y
 has:∀x,(X.env.kindOf x=some .cell\/X.env.kindOf x=some .free)->∃c,X.env.cells.lookup x=some c
 hd:X.A.handled=none
def LT(E:AP)(h:Heap)(t:Addr×Pos×Str):Prop:=∃ps,h.get? t.1=some (tabObj ps)/\TriplesOk ps.toList/\(codeAmong t.2.1 ps.toList=none\/∃c,codeAmong t.2.1 ps.toList=some (.ref c)/\h.CodeRec (.ref c) t.2.2/\¬E c)
def zX(env:Env)(h:Heap)(m:Str->Option kL)(x:Str)(u:kL):Prop:=
 (env.kindOf x=some .local/\m x=some u)\/((env.kindOf x=some .cell\/env.kindOf x=some .free)/\∃c,env.cells.lookup x=some c/\h.IsCell c (some u))
def mK(G:Gx)(O:AP)(h:Heap)(qs:List Addr)(ds:List Dt)(vs:List kL):Prop:=vs=qs.map uQ/\ds.length=qs.length/\∀(i:Nat)(d:Dt)(q:Addr),ds[i]?=some d->qs[i]?=some q->Top G O h (Rs G O h) d q
def RW(G:Gx)(O:AP)(h:Heap)(S:AP):Nat->Dt->Addr->Prop
 |1,d,p=>(∀a,S a↔a=p)/\Top G O h (Rs G O h) d p
 |2,d,p=>∃qs,(∀a,S a↔a=p\/a∈qs)/\(p::qs).Nodup/\Top G O h (mK G O h qs) d p
 |_,_,_=>False
def Sk(X:Cx)(B:AP)(π:Addr)(ow:Os)(h:Heap)(m:Str->Option kL)(x:Str)(i:Nat):Sl->Prop
 |.un=>True
 |.fz d=>∃u,zX X.env h m x u/\R X.toGx (X.O B ow) h d u
 |.ow io n d=>∃p,zX X.env h m x (.ref p)/\(io=true->p=π)/\RW X.toGx (X.O B ow) h (ow i) n d p
 |.rd d=>∃u,zX X.env h m x u/\RT X.toGx (X.O B ow) h d u/\∀p,u=.ref p->X.O B ow p->X.rb p
structure Inv(X:Cx)(B:AP)(π:Addr)(Z:En)(ow:Os)(s:kW):Prop where
 ok:X.Ok
 ge:DI s.gens
 base:∀b o,X.base.get? b=some o->s.heap.get? b=some o
 bo:∀a,X.O B ow a->X.base.get? a=none
 bt:∀a,X.T a->B a
 tb:∀t∈X.tb,LT (X.O B ow) s.heap t
 bd:∀a,B a->∃o,s.heap.get? a=some o
 rb:∀a,X.rb a->B a/\a≠X.env.locals/\¬X.cel a
 loc:∃m,s.heap.Ns X.env.locals m/\∀(i:Nat)(x:Str)(sl:Sl),X.N[i]?=some x->Z[i]?=some sl->Sk X B π ow s.heap m x i sl
 cell:∀x c,X.env.cells.lookup x=some c->∃v,s.heap.IsCell c v
 len:Z.length=X.N.length
 inj:∀i j a,ow i a->ow j a->i=j
 own:∀i a,ow i a->(∃o,s.heap.get? a=some o/\∀z,o.data≠.fields z)/\¬B a/\a≠X.env.locals/\¬X.cel a
structure St(G:Gx)(W:AP)(s s':kW):Prop where
 os:s'.os=s.os
 kp:∀a o,s.heap.get? a=some o->¬W a->¬G.T a->s'.heap.get? a=some o
 ex:∀a o,s.heap.get? a=some o->∃o',s'.heap.get? a=some o'
 tg:∀a ps,G.T a->s.heap.get? a=some (tabObj ps)->∃more,s'.heap.get? a=some (tabObj (ps++more))
variable{mm:Str->Option kL}
section
variable{X:Cx}{G:Gx}{B B' W W' E E':AP}{π:Addr}{Z ρ':En}{ow aJ:Os}{s s' s1 s2:kW}{h h':Heap}{a p:Addr}{o:Obj}{d:Dt}{i:Nat}{x:Str}{v u:kL}
def St.refl:St G W s s:=⟨rfl,λ_ _ e _ _=>e,λ_ o e=>⟨o,e⟩,λ_ ps _ e=>⟨#[],by rw[e];simp⟩⟩
def St.trans(t:St G W s s1)(u:St G W' s1 s2)(w:∀a,W' a->W a\/s.heap.get? a=none):St G W s s2:=⟨u.os.trans t.os,λa o e n nt=>u.kp a o (t.kp a o e n nt) (λz=>(w a z).elim n λq=>by rw[q] at e;cases e) nt,λa o e=>let⟨_,e⟩:=t.ex a o e;u.ex a _ e,λa ps q e=>by
 obtain⟨m,e⟩:=t.tg a ps q e;obtain⟨m2,e⟩:=u.tg a _ q e;exact⟨m++m2,by rw[e,Array.append_assoc]⟩⟩
def St.then(t:St G W s s1)(u:St G bG s1 s2):St G W s s2:=t.trans u λ_ z=>z.elim
def St.up(u:St G bG s s'):St G W s s':=⟨u.os,λa o e _=>u.kp a o e id,u.ex,u.tg⟩
variable{t':Nat}
def St.keep(k:∀b o,s.heap.get? b=some o->h'.get? b=some o):St G W s {s with heap:=h',toks:=t'}:=⟨rfl,λa o e _ _=>k a o e,λa o e=>⟨o,k a o e⟩,λa ps _ e=>⟨#[],by rw[k _ _ e];simp⟩⟩
theorem St.free(t:St G W s s')(e:s'.heap.get? a=none):s.heap.get? a=none:=by
 cases q:s.heap.get? a with
 |none=>rfl
 |some o=>obtain⟨_,z⟩:=t.ex a o q;rw[e] at z;cases z
def LT.go(l:LT E h t)(i:∀a,E' a->E a\/∀o,h.get? a=some o->∀z,o.data≠.fields z)(k:∀b o,h.get? b=some o->¬E b->h'.get? b=some o)(kt:∀o,h.get? t.1=some o->h'.get? t.1=some o):LT E' h' t:=by
 obtain⟨ps,e,q,r⟩:=l;refine⟨ps,kt _ e,q,r.imp id λ⟨c,r1,⟨c2,oc,vs,tk,e2,e3,e4⟩,n⟩=>?_⟩
 cases e2;exact⟨c,r1,⟨c,oc,vs,tk,rfl,k _ _ e3 n,e4⟩,λz=>(i c z).elim n λq=>q oc e3 vs e4.1⟩
def LT.ne(l:LT E h t)(e:h.get? a=some o)(n:∀z,o.data≠.fields z):a≠t.1:=λq=>by obtain⟨ps,z,_⟩:=l;rw[q,z] at e;cases e;exact n ps rfl
def Inv.nt(I:Inv X B π Z ow s)(e:s.heap.get? a=some o)(n:∀z,o.data≠.fields z):¬X.T a:=λ⟨t,m,q⟩=>(I.tb t m).ne e n q.symm
def Inv.ntL(I:Inv X B π Z ow s):¬X.T X.env.locals:=by obtain⟨m,⟨o,es,ep,e,q,_⟩,_⟩:=I.loc;exact I.nt e λz y=>by rw[q] at y;cases y
def Inv.ntC(I:Inv X B π Z ow s){x:Str}{c:Addr}(hc:X.env.cells.lookup x=some c):¬X.T c:=by obtain⟨v,o,e,q⟩:=I.cell x c hc;exact I.nt e λz y=>by rw[q] at y;cases y
def Inv.ex(I:Inv X B π Z ow s)(h:X.O B ow a):∃o,s.heap.get? a=some o:=by
 rcases h with h|⟨i,h⟩|h|⟨x,h⟩
 ·exact I.bd a h
 ·obtain⟨⟨o,e,_⟩,_⟩:=I.own i a h;exact⟨o,e⟩
 ·obtain⟨m,⟨o,es,ep,e,_⟩,_⟩:=I.loc;exact⟨o,by rw[h];exact e⟩
 ·obtain⟨v,o,e,_⟩:=I.cell x a h;exact⟨o,e⟩
def Inv.apart(I:Inv X B π Z ow s)(n:s.heap.get? a=none):¬X.O B ow a:=λh=>by obtain⟨o,e⟩:=I.ex h;rw[n] at e;cases e
def Inv.fresh(I:Inv X B π Z ow s):¬X.O B ow s.heap.objs.size:=I.apart (pU (pL _))
def Inv.kin(I:Inv X B π Z ow s):X.K.In s.heap:=I.ok.mod.kin.keeps I.base
def Inv.fr(I:Inv X B π Z ow s):∀{a},X.base.get? a=some o->¬X.O B ow a:=λe z=>by rw[I.bo _ z] at e;cases e
def zX.go(l:zX X.env h m x u)(k:∀c o,X.env.cells.lookup x=some c->h.get? c=some o->h'.get? c=some o):zX X.env h' m x u:=l.imp id λ⟨q,c,e,o,z,y⟩=>⟨q,c,e,o,k c o e z,y⟩
theorem RW.go{O O' S:AP}(g:Gd O h O' h')(k:∀a o,S a->h.get? a=some o->h'.get? a=some o):∀{n},RW G O h S n d p->RW G O' h' S n d p
 |1,⟨q,t⟩=>⟨q,t.imp g (λo=>k p o ((q p).mpr rfl)) λ_ _=>Rs.go g _ _⟩
 |2,⟨qs,q,nd,t⟩=>⟨qs,q,nd,t.imp g (λo=>k p o ((q p).mpr (.inl rfl))) λ_ _⟨a,b,c⟩=>⟨a,b,λi d r e1 e2=>(c i d r e1 e2).imp g (λo=>k r o ((q r).mpr (.inr (kg e2)))) λ_ _=>Rs.go g _ _⟩⟩
def Inv.gd(I:Inv X B π Z ow s)(t:St X.toGx bG s s'):Gd (X.O B ow) s.heap (X.O B ow) s'.heap:=λa o e n=>⟨t.kp a o e id λz=>n (.inl (I.bt a z)),n⟩
theorem Sk.go{h h':Heap}{nH:Str->Option kL}{j:Nat}{sl:Sl}(k:Sk X B π ow h mm x j sl)(e:aJ j=ow j)(g:Gd (X.O B ow) h (X.O B' aJ) h')(l:∀u,zX X.env h mm x u->zX X.env h' nH x u)(ko:∀a o,ow j a->h.get? a=some o->h'.get? a=some o)(kr:∀p o,(X.O B ow p->X.rb p)->h.get? p=some o->(∀z,o.data≠.fields z)->h'.get? p=some o)(ri:∀p o,h.get? p=some o->X.O B' aJ p->X.O B ow p):Sk X B' π aJ h' nH x j sl:=by
 cases sl with
 |un=>trivial
 |fz d=>obtain⟨u,q,r⟩:=k;exact⟨u,l u q,R.go g _ _ r⟩
 |ow io n d=>obtain⟨p,q,z,r⟩:=k;exact⟨p,l _ q,z,by rw[e];exact r.go g ko⟩
 |rd d=>
  obtain⟨u,q,r,n⟩:=k;refine⟨u,l u q,?_,λp e z=>let⟨o,y⟩:=r.ex e;n p e (ri p o y z)⟩;rcases r with r|⟨p,e,r⟩
  ·exact .inl (R.go g _ _ r)
  ·obtain⟨o,z,nf⟩:=r.get;exact .inr ⟨p,e,r.imp g (λo' y=>by rw[z] at y;cases y;exact kr p o (n p e) z nf) λ_ _=>Rs.go g _ _⟩
theorem Inv.go{V:AP}(I:Inv X B π Z ow s)(kp:∀a o,s.heap.get? a=some o->¬V a->s'.heap.get? a=some o)(vB:∀a,V a->B a)(vl:¬V X.env.locals)(vc:∀a,X.cel a->¬V a)(vr:∀a o,X.rb a->s.heap.get? a=some o->(∀z,o.data≠.fields z)->¬V a)
  (ob:∀a,B' a->B a\/s.heap.get? a=none)(bt:∀a,X.T a->B' a)(rb:∀a,X.rb a->B' a)(bd:∀a,B' a->∃o,s'.heap.get? a=some o)(ge:DI s'.gens)(lt:∀t∈X.tb,LT (X.O B' ow) s'.heap t):Inv X B' π Z ow s':=by
 have oi:∀{a},X.O B' ow a->X.O B ow a\/s.heap.get? a=none:=λz=>z.elim (λz=>(ob _ z).imp .inl id) λz=>.inl (.inr z);have ri:∀p o,s.heap.get? p=some o->X.O B' ow p->X.O B ow p:=λp o e z=>(oi z).elim id λz=>by rw[z] at e;cases e
 have g:Gd (X.O B ow) s.heap (X.O B' ow) s'.heap:=λa o e n=>⟨kp a o e λz=>n (.inl (vB a z)),λz=>n (ri a o e z)⟩;obtain⟨m,⟨oL,es,ep,eL,rL⟩,sk⟩:=I.loc;have ck:∀{x c o},X.env.cells.lookup x=some c->s.heap.get? c=some o->s'.heap.get? c=some o:=λq e=>kp _ _ e (vc _ ⟨_,q⟩);have ko:∀{j a o},ow j a->s.heap.get? a=some o->s'.heap.get? a=some o:=λz e=>kp _ _ e λy=>(I.own _ _ z).2.1 (vB _ y);refine⟨I.ok,ge,λb o e=>kp b o (I.base b o e) λz=>I.fr e (.inl (vB b z)),λa z=>(oi z).elim (I.bo a) λz=>?_,bt,lt,bd,λa z=>⟨rb a z,(I.rb a z).2⟩,⟨m,⟨oL,es,ep,kp _ _ eL vl,rL⟩,λj x sl h1 h2=>(sk j x sl h1 h2).go rfl g (λu q=>q.go λc o=>ck) (λa o=>ko) (λp o q e nf=>kp p o e λz=>vr p o (q (.inl (vB p z))) e nf z) ri⟩,λx c e=>let⟨v,o,z,q⟩:=I.cell x c e;⟨v,o,ck e z,q⟩,I.len,I.inj,λj a h=>?_⟩
 ·cases q:X.base.get? a with
  |none=>rfl
  |some o=>rw[I.base a o q] at z;cases z
 ·obtain⟨⟨o,e,nf⟩,q,r⟩:=I.own j a h;exact⟨⟨o,ko h e,nf⟩,λz=>(ob a z).elim q (λz=>by rw[z] at e;cases e),r⟩
def Inv.st(I:Inv X B π Z ow s)(t:St X.toGx bG s s')(ge:DI s'.gens)(lt:∀t∈X.tb,LT (X.O B ow) s'.heap t):Inv X B π Z ow s':=
 I.go (V:=X.T) (λa o e n=>t.kp a o e id n) I.bt I.ntL (λa⟨x,z⟩=>I.ntC z) (λa o _ e nf=>I.nt e nf) (λ_=>.inl) I.bt (λa z=>(I.rb a z).1) (λa b=>let⟨o,e⟩:=I.bd a b;t.ex a o e) ge lt
def Sx(X:Cx)(B:AP)(π:Addr)(Z:En)(ow:Os)(s s':kW):Prop:=Inv X B π Z ow s'/\St X.toGx bG s s'
def Sx.trans(a:Sx X B π Z ow s s1)(b:Sx X B π Z ow s1 s2):Sx X B π Z ow s s2:=⟨b.1,a.2.then b.2⟩
def Inv.sx(I:Inv X B π Z ow s):Sx X B π Z ow s s:=⟨I,.refl⟩
def Inv.kept(I:Inv X B π Z ow s)(k:∀b o,s.heap.get? b=some o->h'.get? b=some o):Sx X B π Z ow s {s with heap:=h',toks:=t'}:=
 ⟨I.st (.keep k) I.ge λt m=>(I.tb t m).go (λ_=>.inl) (λb o e _=>k b o e) λo e=>k _ o e,.keep k⟩
def Inv.tok(I:Inv X B π Z ow s)(t:Nat):Sx X B π Z ow s {s with toks:=t}:=I.kept (h':=s.heap) λ_ _ e=>e
def Cx.O.mono(i:∀a,B' a->B a):X.O B' ow a->X.O B ow a:=λh=>h.imp (i a) id
def Inv.less(I:Inv X B π Z ow s)(i:∀a,B' a->B a)(bt:∀a,X.T a->B' a)(rb:∀a,X.rb a->B' a):Inv X B' π Z ow s:=
 I.go (V:=bG) (λ_ _ e _=>e) (λ_=>UO) id (λ_ _=>id) (λ_ _ _ _ _=>id) (λa z=>.inl (i a z)) bt rb (λa z=>I.bd a (i a z)) I.ge λt q=>(I.tb t q).go (λa z=>.inl (Cx.O.mono i z)) (λ_ _ e _=>e) λ_ e=>e
def Inv.more'(I:Inv X B π Z ow s)(J:Sx X B π Z ow s s')(n:∀a,B' a->s.heap.get? a=none)(ex:∀a,B' a->∃o,s'.heap.get? a=some o)(lt:∀t∈X.tb,LT (X.O (λa=>B a\/B' a) ow) s'.heap t):Inv X (λa=>B a\/B' a) π Z ow s':=
 I.go (V:=X.T) (λa o e n=>J.2.kp a o e id n) I.bt I.ntL (λa⟨x,z⟩=>I.ntC z) (λa o _ e nf=>I.nt e nf) (λa z=>z.imp id (n a)) (λa z=>.inl (I.bt a z)) (λa z=>.inl (I.rb a z).1) (λa z=>z.elim (J.1.bd a) (ex a)) J.1.ge lt
def Inv.more(I:Inv X B π Z ow s)(n:∀a,B' a->s.heap.get? a=none)(k:∀b o,s.heap.get? b=some o->h'.get? b=some o)(ex:∀a,B' a->∃o,h'.get? a=some o):Inv X (λa=>B a\/B' a) π Z ow {s with heap:=h',toks:=t'}:=
 I.more' (I.kept k) n ex λt m=>(I.tb t m).go (λa z=>z.elim (λz=>z.elim (λz=>.inl (.inl z)) λz=>.inr λo e=>by rw[n a z] at e;cases e) λz=>.inl (.inr z)) (λb o e _=>k b o e) λo e=>k _ o e
def Inv.newp(I:Inv X B π Z ow s)(J:Sx X B π Z ow s s')(n:∀a,B' a->s.heap.get? a=none)(ex:∀a,B' a->∃o,s'.heap.get? a=some o/\∀z,o.data≠.fields z):Inv X (λa=>B a\/B' a) π Z ow s':=
 I.more' J n (λa z=>let⟨o,e,_⟩:=ex a z;⟨o,e⟩) λt m=>(J.1.tb t m).go (λa z=>z.elim (λz=>z.elim (λz=>.inl (.inl z)) λz=>.inr λo e=>by obtain⟨o',e',nf⟩:=ex a z;rw[e] at e';cases e';exact nf) λz=>.inl (.inr z)) (λb o e _=>e) λo e=>e
end
abbrev nE:kL->kW->Prop:=λ_ _=>False
def av{α:Type}{t:Sem α}{Q Q':α->kW->Prop}{M:Model}{A:QF}{E:kL->kW->Prop}{s:kW}(h:δ M A t Q E s)(hQ:∀a s,Q a s->Q' a s):δ M A t Q' E s:=Qe h hQ λ_ _ x=>x
def PE(X:Cx)(m:Bool)(e:Expr)(f:En->Option Dt):Prop:=∀B π Z ow s d,Inv X B π Z ow s->f Z=some d->δ (ε X.P X.w) X.A (eval e X.env) (λv s'=>Sx X B π Z ow s s'/\RM m X.toGx (X.O B ow) s'.heap d v) nE s
def PF(X:Cx)(e:Expr)(f:En->Option Dt):Prop:=∀B π Z ow s d,Inv X B π Z ow s->f Z=some d->δ (ε X.P X.w) X.A (eval e X.env) (λv s'=>Sx X B π Z ow s s'/\∃p,v=.ref p/\s.heap.get? p=none/\Top X.toGx (λa=>X.O B ow a\/a=p) s'.heap (Rs X.toGx (λa=>X.O B ow a\/a=p) s'.heap) d p) nE s
def PA(X:Cx)(m:Bool)(es:List Expr)(f:En->Option (List Dt)):Prop:=∀pos B π Z ow s ds,Inv X B π Z ow s->f Z=some ds->δ (ε X.P X.w) X.A (spliced (ub pos (kh es X.env))) (λus s'=>Sx X B π Z ow s s'/\Uo (RM m X.toGx (X.O B ow) s'.heap) ds us) nE s
def PT(X:Cx)(e:Expr)(c:En->Option Bool):Prop:=∀B π Z ow s b,Inv X B π Z ow s->c Z=some b->δ (ε X.P X.w) X.A (isTrue e X.env (eval e X.env)) (λr s'=>r=b/\Sx X B π Z ow s s') nE s
def PW(X:Cx)(e:Expr)(c:En->Option Bool):Prop:=∀wh B π Z ow s b,Inv X B π Z ow s->c Z=some b->δ (ε X.P X.w) X.A (isTrue e X.env wh) (λr s'=>r=b/\Sx X B π Z ow s s') nE s
def Z2(X:Cx)(f:kL->kL->Sem kL)(k:Dt->Dt->Option Dt):Prop:=∀B π Z ow s a b d v u,Inv X B π Z ow s->k a b=some d->RT X.toGx (X.O B ow) s.heap a v->RT X.toGx (X.O B ow) s.heap b u->δ (ε X.P X.w) X.A (f v u) (λr s'=>Sx X B π Z ow s s'/\R X.toGx (X.O B ow) s'.heap d r) nE s
def ZC(X:Cx)(f:kL)(k:List Dt->Option Dt):Prop:=∀B π Z ow s ds d us,Inv X B π Z ow s->k ds=some d->Uo (RT X.toGx (X.O B ow) s.heap) ds us->δ (ε X.P X.w) X.A (call f us) (λr s'=>Sx X B π Z ow s s'/\R X.toGx (X.O B ow) s'.heap d r) nE s
def ZF(X:Cx)(f:kL)(k:List Dt->Option Dt):Prop:=∀B π Z ow s ds d us,Inv X B π Z ow s->k ds=some d->Uo (RT X.toGx (X.O B ow) s.heap) ds us->δ (ε X.P X.w) X.A (call f us) (λr s'=>Sx X B π Z ow s s'/\∃p,r=.ref p/\s.heap.get? p=none/\Top X.toGx (λa=>X.O B ow a\/a=p) s'.heap (Rs X.toGx (λa=>X.O B ow a\/a=p) s'.heap) d p) nE s
def Gl(X:Cx)(x:Str):Prop:=X.env.kindOf x=some .globalImplicit
def NS(e:Expr):Prop:=∀es env,kh (e::es) env=(false,eval e env)::kh es env
section
variable{X:Cx}{B:AP}{π:Addr}{Z:En}{ow:Os}{s s':kW}{m:Bool}{a b e:Expr}{es:List Expr}{f g:En->Option Dt}{ga:En->Option (List Dt)}{c c':En->Option Bool}{pos p:Pos}{x:Str}{d:Dt}{ds:List Dt}{v u:kL}{vs us:List kL}{q:Addr}
def RT.st(r:RT X.toGx (X.O B ow) s.heap d v)(I:Inv X B π Z ow s)(t:St X.toGx bG s s'):RT X.toGx (X.O B ow) s'.heap d v:=by
 rcases r with r|⟨p,e,r⟩
 ·exact .inl (R.go (I.gd t) _ _ r)
 ·obtain⟨o,z,nf⟩:=r.get;exact .inr ⟨p,e,r.imp (I.gd t) (λo e=>t.kp p o e id (I.nt z nf)) λ_ _=>Rs.go (I.gd t) _ _⟩
theorem RM.st(I:Inv X B π Z ow s)(t:St X.toGx bG s s'):∀{m},RM m X.toGx (X.O B ow) s.heap d v->RM m X.toGx (X.O B ow) s'.heap d v
 |true,r=>RT.st r I t
 |false,r=>R.go (I.gd t) _ _ r
theorem D3{α β:Type}{F G:α->β->Prop}(f:∀a b,F a b->G a b){Mu:List α}{l₂:List β}(x:Uo F Mu l₂):Uo G Mu l₂:=by
 induction x with
 |nil=>exact .nil
 |cons r t ih=>exact .cons (f _ _ r) ih
variable{G:Gx}{O:AP}{h:Heap}
theorem Yk(r:Uo (R G O h) ds us):Rs G O h ds us:=by
 induction r with
 |nil=>exact .nil
 |cons h _ ih=>exact .cons h ih
def Mv(r:Top G (λa=>O a\/a=q) h (Rs G (λa=>O a\/a=q) h) d q)(n:¬O q):R G O h d (.ref q):=R.top (r.imp (Gd.less λ_=>.inl) (λ_ e=>e) λ_ _=>Rs.go (Gd.less λ_=>.inl) _ _) n
def fe(h:PF X e f):PE X m e f:=λB π Z ow s d I q=>av (h B π Z ow s d I q) λv s'⟨t,p,e,n,r⟩=>⟨t,.of (by rw[e];exact Mv r (I.apart n))⟩
def Inv.look(I:Inv X B π Z ow s){i:Nat}{sl:Sl}(hN:X.N[i]?=some x)(e:Z[i]?=some sl):∃m,s.heap.Ns X.env.locals m/\Sk X B π ow s.heap m x i sl:=let⟨m,h,k⟩:=I.loc;⟨m,h,k i x sl hN e⟩
def ld{Q:kL->kW->Prop}{E:kL->kW->Prop}{mm:Str->Option kL}(I:Inv X B π Z ow s)(hn:s.heap.Ns X.env.locals mm)(l:zX X.env s.heap mm x u)(h:Q u s)(cE:(x==("__classdict__":Str))=false):δ (ε X.P X.w) X.A (loadName X.env x) Q E s:=by
 rcases l with⟨hk,hm⟩|⟨hk|hk,c,hc,tj⟩
 ·exact Dr I.ok.kind hk hn hm h
 ·exact wpAny_loadName_cell I.ok.kind hk hc tj h
 ·exact wpAny_loadName_free I.ok.kind hk hc tj h cE
def dv(i:Nat)(hN:X.N[i]?=some x:=by rfl)(hd:(x==("__debug__":Str))=false:=by decide)(cE:(x==("__classdict__":Str))=false:=by decide):PE X m (.Name x pos) (dV i):=λB π Z ow s d I q=>by
 obtain⟨sl,e,q⟩:=kA.mp q;obtain⟨mm,hn,k⟩:=I.look hN e
 cases sl<;>cases q
 obtain⟨u,l,r⟩:=k;exact BT (ld I hn l ⟨I.sx,.of r⟩ cE) hd
def U3(i:Nat)(hN:X.N[i]?=some x:=by rfl)(hd:(x==("__debug__":Str))=false:=by decide)(cE:(x==("__classdict__":Str))=false:=by decide):PE X true (.Name x pos) (aA i):=λB π Z ow s d I q=>by
 obtain⟨sl,e,q⟩:=kA.mp q;obtain⟨mm,hn,k⟩:=I.look hN e;unfold sR at q
 split at q<;>cases q
 ·obtain⟨u,l,r⟩:=k;exact BT (ld I hn l ⟨I.sx,.inl r⟩ cE) hd
 ·obtain⟨p,l,_,_,r⟩:=k;exact BT (ld I hn l ⟨I.sx,.inr ⟨p,rfl,r⟩⟩ cE) hd
 ·obtain⟨u,l,r,_⟩:=k;exact BT (ld I hn l ⟨I.sx,r⟩ cE) hd
def D4{i j}:PE X m (.Constant (.int i) j pos) (dC (.int i)):=λB π Z ow s d I q=>by cases q;exact Af ⟨I.tok _,.of .int⟩
def Mx{b j}:PE X m (.Constant (.bool b) j pos) (dC (.bool b)):=λB π Z ow s d I q=>by cases q;exact Constant_bool ⟨I.sx,.of .bl⟩
def D5{j}:PE X m (.Constant .none j pos) (dC .none):=λB π Z ow s d I q=>by cases q;exact Constant_none ⟨I.sx,.of .non⟩
def D6{x j}:PE X m (.Constant (.str x) j pos) (dC (.str x)):=λB π Z ow s d I q=>by cases q;exact Calls.Constant_str ⟨I.tok _,.of .str⟩
def qM{E Q}(I:Inv X B π Z ow s)(hg:Gl X x)(hm:X.mg x=some u)(h:Q u s)(hd:(x==("__debug__":Str))=false:=by decide):δ (ε X.P X.w) X.A (eval (.Name x pos) X.env) Q E s:=
 Bx I.ok.kind hg (Calls.loadGlobal_global (by rw[I.ok.glob];exact I.ok.mod.glob.keeps I.base) hm h) hd
def xu{E Q}(I:Inv X B π Z ow s)(hg:Gl X x)(hm:X.mg x=none)(hv:uD x=some u)(h:Q u s)(hn:x≠"__name__":=by decide)(hd:(x==("__debug__":Str))=false:=by decide):δ (ε X.P X.w) X.A (eval (.Name x pos) X.env) Q E s:=by
 obtain⟨mb,h1,h2⟩:=I.ok.mod.blt;exact Bx I.ok.kind hg (Calls.loadGlobal_builtin (by rw[I.ok.glob];exact I.ok.mod.glob.keeps I.base) hm (by rw[I.ok.blt];exact h1.keeps I.base) ((h2 x hn).trans hv) h) hd
variable{fn:kL->kL->Sem kL}
def Po{k:Dt->Dt->Option Dt}(ha:PE X true a f)(hb:PE X true b g)(hk:Z2 X fn k)(I:Inv X B π Z ow s)(q:d2 k f g Z=some d):
  δ (ε X.P X.w) X.A (eval a X.env) (λv aW=>δ (ε X.P X.w) X.A (eval b X.env) (λu bV=>δ (ε X.P X.w) X.A (fn v u) (λr s'=>Sx X B π Z ow s s'/\R X.toGx (X.O B ow) s'.heap d r) nE bV) nE aW) nE s:=by
 obtain⟨x,qa,q⟩:=kA.mp q;obtain⟨y,qb,q⟩:=kA.mp q;exact av (ha B π Z ow s x I qa) λv s1⟨t1,r1⟩=>av (hb B π Z ow s1 y t1.1 qb) λu s2⟨t2,r2⟩=>av (hk B π Z ow s2 x y d v u t2.1 q (RT.st r1 t1.1 t2.2) r2) λr s3⟨t3,r3⟩=>⟨(t1.trans t2).trans t3,r3⟩
def o2{op:Operator}{k}(hk:Z2 X (binaryOp op) k)(ha:PE X true a f)(hb:PE X true b g):PE X m (.BinOp a op b pos) (d2 k f g):=λB π Z ow s d I q=>av (CU (Po ha hb hk I q)) λ_ _ h=>⟨h.1,.of h.2⟩
def c2{op:CmpOp}{k}(hk:Z2 X (QX op) k)(ha:PE X true a f)(hb:PE X true b g)(hm:gP op b=false):PE X m (.Compare a [op] [b] pos) (d2 k f g):=λB π Z ow s d I q=>av (wpAny_Compare1 (Po ha hb hk I q) hm) λ_ _ h=>⟨h.1,.of h.2⟩
def iY{op:CmpOp}{k}(hk:Z2 X (QX op) k)(ha:PE X true a f)(hb:PE X true b g)(hm:gP op b=false):PT X (.Compare a [op] [b] pos) (dB (d2 k f g)):=λB π Z ow s r I q=>by
 obtain⟨d,q,e⟩:=kA.mp q;refine gS (av (Po ha hb hk I q) λ_ _ h1=>av h1 λ_ _ h2=>av h2 λc s3 hw=>?_) hm;obtain⟨t,r⟩:=hw
 cases d<;>cases e
 rw[R] at r;subst r;exact uj ⟨rfl,t⟩
theorem aP(b:Expr){op:CmpOp}(h:op≠.In:=by decide)(h2:op≠.NotIn:=by decide):gP op b=false:=by
 have e1:(op==CmpOp.In)=false:=by grind
 have e2:(op==CmpOp.NotIn)=false:=by grind
 cases b<;>simp[gP,e1,e2]
theorem zI{C:Int->Int->Prop}[∀i j,Decidable (C i j)]{g:Int->Int->Int}(rule:∀(i j:Int)(t u:Tok)(s:kW)(Q E:kL->kW->Prop),C i j->Q (.int (g i j) s.toks) {s with toks:=s.toks+1}->δ (ε X.P X.w) X.A (fn (.int i t) (.int j u)) Q E s):Z2 X fn (kI C g):=λB π Z ow s a b d v u I q ra rb=>by
 unfold kI at q
 split at q
 ·split at q<;>cases q
  obtain⟨t,rfl⟩:=ra.int;obtain⟨t',rfl⟩:=rb.int;exact rule _ _ _ _ _ _ _ ‹_› ⟨I.tok _,.int⟩
 ·cases q
def Lv{g:Int->Int->Int}(rule:∀(i j:Int)(t u:Tok)(s:kW)(Q E:kL->kW->Prop),Q (.int (g i j) s.toks) {s with toks:=s.toks+1}->δ (ε X.P X.w) X.A (fn (.int i t) (.int j u)) Q E s):Z2 X fn (mI g):=λB π Z ow s a b d v u I q ra rb=>by
 unfold mI at q
 split at q<;>cases q
 obtain⟨t,rfl⟩:=ra.int;obtain⟨t',rfl⟩:=rb.int;exact rule _ _ _ _ _ _ _ ⟨I.tok _,.int⟩
def zP{g:Int->Int->Bool}(rule:∀(i j:Int)(t u:Tok)(s:kW)(Q E:kL->kW->Prop),Q (.bool (g i j)) s->δ (ε X.P X.w) X.A (fn (.int i t) (.int j u)) Q E s):Z2 X fn (kP g):=λB π Z ow s a b d v u I q ra rb=>by
 unfold kP at q
 split at q<;>cases q
 obtain⟨t,rfl⟩:=ra.int;obtain⟨t',rfl⟩:=rb.int;exact rule _ _ _ _ _ _ _ ⟨I.sx,.bl⟩
def Mz:Z2 X (QX .Lt) cz:=zP λ_ _ _ _ _ _ _ q=>Ct q
def MA:Z2 X (QX .LtE) mJ:=zP λ_ _ _ _ _ _ _ q=>le_int q
def MB:Z2 X (QX .Gt) lC:=zP λ_ _ _ _ _ _ _ q=>gt_int q
def Rn:Z2 X (QX .GtE) Lr:=zP λ_ _ _ _ _ _ _ q=>ge_int q
def tm:Z2 X (QX .Eq) zB:=zP λi j _ _ _ _ _ q=>eq_int (by rw[show(i==j)=decide (i=j) by by_cases e:i=j<;>simp[e]];exact q)
def to:Z2 X (QX .NotEq) yb:=zP λi j _ _ _ _ _ q=>ne_int (by rw[show(i !=j)= !decide (i=j) by by_cases e:i=j<;>simp[e]];exact q)
section
variable(ha:PE X true a f)(hb:PE X true b g)
include ha hb
theorem D7:PE X m (.BinOp a .Add b pos) (d2 zN f g):=o2 (Lv λ_ _ _ _ _ _ _ q=>add_int q) ha hb
theorem D8:PE X m (.BinOp a .Sub b pos) (d2 zo f g):=o2 (Lv λ_ _ _ _ _ _ _ q=>sub_int q) ha hb
theorem D9:PE X m (.BinOp a .Mult b pos) (d2 zf f g):=o2 (zI λ_ _ _ _ _ _ _ hc q=>mul_int q (PySem.IntMulOk.of_le (Ds.mpr hc.1) (Ds.mpr hc.2) (by decide))) ha hb
theorem nI:PE X m (.BinOp a .FloorDiv b pos) (d2 zE f g):=o2 (zI λ_ j _ _ _ _ _ hc q=>floordiv_int hc.1 q (.inl (Cd (by
 have h0:j.natAbs≠0:=by have:=hc.1;lia
 have:=(Nat.log2_lt h0).mpr hc.2;lia)))) ha hb
theorem E1:PE X m (.BinOp a .Mod b pos) (d2 zG f g):=o2 (zI λ_ _ _ _ _ _ _ hc q=>mod_int' hc q) ha hb
theorem E2:PE X m (.BinOp a .Pow b pos) (d2 qU f g):=o2 (zI λ_ _ _ _ _ _ _ hc q=>pow_int_small hc.1 hc.2.1 hc.2.2 q) ha hb
theorem E3:PE X m (.BinOp a .BitXor b pos) (d2 w6 f g):=o2 (Lv λ_ _ _ _ _ _ _ q=>xor_int q) ha hb
theorem E4:PE X m (.BinOp a .BitOr b pos) (d2 m9 f g):=o2 (Lv λ_ _ _ _ _ _ _ q=>or_int q) ha hb
theorem E5:PE X m (.BinOp a .BitAnd b pos) (d2 qF f g):=o2 (Lv λ_ _ _ _ _ _ _ q=>and_int q) ha hb
theorem MC:PE X m (.Compare a [.Lt] [b] pos) (d2 cz f g):=c2 Mz ha hb (aP _)
theorem MD:PE X m (.Compare a [.LtE] [b] pos) (d2 mJ f g):=c2 MA ha hb (aP _)
theorem ME:PE X m (.Compare a [.Gt] [b] pos) (d2 lC f g):=c2 MB ha hb (aP _)
theorem E6:PE X m (.Compare a [.Eq] [b] pos) (d2 zB f g):=c2 tm ha hb (aP _)
theorem E7:PE X m (.Compare a [.NotEq] [b] pos) (d2 yb f g):=c2 to ha hb (aP _)
theorem MF:PT X (.Compare a [.Lt] [b] pos) (dB (d2 cz f g)):=iY Mz ha hb (aP _)
theorem MG:PT X (.Compare a [.LtE] [b] pos) (dB (d2 mJ f g)):=iY MA ha hb (aP _)
theorem MH:PT X (.Compare a [.Gt] [b] pos) (dB (d2 lC f g)):=iY MB ha hb (aP _)
theorem MI:PT X (.Compare a [.GtE] [b] pos) (dB (d2 Lr f g)):=iY Rn ha hb (aP _)
theorem E8:PT X (.Compare a [.Eq] [b] pos) (dB (d2 zB f g)):=iY tm ha hb (aP _)
theorem E9:PT X (.Compare a [.NotEq] [b] pos) (dB (d2 yb f g)):=iY to ha hb (aP _)
end
theorem MJ(hu:X.A.units+64<ν):Z2 X (QX .Eq) cI:=λB π Z ow s a b d v u I q ra rb=>by
 obtain⟨x,e1,q⟩:=kA.mp q;obtain⟨y,e2,q⟩:=kA.mp q
 split at q<;>cases q
 obtain⟨_,ra⟩:=ra.rd e1;obtain⟨_,rb⟩:=rb.rd e2;exact eq_dataH ra rb (‹_/\_›).1 (‹_/\_›).2 hu ⟨I.sx,.bl⟩
theorem MK(hu:X.A.units+64<ν):Z2 X (QX .NotEq) bZ:=λB π Z ow s a b d v u I q ra rb=>by
 obtain⟨x,e1,q⟩:=kA.mp q;obtain⟨y,e2,q⟩:=kA.mp q
 split at q<;>cases q
 obtain⟨_,ra⟩:=ra.rd e1;obtain⟨_,rb⟩:=rb.rd e2;exact ne_dataH ra rb (‹_/\_›).1 (‹_/\_›).2 hu ⟨I.sx,.bl⟩
def ML(hu:X.A.units+64<ν)(ha:PE X true a f)(hb:PE X true b g):PE X m (.Compare a [.Eq] [b] pos) (d2 cI f g):=c2 (MJ hu) ha hb (aP _)
def MM(hu:X.A.units+64<ν)(ha:PE X true a f)(hb:PE X true b g):PE X m (.Compare a [.NotEq] [b] pos) (d2 bZ f g):=c2 (MK hu) ha hb (aP _)
def MN(hu:X.A.units+64<ν)(ha:PE X true a f)(hb:PE X true b g):PT X (.Compare a [.Eq] [b] pos) (dB (d2 cI f g)):=iY (MJ hu) ha hb (aP _)
def MO(hu:X.A.units+64<ν)(ha:PE X true a f)(hb:PE X true b g):PT X (.Compare a [.NotEq] [b] pos) (dB (d2 bZ f g)):=iY (MK hu) ha hb (aP _)
def RT.nn(r:RT G O h d v)(n:d≠.none):v≠.none:=λe=>by
 subst e;rcases r with r|⟨p,e,_⟩
 ·cases d<;>rw[R] at r<;>first|exact n rfl|exact nomatch r|(obtain⟨_,e⟩:=r;exact nomatch e)|(obtain⟨_,_,e,_⟩:=r;exact nomatch e)|(obtain⟨_,_,_,e,_⟩:=r;exact nomatch e)
 ·cases e
theorem MP:Z2 X (QX .Is) jD:=λB π Z ow s a b d v u I q ra rb=>by
 have:b=.none/\((a=.none/\d=.bool true)\/(a≠.none/\d=.bool false)):=by
  cases b with
  |none=>cases a<;>cases q<;>simp
  |_=>cases a<;>cases q
 obtain⟨rfl,z⟩:=this;have e:u=.none:=by have:=rb.elim id λ⟨_,_,z⟩=>z.elim;rw[R] at this;exact this
 subst e;refine is_none_gen ⟨I.sx,?_⟩;rcases z with⟨rfl,rfl⟩|⟨n,rfl⟩
 ·have e:v=.none:=by have:=ra.elim id λ⟨_,_,z⟩=>z.elim;rw[R] at this;exact this
  subst e;exact .bl
 ·have:=ra.nn n;rw[show(v==QQ)=false from beq_eq_false_iff_ne.mpr this];exact .bl
def F3(ha:PE X true a f)(hb:PE X true b g):PT X (.Compare a [.Is] [b] pos) (dB (d2 jD f g)):=iY MP ha hb (aP _)
def F4(h:PE X true e f)(he:∀tq,isTrue e X.env tq=(do let v <-tq;standAt e.pos;holding [v] (truthy v)):=by intro _;rfl):PT X e (dB f):=λB π Z ow s b I q=>by
 obtain⟨d,q,z⟩:=kA.mp q;refine isTrue_plain (av (h B π Z ow s d I q) λv s1 hw=>?_) (he _);obtain⟨t,r⟩:=hw
 cases d<;>cases z
 rw[r.bl];exact uj ⟨rfl,t⟩
def PW.pt(h:PW X e c):PT X e c:=h _
def nJ(ha:PT X a c):PW X (.BoolOp .And [a] pos) c:=λwh B π Z ow s b I q=>isTrue_and (av (ha B π Z ow s b I q) λr s1 h=>by
 cases r
 ·exact h
 ·exact isTrue_and_nil h)
def F5(ha:PT X a c):PW X (.BoolOp .Or [a] pos) c:=λwh B π Z ow s b I q=>isTrue_or (av (ha B π Z ow s b I q) λr s1 h=>by
 cases r
 ·exact isTrue_or_nil h
 ·exact h)
variable{bz:List Expr}
theorem F6(ha:PT X a c)(hb:PW X (.BoolOp .And (b::bz) pos) c'):PW X (.BoolOp .And (a::b::bz) pos) (bM c c'):=λwh B π Z ow s r I q=>by
 obtain⟨k,qa,q⟩:=kA.mp q;refine isTrue_and (av (ha B π Z ow s k I qa) λk' s1 hw=>?_);obtain⟨e,t⟩:=hw;subst e
 cases k'
 ·grind
 ·exact av (hb wh B π Z ow s1 r t.1 q) λ_ _⟨e,t2⟩=>⟨e,t.trans t2⟩
theorem MQ(ha:PT X a c)(hb:PW X (.BoolOp .Or (b::bz) pos) c'):PW X (.BoolOp .Or (a::b::bz) pos) (cb c c'):=λwh B π Z ow s r I q=>by
 obtain⟨k,qa,q⟩:=kA.mp q;refine isTrue_or (av (ha B π Z ow s k I qa) λk' s1 hw=>?_);obtain⟨e,t⟩:=hw;subst e
 cases k'
 ·exact av (hb wh B π Z ow s1 r t.1 q) λ_ _⟨e,t2⟩=>⟨e,t.trans t2⟩
 ·grind
def F7(ha:PT X a c):PT X (.UnaryOp .Not a pos) (aT c):=λB π Z ow s r I q=>by
 obtain⟨k,qa,q⟩:=kA.mp q
 cases q;exact isTrue_not (av (ha B π Z ow s k I qa) λ_ _⟨e,t⟩=>⟨by rw[e],t⟩)
def F8{op}(h:PE X m a f):PE X m (.BoolOp op [a] pos) f:=λB π Z ow s d I q=>BoolOp_one (h B π Z ow s d I q)
def F9(ha:PE X true a f)(hb:PE X m (.BoolOp .And (b::bz) pos) g):PE X m (.BoolOp .And (a::b::bz) pos) (fi f g):=λB π Z ow s d I q=>by
 obtain⟨k,qa,q⟩:=kA.mp q;obtain⟨x,qa,z⟩:=kA.mp qa;refine BoolOp_and (av (ha B π Z ow s x I qa) λv s1 hw=>?_);obtain⟨t,r⟩:=hw
 cases x<;>cases z
 rw[r.bl];refine uj ?_
 cases k
 ·cases q;exact⟨t,.of .bl⟩
 ·exact av (hb B π Z ow s1 d t.1 q) λ_ _⟨t2,r⟩=>⟨t.trans t2,r⟩
def G1(ha:PE X true a f):PE X m (.UnaryOp .Not a pos) (d1 C9 f):=λB π Z ow s d I q=>by
 obtain⟨x,qa,q⟩:=kA.mp q;refine UnaryOp_ (av (ha B π Z ow s x I qa) λv s1 hw=>?_);obtain⟨t,r⟩:=hw
 cases x<;>cases q
 rw[r.bl];exact not_of (uj ⟨t,.of .bl⟩)
def G2(ha:PE X true a f):PE X m (.UnaryOp .USub a pos) (d1 yC f):=λB π Z ow s d I q=>by
 obtain⟨x,qa,q⟩:=kA.mp q;refine UnaryOp_ (av (ha B π Z ow s x I qa) λv s1 hw=>?_);obtain⟨t,r⟩:=hw
 cases x<;>cases q
 obtain⟨_,rfl⟩:=r.int;exact neg_int ⟨t.trans (t.1.tok _),.of .int⟩
def MS{k:Expr}(hc:PT X k c)(ha:PE X m a f)(hb:PE X m b g):PE X m (.IfExp k a b pos) (C6 c f g):=λB π Z ow s d I q=>by
 obtain⟨r,qa,q⟩:=kA.mp q;refine wpAny_IfExp (av (hc B π Z ow s r I qa) λr' s1 hw=>?_);obtain⟨e,t⟩:=hw;subst e
 cases r'
 ·exact av (hb B π Z ow s1 d t.1 q) λ_ _⟨t2,r⟩=>⟨t.trans t2,r⟩
 ·exact av (ha B π Z ow s1 d t.1 q) λ_ _⟨t2,r⟩=>⟨t.trans t2,r⟩
def cF:PA X m [] ae:=λpos B π Z ow s ds I q=>by cases q;exact QD ⟨I.sx,.nil⟩
def bY(ha:PE X m e f)(hr:PA X m es ga)(n:NS e:=by intro _ _;rfl):PA X m (e::es) (aa f ga):=λpos B π Z ow s ds I q=>by
 obtain⟨x,qa,q⟩:=kA.mp q;obtain⟨y,qb,q⟩:=kA.mp q
 cases q;rw[n];show δ _ _ (spliced ((false,eval e X.env)::ub pos (kh es X.env))) _ _ s;exact uI (av (ha B π Z ow s x I qa) λu s1⟨t1,r1⟩=>av (hr pos B π Z ow s1 y t1.1 qb) λus s2⟨t2,r2⟩=>⟨t1.trans t2,.cons (RM.st t1.1 t2.2 r1) r2⟩)
theorem G4{x1}(h:PA X false es ga):PE X m (.Tuple es x1 pos) (ax ga):=λB π Z ow s d I q=>by
 obtain⟨ds,qa,q⟩:=kA.mp q
 split at q<;>cases q
 refine wpAny_Tuple_spliced (av (h pos B π Z ow s ds I qa) λus s1⟨t,r⟩=>⟨by rw[<-Ba r];assumption,?_⟩)
 have t2:=t.1.kept (t':=s1.toks) λb o=>kK {cls:=.type "tuple",data:=.seq us.toArray};refine⟨t.trans t2,.of ?_⟩;rw[R];exact⟨_,us,rfl,t.1.fresh,Gn _ _,by rw[<-Ba r];assumption,Rs.go (t.1.gd t2.2) _ _ (Yk r)⟩
def Inv.lnew(I:Inv X B π Z ow s)(r:Rs X.toGx (X.O B ow) s.heap ds us)(l:us.length<=ψ){h':Heap}{t' n:Nat}(k:∀b o,s.heap.get? b=some o->h'.get? b=some o)(fr:s.heap.get? q=none)(e:h'.get? q=some (lo us n)):
  Sx X B π Z ow s {s with heap:=h',toks:=t'}/\∃p,uQ q=.ref p/\s.heap.get? p=none/\Top X.toGx (λa=>X.O B ow a\/a=p) h' (Rs X.toGx (λa=>X.O B ow a\/a=p) h') (.list ds) p:=
 ⟨I.kept k,q,rfl,fr,us,n,e,l,Rs.go (λa o e n=>⟨k a o e,λz=>z.elim n λz=>by rw[z,fr] at e;cases e⟩) _ _ r⟩
theorem lH(h:PA X false es ga):PF X (.List es pos) (aK ga):=λB π Z ow s d I q=>by
 obtain⟨ds,qa,q⟩:=kA.mp q
 split at q<;>cases q
 refine Eb (av (h pos B π Z ow s ds I qa) λus s1⟨t,r⟩=>⟨by rw[<-Ba r];assumption,?_⟩)
 obtain⟨t2,p,e,n,r2⟩:=t.1.lnew (t':=s1.toks) (n:=0) (Yk r) (by rw[<-Ba r];assumption) (λb o=>kK (lo us 0)) (pU (pL _)) (ke _ rfl)
 exact⟨t.trans t2,p,e,t.2.free n,r2⟩
theorem Xo{n:Nat}{i:Int}{j:Nat}(h:ixN n i=some j):seqIndex? i n=some j/\j<n/\ -(n:Int)<=i/\i<n:=by
 unfold ixN at h
 split at h
 ·split at h<;>cases h
  exact⟨Du ‹_› ‹_›,by lia,by lia,‹_›⟩
 ·split at h<;>cases h
  exact⟨DJ (by lia) ‹_›,by lia,‹_›,by lia⟩
def cU:(ψ:Nat)<2^63:=by rw[sizeLine_eq];decide
theorem Rs.at{G:Gx}{O:AP}{h:Heap}{i:Int}(r:Rs G O h ds vs)(e:C8 ds i=some d):∃j v,seqIndex? i vs.length=some j/\vs[j]?=some v/\ -(vs.length:Int)<=i/\i<vs.length/\R G O h d v:=by
 obtain⟨j,h1,h2⟩:=kA.mp e;obtain⟨v,h3,h4⟩:=r.get h2;rw[r.len] at h1;obtain⟨z1,_,z2,z3⟩:=Xo h1;exact⟨j,v,z1,h3,z2,z3,h4⟩
theorem MT(ha:PE X true a f)(hb:PE X true b g)(hp:∀o i,subscripted b false o i=operate [o,i] (CV o i):=by exact λ_ _=>rfl):PE X m (.Subscript a b pos) (d2 af f g):=λB π Z ow s d I q=>by
 refine By (av (Po (fn:=Bb a b) ha hb (λB π Z ow s x y d v u I q ra rb=>?_) I q) λ_ _ h1=>av h1 λ_ _ h2=>av h2 λ_ _ h=>⟨h.1,.of h.2⟩);have hn:=cU;unfold af at q
 split at q
 ·obtain⟨t,rfl⟩:=rb.int;obtain⟨p,vs,n,rfl,z,l,r⟩:=ra.lst;obtain⟨j,w,h1,h2,h3,h4,h5⟩:=r.at q;have il:s.heap.IsList p vs.toArray:=⟨_,z,rfl,n,rfl⟩;have fin:Sx X B π Z ow s s/\R X.toGx (X.O B ow) s.heap d w:=⟨I.sx,h5⟩
  rename_i i
  by_cases h0:0<=i
  ·rw[Du h0 h4] at h1;exact item_listR il h0 (by lia) (by rw[pT h1];simpa using h2) fin (hp _ _)
  ·rw[DJ (by lia) h3] at h1
   exact Ar (x:=w) il.typeIs As.lookup (DL (Q:=λr s'=>r=w/\_) il (by lia) (by rw[pA];lia) (by lia) (by rw[pA,pT h1];simpa using h2) ⟨rfl,fin⟩) (hp _ _)
 ·obtain⟨t,rfl⟩:=rb.int;obtain⟨p,vs,rfl,_,z,l,r⟩:=ra.tup;obtain⟨j,w,h1,h2,h3,h4,h5⟩:=r.at q;exact Ar (x:=w) z.typeIs Ec.lookup (getItem_tuple (j:=j) (Q:=λr s'=>r=w/\_) z (by lia) (by lia) (by rw[pA];exact h1) (by simpa using h2) ⟨rfl,I.sx,h5⟩) (hp _ _)
 ·cases q
end
open PySem.W (tabObj)
def Sq(X:Cx)(B:AP)(π:Addr)(ow:Os)(s:kW)(ρ':En)(aJ:Os)(s':kW):Prop:=Inv X B π ρ' aJ s'/\St X.toGx (X.W ow) s s'/\∀a,dW aJ a->dW ow a\/s.heap.get? a=none
def SP(X:Cx)(B:AP)(π:Addr)(ow:Os)(s:kW):Ou->Flow->kW->Prop
 |.nx ρ',.next,s'=>∃aJ,Sq X B π ow s ρ' aJ s'
 |.bk ρ',.brk,s'=>∃aJ,Sq X B π ow s ρ' aJ s'
 |.ct ρ',.cont,s'=>∃aJ,Sq X B π ow s ρ' aJ s'
 |.rt d ρ',.ret v,s'=>∃aJ,Sq X B π ow s ρ' aJ s'/\R X.toGx (X.O B aJ) s'.heap d v
 |_,_,_=>False
def PS(X:Cx)(st:Stmt)(f:En->Option Ou):Prop:=∀B π Z ow s o,Inv X B π Z ow s->f Z=some o->δ (ε X.P X.w) X.A (exec st X.env) (SP X B π ow s o) nE s
def PSs(X:Cx)(st:List Stmt)(f:En->Option Ou):Prop:=∀B π Z ow s o,Inv X B π Z ow s->f Z=some o->δ (ε X.P X.w) X.A (execs st X.env) (SP X B π ow s o) nE s
def PG(X:Cx)(tg:Expr)(h:Dt->En->Option En):Prop:=∀B π Z ow s d ρ' u,Inv X B π Z ow s->R X.toGx (X.O B ow) s.heap d u->h d Z=some ρ'->δ (ε X.P X.w) X.A (assign tg X.env u) (λ_ s'=>∃aJ,Sq X B π ow s ρ' aJ s') nE s
def PGs(X:Cx)(ts:List Expr)(h:List Dt->En->Option En):Prop:=∀B π Z ow s ds ρ' us,Inv X B π Z ow s->Rs X.toGx (X.O B ow) s.heap ds us->h ds Z=some ρ'->δ (ε X.P X.w) X.A (assignInOrder ((Bz ts X.env).map (·.2)) us) (λ_ s'=>∃aJ,Sq X B π ow s ρ' aJ s') nE s
def ca(ow:Os)(i:Nat)(S:AP):Os:=λj a=>(j=i/\S a)\/(j≠i/\ow j a)
variable{body:List Stmt}
section
variable{X:Cx}{B S:AP}{π:Addr}{Z ρ' bA:En}{ow aJ fo:Os}{s s' s1 s2:kW}{m:Bool}{a b e tg:Expr}{es:List Expr}{f g:En->Option Dt}{F H:En->Option Ou}{c:En->Option Bool}{h:Dt->En->Option En}{hs:List Dt->En->Option En}{pos a8:Pos}{x:Str}{d:Dt}{ds:List Dt}{u:kL}{us:List kL}{p:Addr}{i:Nat}{sl:Sl}{o:Ou}{fl:Flow}{st:Stmt}{bz:List Stmt}
def Sq.refl(I:Inv X B π Z ow s):Sq X B π ow s Z ow s:=⟨I,.refl,λ_=>.inl⟩
def Sx.sq(t:Sx X B π Z ow s s'):Sq X B π ow s Z ow s':=⟨t.1,t.2.up,λ_=>.inl⟩
def Sq.w(q:Sq X B π ow s bA fo s1):∀a,X.W fo a->X.W ow a\/s.heap.get? a=none:=λa z=>z.elim (λz=>(q.2.2 a z).imp .inl id) λz=>.inl (.inr z)
def Sq.trans(q:Sq X B π ow s bA fo s1)(k:Sq X B π fo s1 ρ' aJ s'):Sq X B π ow s ρ' aJ s':=⟨k.1,q.2.1.trans k.2.1 q.w,λa z=>(k.2.2 a z).elim (q.2.2 a) λn=>.inr (q.2.1.free n)⟩
def Sq.sp(q:Sq X B π ow s bA fo s1)(k:SP X B π fo s1 o fl s2):SP X B π ow s o fl s2:=by
 cases o<;>cases fl<;>first|exact k.elim|(obtain⟨w,k⟩:=k;exact⟨w,q.trans k⟩)|(obtain⟨w,k,r⟩:=k;exact⟨w,q.trans k,r⟩)
def Sq.gd(I:Inv X B π Z ow s)(q:Sq X B π ow s ρ' aJ s'):Gd (X.O B ow) s.heap (X.O B aJ) s'.heap:=λa o e n=>⟨q.2.1.kp a o e (λz=>n (z.elim (λz=>.inr (.inl z)) λz=>.inr (.inr (z.imp id (·.2))))) λz=>n (.inl (I.bt a z)),λz=>by
 rcases z with z|z|z
 ·exact n (.inl z)
 ·exact(q.2.2 a z).elim (λz=>n (.inr (.inl z))) λz=>by rw[z] at e;cases e
 ·exact n (.inr (.inr z))⟩
def zcu{N:List Str}(hN:N.Nodup){i j:Nat}{x:Str}(a:N[i]?=some x)(b:N[j]?=some x):i=j:=by
 obtain⟨h1,e1⟩:=kH.mp a;obtain⟨h2,e2⟩:=kH.mp b;exact(Cu hN).mp (e1.trans e2.symm)
theorem XZ(Z:En)(i j:Nat)(sl sk:Sl)(e:(Z.set i sl)[j]?=some sk):(j=i/\sk=sl)\/(j≠i/\Z[j]?=some sk):=by
 rw[gY] at e
 split at e
 ·split at e
  ·cases e;exact .inl ⟨by lia,rfl⟩
  ·cases e
 ·exact .inr ⟨by lia,e⟩
def Cx.O.put(z:X.O B (ca ow i S) p):X.O (λa=>B a\/S a) ow p:=by
 rcases z with z|⟨j,⟨_,z⟩|⟨_,z⟩⟩|z
 ·exact .inl (.inl z)
 ·exact .inl (.inr z)
 ·exact .inr (.inl ⟨j,z⟩)
 ·exact .inr (.inr z)
def store(I:Inv X (λa=>B a\/S a) π Z ow s)(hN:X.N.Nodup)(hi:X.N[i]?=some x)(hx:X.env.scope.names.lookup x=some .local\/(X.fn=true/\X.env.scope.names.lookup x=some .cell))
  (hS:∀a,S a->(∃o,s.heap.get? a=some o/\∀z,o.data≠.fields z)/\¬B a/\a≠X.env.locals/\¬X.cel a/\¬dW ow a)(hr:∀a,X.rb a->B a)
  (k:∀h' mm,zX X.env h' mm x u->Gd (X.O (λa=>B a\/S a) ow) s.heap (X.O B (ca ow i S)) h'->(∀a o,S a->s.heap.get? a=some o->h'.get? a=some o)->Sk X B π (ca ow i S) h' mm x i sl):
  δ (ε X.P X.w) X.A (FN X.env x u) (λ_ s'=>Inv X B π (Z.set i sl) (ca ow i S) s'/\St X.toGx (X.W ow) s s') nE s:=by
 obtain⟨mm,hn,sk⟩:=id I.loc;have hiρ:i<Z.length:=by rw[I.len];exact(kH.mp hi).1
 have Ro:(X.env.scope.kind==.class||(X.env.scope.kind==.module&&X.env.locals !=X.env.globals))=false:=by rw[I.ok.kind];rfl
 have fin:∀{t':Nat}(w:Addr)(h':Heap)(nH:Str->Option kL),(w=X.env.locals\/(X.fn=true/\X.env.cells.lookup x=some w))->Qc w s.heap h'->h'.Ns X.env.locals nH->zX X.env h' nH x u->(∀y v,y≠x->zX X.env s.heap mm y v->zX X.env h' nH y v)->(∀y c,X.env.cells.lookup y=some c->∃v,h'.IsCell c v)->
   Inv X B π (Z.set i sl) (ca ow i S) {s with heap:=h',toks:=t'}/\St X.toGx (X.W ow) s {s with heap:=h',toks:=t'}:=λ{t'} w h' nH hw sb nM lx ly hc=>by
  have wO:X.O (λa=>B a\/S a) ow w:=hw.elim (λz=>.inr (.inr (.inl z))) λz=>.inr (.inr (.inr ⟨x,z.2⟩));have nt:¬X.T w:=by rcases hw with rfl|hw;exact I.ntL;exact I.ntC hw.2
  have kp:∀a o,a≠w->s.heap.get? a=some o->h'.get? a=some o:=λa o n e=>(sb.2 a n).trans e;have g:Gd (X.O (λa=>B a\/S a) ow) s.heap (X.O B (ca ow i S)) h':=λa o e n=>⟨kp a o (λz=>n (z▸wO)) e,λz=>n z.put⟩;have wS:∀{a},S a->a≠w:=λz q=>by
   obtain⟨_,_,n1,n2,_⟩:=hS _ z;rcases hw with hw|hw
   ·exact n1 (q.trans hw)
   ·exact n2 ⟨x,q▸hw.2⟩
  have wo:∀{j a},ow j a->a≠w:=λz q=>by
   obtain⟨_,_,n1,n2⟩:=I.own _ _ z;rcases hw with hw|hw
   ·exact n1 (q.trans hw)
   ·exact n2 ⟨x,q▸hw.2⟩
  have ex:∀a o,s.heap.get? a=some o->∃o',h'.get? a=some o':=λa o e=>by
   by_cases z:a=w
   ·subst z;rcases hw with rfl|hw
    ·obtain⟨o,_,_,e,_⟩:=nM;exact⟨o,e⟩
    ·obtain⟨_,o,e,_⟩:=hc x a hw.2;exact⟨o,e⟩
   ·exact⟨o,kp a o z e⟩
  refine⟨⟨I.ok,I.ge,λb o e=>kp b o (λz=>I.fr e (z▸wO)) (I.base b o e),λa z=>I.bo a z.put,λa z=>(I.bt a z).elim id λy=>?_,λt m=>?_,λa z=>let⟨o,e⟩:=I.bd a (.inl z);ex a o e,λa z=>⟨hr a z,(I.rb a z).2⟩,⟨nH,nM,λj y MU h1 h2=>?_⟩,hc,by rw[UP];exact I.len,λj k a z1 z2=>?_,λj a z=>?_⟩,⟨rfl,λa o e n _=>kp a o (λz=>n (z▸hw.elim (λz=>.inr (.inl z)) λz=>.inr (.inr ⟨z.1,x,z.2⟩))) e,ex,λa ps z e=>⟨#[],by rw[kp a _ (λq=>nt (q▸z)) e];simp⟩⟩⟩
  ·obtain⟨⟨o,e,nf⟩,_⟩:=hS a y;exact(I.nt e nf z).elim
  ·exact(I.tb t m).go (λa z=>.inl z.put) (λb o e n=>kp b o (λz=>n (z▸wO)) e) λo e=>kp _ o (λz=>nt ⟨t,m,z⟩) e
  ·rcases XZ Z i j sl MU h2 with⟨rfl,rfl⟩|⟨hj,h2⟩
   ·rw[hi] at h1;cases h1;exact k h' nH lx g λa o z e=>kp a o (wS z) e
   ·have ny:y≠x:=λz=>hj (zcu hN h1 (z▸hi));refine(sk j y MU h1 h2).go (by funext a;exact propext ⟨λz=>z.elim (λz=>absurd z.1 hj) (·.2),λz=>.inr ⟨hj,z⟩⟩) g (λv=>ly y v ny) (λa o z e=>kp a o (wo z) e) (λp o n e _=>kp p o (λz=>?_) e) λp o _=>Cx.O.put
    obtain⟨_,n1,n2⟩:=I.rb p (n (z▸wO));exact hw.elim (λq=>n1 (z.trans q)) λq=>n2 ⟨x,z▸q.2⟩
  ·rcases z1 with⟨rfl,z1⟩|⟨n1,z1⟩<;>rcases z2 with⟨rfl,z2⟩|⟨n2,z2⟩
   ·rfl
   ·exact((hS a z1).2.2.2.2 ⟨_,z2⟩).elim
   ·exact((hS a z2).2.2.2.2 ⟨_,z1⟩).elim
   ·exact I.inj j k a z1 z2
  ·rcases z with⟨rfl,z⟩|⟨_,z⟩
   ·obtain⟨⟨o,e,nf⟩,n1,n2,n3,_⟩:=hS a z;exact⟨⟨o,kp a o (wS z) e,nf⟩,n1,n2,n3⟩
   ·obtain⟨⟨o,e,nf⟩,n1,n2⟩:=I.own j a z;exact⟨⟨o,kp a o (wo z) e,nf⟩,λz=>n1 (.inl z),n2⟩
 have Rp:∀y c,X.env.cells.lookup y=some c->c≠X.env.locals:=λy c e z=>by
  obtain⟨_,o,ho,hd⟩:=I.cell y c e;obtain⟨o',_,_,tu,iZ,_⟩:=hn;rw[z,tu] at ho;cases ho;rw[iZ] at hd;cases hd
 rcases hx with hk|⟨hf,hk⟩
 ·refine Dh hk hn (λh' nM hs=>fin _ h' _ (.inl rfl) hs nM (.inl ⟨hk,by simp⟩) (λy v ny l=>?_) λy c e=>?_) Ro
  ·rcases l with⟨k,e⟩|⟨k,c,e,z⟩
   ·exact .inl ⟨k,by simp[ny,e]⟩
   ·exact .inr ⟨k,c,e,z.sameBut hs (Rp y c e)⟩
  ·obtain⟨v,z⟩:=I.cell y c e;exact⟨v,z.sameBut hs (Rp y c e)⟩
 ·obtain⟨c,hc⟩:=I.ok.has x (.inl hk);obtain⟨w',z⟩:=I.cell x c hc;refine wpAny_storeName_cell I.ok.kind hk hc z λh' G5 hs=>fin c h' mm (.inr ⟨hf,hc⟩) hs (hn.sameBut hs (UR (Rp x c hc))) (.inr ⟨.inl hk,c,hc,G5⟩) (λy v ny l=>?_) λy c' e=>?_
  ·rcases l with l|⟨k,c',e,z⟩
   ·exact .inl l
   ·exact .inr ⟨k,c',e,z.sameBut hs λq=>ny (I.ok.inj _ _ _ e (q▸hc))⟩
  ·by_cases q:c'=c
   ·subst q;exact⟨_,G5⟩
   ·obtain⟨v,z⟩:=I.cell y c' e;exact⟨v,z.sameBut hs q⟩
def XD(I:Inv X B π Z ow s)(hN:X.N.Nodup)(hi:X.N[i]?=some x)(hx:X.env.scope.names.lookup x=some .local\/(X.fn=true/\X.env.scope.names.lookup x=some .cell))(r:R X.toGx (X.O B ow) s.heap d u):δ (ε X.P X.w) X.A (FN X.env x u) (λ_ s'=>∃aJ,Sq X B π ow s (Z.set i (.fz d)) aJ s') nE s:=by
 have J:Inv X (λa=>B a\/bG a) π Z ow s:=I.less (λa z=>z.elim id UO) (λa z=>.inl (I.bt a z)) λa z=>.inl (I.rb a z).1;refine av (store (S:=bG) (sl:=.fz d) J hN hi hx (λa z=>z.elim) (λa z=>(I.rb a z).1) λh' mm l g _=>⟨u,l,R.go g _ _ (R.go (Gd.less λa z=>Cx.O.mono (λ_ z=>z.elim id UO) z) _ _ r)⟩) λ_ s'⟨J,t⟩=>⟨_,J,t,λa⟨j,z⟩=>z.elim (λz=>z.2.elim) λz=>.inl ⟨j,z.2⟩⟩
def G6(I:Inv X B π Z ow s)(J:Sx X B π Z ow s s1)(hN:X.N.Nodup)(hi:X.N[i]?=some x)(hx:X.env.scope.names.lookup x=some .local\/(X.fn=true/\X.env.scope.names.lookup x=some .cell))(n:s.heap.get? p=none)(r:Top X.toGx (λa=>X.O B ow a\/a=p) s1.heap (Rs X.toGx (λa=>X.O B ow a\/a=p) s1.heap) d p):δ (ε X.P X.w) X.A (FN X.env x (.ref p)) (λ_ s'=>∃aJ,Sq X B π ow s (Z.set i (.ow false 1 d)) aJ s') nE s1:=by
 have K:=I.newp (B':=λa=>a=p) J (λa z=>by rw[z];exact n) λa z=>by subst z;exact r.get
 have g0:Gd (λa=>X.O B ow a\/a=p) s1.heap (X.O (λa=>B a\/a=p) ow) s1.heap:=Gd.less λa z=>z.elim (λz=>z.elim (λz=>.inl (.inl z)) .inr) λz=>.inl (.inr z);have np:¬X.O B ow p:=I.apart n;refine av (store (S:=λa=>a=p) (sl:=.ow false 1 d) K hN hi hx (λa z=>by subst z;exact⟨r.get,λz=>np (.inl z),λz=>np (.inr (.inr (.inl z))),λz=>np (.inr (.inr (.inr z))),λz=>np (.inr (.inl z))⟩) (λa z=>(I.rb a z).1) λh' mm l g k=>⟨p,l,nofun,λa=>⟨λz=>z.elim (·.2) λz=>absurd rfl z.1,λz=>.inl ⟨rfl,z⟩⟩,r.imp (g0.trans g) (λo=>k p o rfl) λ_ _=>Rs.go (g0.trans g) _ _⟩) λ_ s'⟨J',t⟩=>⟨_,J',J.2.up.trans t λa=>.inl,λa⟨j,z⟩=>z.elim (λz=>.inr (by rw[z.2];exact n)) λz=>.inl ⟨j,z.2⟩⟩
def nN:PSs X [] aO:=λB π Z ow s o I q=>by cases q;exact Qt ⟨ow,.refl I⟩
def lI(h1:PS X st F)(h2:PSs X bz H):PSs X (st::bz) (ag F H):=λB π Z ow s o I q=>by
 obtain⟨o1,q1,q⟩:=kA.mp q;refine uw (av (h1 B π Z ow s o1 I q1) λfl s1 k=>?_)
 cases o1<;>cases fl<;>first|exact k.elim|(cases q;exact k)|skip
 obtain⟨w,k⟩:=k;exact av (h2 B π _ w s1 o k.1 q) λ_ _ z=>k.sp z
theorem nP(h1:PS X st F):PSs X [st] F:=λB π Z ow s o I q=>uw (av (h1 B π Z ow s o I q) λfl s1 k=>by
 cases fl with
 |next=>exact Qt k
 |_=>exact k)
def G7(he:PE X false e f):PS X (.Return (some e) pos) (aC f):=λB π Z ow s o I q=>by
 obtain⟨d,q1,z⟩:=kA.mp q
 cases z;exact CW (av (he B π Z ow s d I q1) λv s1⟨t,r⟩=>⟨ow,t.sq,r⟩)
def MV{k:Expr}{sa sb:List Stmt}(hc:PT X k c)(ha:PSs X sa F)(hb:PSs X sb H):PS X (.If k sa sb pos) (au c F H):=λB π Z ow s o I q=>by
 obtain⟨r,q1,q⟩:=kA.mp q;refine wpAny_If (av (hc B π Z ow s r I q1) λr' s1 hw=>?_);obtain⟨e,t⟩:=hw;subst e
 cases r'
 ·exact av (hb B π Z ow s1 o t.1 q) λ_ _ z=>t.sq.sp z
 ·exact av (ha B π Z ow s1 o t.1 q) λ_ _ z=>t.sq.sp z
def lJ:PS X st qi:=λB π Z ow s o I q=>nomatch q
def MW(i:Nat)(hN:X.N.Nodup)(he:PE X false e f)(hi:X.N[i]?=some x:=by rfl)(hx:X.env.scope.names.lookup x=some .local\/(X.fn=true/\X.env.scope.names.lookup x=some .cell):=by first|exact .inl rfl|exact .inr ⟨rfl,rfl⟩)(hs:QY e (some (.Name x a8)) pos.line X.env=pure false:=by rfl):PS X (.Assign [.Name x a8] e pos) (ak i f):=λB π Z ow s o I q=>by
 obtain⟨d,q1,z⟩:=kA.mp q
 cases z;exact Qo (av (he B π Z ow s d I q1) λv s1⟨t,r⟩=>av (XD t.1 hN hi hx r) λ_ s2⟨w,k⟩=>⟨w,t.sq.trans k⟩) hs
def MX(i:Nat)(hN:X.N.Nodup)(he:PF X e f)(hi:X.N[i]?=some x:=by rfl)(hx:X.env.scope.names.lookup x=some .local\/(X.fn=true/\X.env.scope.names.lookup x=some .cell):=by first|exact .inl rfl|exact .inr ⟨rfl,rfl⟩)(hs:QY e (some (.Name x a8)) pos.line X.env=pure false:=by rfl):PS X (.Assign [.Name x a8] e pos) (aU i f):=λB π Z ow s o I q=>by
 obtain⟨d,q1,z⟩:=kA.mp q
 cases z;exact Qo (av (he B π Z ow s d I q1) λv s1⟨t,p,e,n,r⟩=>by subst e;exact G6 I t hN hi hx n r) hs
theorem RW.r{G:Gx}{O O':AP}{h:Heap}(i:∀a,O' a->O a/\¬S a):∀{n},RW G O h S n d p->R G O' h d (.ref p)
 |1,⟨q,t⟩=>R.top (t.imp (Gd.less λa z=>(i a z).1) (λ_ e=>e) λ_ _=>Rs.go (Gd.less λa z=>(i a z).1) _ _) λz=>(i p z).2 ((q p).mpr rfl)
 |2,⟨qs,q,nd,t⟩=>R.top (t.imp (Gd.less λa z=>(i a z).1) (λ_ e=>e) λds vs⟨e1,e2,k⟩=>Rs.of (by rw[e1,kJ];exact e2) λj d v h1 h2=>by
   rw[e1,kY] at h2;obtain⟨r,h3,rfl⟩:=uO.mp h2;exact R.top ((k j d r h1 h3).imp (Gd.less λa z=>(i a z).1) (λ_ e=>e) λ_ _=>Rs.go (Gd.less λa z=>(i a z).1) _ _) λz=>(i r z).2 ((q r).mpr (.inr (kg h3)))) λz=>(i p z).2 ((q p).mpr (.inl rfl))
def Inv.slot(I:Inv X B π Z ow s)(i:Nat)(cV:Sl)(k:∀x sl mm,Z[i]?=some sl->Sk X B π ow s.heap mm x i sl->Sk X B π (ca ow i bG) s.heap mm x i cV):Inv X B π (Z.set i cV) (ca ow i bG) s:=by
 have om:∀{a},X.O B (ca ow i bG) a->X.O B ow a:=λz=>by
  rcases z with z|⟨j,z|z⟩|z
  ·exact .inl z
  ·exact z.2.elim
  ·exact .inr (.inl ⟨j,z.2⟩)
  ·exact .inr (.inr z)
 obtain⟨U4,hn0,U5⟩:=I.loc;refine⟨I.ok,I.ge,I.base,λa z=>I.bo a (om z),I.bt,λt q=>(I.tb t q).go (λa z=>.inl (om z)) (λ_ _ e _=>e) λ_ e=>e,I.bd,I.rb,⟨U4,hn0,λj x MU h1 h2=>?_⟩,I.cell,by rw[UP];exact I.len,λj k a z1 z2=>I.inj j k a (z1.elim (λz=>z.2.elim) (·.2)) (z2.elim (λz=>z.2.elim) (·.2)),λj a z=>I.own j a (z.elim (λz=>z.2.elim) (·.2))⟩
 rcases XZ Z i j cV MU h2 with⟨rfl,rfl⟩|⟨hj,h2⟩
 ·have:j<Z.length:=by rw[I.len];exact(kH.mp h1).1
  exact k x _ U4 (kC this) (U5 j x _ h1 (kC this))
 ·exact(U5 j x MU h1 h2).go (by funext a;exact propext ⟨λz=>z.elim (λz=>absurd z.1 hj) (·.2),λz=>.inr ⟨hj,z⟩⟩) (Gd.less λa=>om) (λ_ z=>z) (λ_ _ _ e=>e) (λ_ _ _ e _=>e) λ_ _ _=>om
theorem Inv.frz(I:Inv X B π Z ow s)(i:Nat):∃aJ,Inv X B π (Z.modify i dq) aJ s/\∀a,dW aJ a->dW ow a:=by
 by_cases c:∃io n d,Z[i]?=some (.ow io n d)
 ·obtain⟨io,n,d,e⟩:=c;have em:Z.modify i dq=Z.set i (.fz d):=by
   refine QU λj=>?_;rw[Dv,gY]
   by_cases q:i=j
   ·subst q;rw[θ rfl,θ (kH.mp e).1,e];simp[dq]
   ·simp[q]
  refine⟨ca ow i bG,?_,λa⟨j,z⟩=>⟨j,z.elim (λz=>z.2.elim) (·.2)⟩⟩;rw[em];refine I.slot i _ λx sl mm e' k=>?_;rw[e] at e';cases e';obtain⟨p,l,_,r⟩:=k;refine⟨_,l,r.r λa z=>?_⟩;rcases z with z|⟨j,z|z⟩|z
  ·exact⟨.inl z,λy=>(I.own i a y).2.1 z⟩
  ·exact z.2.elim
  ·exact⟨.inr (.inl ⟨j,z.2⟩),λy=>z.1 (I.inj _ _ a z.2 y)⟩
  ·exact⟨.inr (.inr z),λy=>z.elim (I.own i a y).2.2.1 (I.own i a y).2.2.2⟩
 ·have em:Z.modify i dq=Z:=by
   refine QU λj=>?_;rw[Dv]
   by_cases q:i=j
   ·subst q
    cases e:Z[i]? with
    |none=>simp
    |some sl=>cases sl<;>first|(simp[dq];done)|exact(c ⟨_,_,_,e⟩).elim
   ·simp[q]
  rw[em];exact⟨ow,I,λ_ z=>z⟩
def MY(i:Nat)(h:PS X st F):PS X st (cm i F):=λB π Z ow s o I q=>by
 obtain⟨w,J,k⟩:=I.frz i;exact av (h B π _ w s o J q) λ_ _ z=>Sq.sp ⟨J,.refl,λa z=>.inl (k a z)⟩ z
theorem Inv.fgt:∀(fg:List Nat){Z:En}{ow:Os},Inv X B π Z ow s->∃aJ,Inv X B π (fgt fg Z) aJ s/\∀a,dW aJ a->dW ow a
 |[],Z,ow,I=>⟨ow,I,λ_ z=>z⟩
 |i::fg,Z,ow,I=>by
  obtain⟨w,J,k⟩:=Inv.fgt fg (I.slot i .un λ_ _ _ _ _=>trivial);exact⟨w,J,λa z=>let⟨j,z⟩:=k a z;⟨j,z.elim (λz=>z.2.elim) (·.2)⟩⟩
def MZ(i:Nat)(hN:X.N.Nodup)(hi:X.N[i]?=some x:=by rfl)(hx:X.env.scope.names.lookup x=some .local\/(X.fn=true/\X.env.scope.names.lookup x=some .cell):=by first|exact .inl rfl|exact .inr ⟨rfl,rfl⟩):PG X (.Name x pos) (gN i):=λB π Z ow s d ρ' u I r q=>by
 cases q;exact El (XD I hN hi hx r)
def nQ:PGs X [] bJ:=λB π Z ow s ds ρ' us I r q=>by
 cases ds<;>cases q
 rw[Rs] at r;subst r;exact assignInOrder_nil ⟨ow,.refl I⟩
theorem lL(h1:PG X e h)(h2:PGs X es hs)(he:(Bz (e::es) X.env).map (·.2)=assign e X.env::(Bz es X.env).map (·.2):=by rfl):PGs X (e::es) (aG h hs):=λB π Z ow s ds ρ' us I r q=>by
 cases ds with
 |nil=>cases q
 |cons d ds=>
  obtain⟨bA,q1,q⟩:=kA.mp q;rw[Rs] at r;obtain⟨v,us,rfl,r1,r2⟩:=r;rw[he];exact assignInOrder_cons (av (h1 B π Z ow s d bA v I r1 q1) λ_ s1⟨w,k⟩=>av (h2 B π bA w s1 ds ρ' us k.1 (Rs.go (Sq.gd I k) _ _ r2) q) λ_ s2⟨w2,k2⟩=>⟨w2,k.trans k2⟩)
theorem G8{k:Nat}(n:Nat)(h:PGs X es hs)(hn:(Bz es X.env).length=n:=by rfl)(fV:(Bz es X.env).findIdx? (·.1)=none:=by rfl):PG X (.Tuple es k pos) (gT n hs):=λB π Z ow s d ρ' u I r q=>by
 obtain⟨ds,q1,q2⟩:=kA.mp q
 split at q2
 ·rename_i dl
  cases d<;>cases q1
  rw[R] at r;obtain⟨p,vs,rfl,_,ht,_,r⟩:=r;refine assign_Tuple_tuple I.ok.hd ht (by rw[hn,pA,<-r.len,dl]) fV λh' hx=>?_
  have t:=I.kept (t':=s.toks) λb o e=>hx b o (ut (po e)) e;exact av (h B π Z ow _ ds ρ' _ t.1 (by simpa using Rs.go (I.gd t.2) _ _ r) q2) λ_ s2⟨w,k⟩=>⟨w,t.sq.trans k⟩
 ·cases q2
def G9(he:PE X false e f)(hg:PG X tg h)(hs:swapsWithSole [tg] e pos.line X.env=pure false:=by rfl)(hw:swappedStores [tg] e X.env=pure none:=by rfl)(h1:(Bz [tg] X.env).map (·.2)=[assign tg X.env]:=by rfl):PS X (.Assign [tg] e pos) (yM f h):=λB π Z ow s o I q=>by
 obtain⟨d,q1,q⟩:=kA.mp q;obtain⟨ρ',q2,q⟩:=kA.mp q
 cases q;refine wpAny_Assign_stores (av (he B π Z ow s d I q1) λv s1 hw=>?_) hs hw;obtain⟨t,r⟩:=hw;rw[h1];exact av (hg B π Z ow s1 d ρ' v t.1 r q2) λ_ s2⟨w,k⟩=>⟨w,t.sq.trans k⟩
def Ha(i:Nat)(hN:X.N.Nodup){op:Operator}{k:Dt->Dt->Option Dt}(hk:Z2 X (inplaceOp op) k)(he:PE X true e f)(hi:X.N[i]?=some x:=by rfl)(hx:X.env.scope.names.lookup x=some .local\/(X.fn=true/\X.env.scope.names.lookup x=some .cell):=by first|exact .inl rfl|exact .inr ⟨rfl,rfl⟩)(cE:(x==("__classdict__":Str))=false:=by decide):PS X (.AugAssign (.Name x a8) op e pos) (fT i k f):=λB π Z ow s o I q=>by
 obtain⟨d,q0,z⟩:=kA.mp q;obtain⟨y,q1,q0⟩:=kA.mp q0;obtain⟨z',q2,q0⟩:=kA.mp q0;obtain⟨sl,e1,e2⟩:=kA.mp q1;obtain⟨mm,hn,sk⟩:=I.look hi e1
 cases z
 cases sl<;>cases e2
 obtain⟨v,l,r⟩:=sk;exact wpAny_AugAssign_Name (ld I hn l (av (he B π Z ow s z' I q2) λw s1⟨t1,r1⟩=>av (hk B π Z ow s1 y z' d v w t1.1 q0 (.inl (R.go (I.gd t1.2) _ _ r)) r1) λz s2⟨t2,r2⟩=>av (XD t2.1 hN hi hx r2) λ_ s3⟨w,k⟩=>⟨w,(t1.trans t2).sq.trans k⟩) cE)
def Hb:Z2 X (inplaceOp .Add) zN:=Lv λ_ _ _ _ _ _ _ q=>iadd_int q
theorem lM(n:Nat)(fg:List Nat)(hc:PT X e c)(hb:PSs X body F):PS X (.While e body [] pos) (wm n fg c F):=λB π Z ow s o I q=>by
 refine wpAny_While (Em (λk s'=>∃ρ' aJ,Sq X B π ow s ρ' aJ s'/\cJ fg c F k ρ'=some o) ?_ n ⟨Z,ow,.refl I,q⟩);rintro k s1 ⟨bA,fo,k1,q1⟩
 cases k with
 |zero=>cases q1
 |succ k=>
  unfold cJ at q1;obtain⟨t,q2,q1⟩:=kA.mp q1;refine Qu .never (av (hc B π bA fo s1 t k1.1 q2) λr s2 hw=>?_);obtain⟨e,t2⟩:=hw;subst e
  cases r with
  |false=>cases q1;exact Qt ⟨fo,k1.trans t2.sq⟩
  |true=>
   obtain⟨o2,q3,q1⟩:=kA.mp q1;rw[θ rfl];refine Qu .never (av (hb B π bA fo s2 o2 t2.1 q3) λfl s3 z=>?_);have go:∀{b9},(∃w,Sq X B π fo s2 b9 w s3)->cJ fg c F k (L2.fgt fg b9)=some o->∃m,m<k+1/\∃ρ' aJ,Sq X B π ow s ρ' aJ s3/\cJ fg c F m ρ'=some o:=λ{b9}⟨w,z⟩ q=>by
    obtain⟨w2,J,y⟩:=Inv.fgt fg z.1;exact⟨k,BU k,_,w2,(k1.trans t2.sq).trans (z.trans ⟨J,.refl,λa z=>.inl (y a z)⟩),q⟩
   cases o2<;>cases fl<;>first|exact z.elim|exact go z q1|(cases q1;exact(k1.trans t2.sq).sp z)
end
def Nx(F:AP)(s s':kW):Prop:=∃h' tk,s'={s with heap:=h',toks:=tk}/\∀b o,¬F b->s.heap.get? b=some o->h'.get? b=some o
structure Wk(X:Cx)(tg:Expr)(it:Addr)(F L:AP)(ds:List Dt)(tn:Nat->AP->Heap->Prop):Prop where
 le:ds.length<=ψ
 keep:∀i O h O' h',tn i O h->Gd O h O' h'->(∀a o,F a\/L a->h.get? a=some o->h'.get? a=some o)->tn i O' h'
 item:∀i d O s,tn i O s.heap->(∀a,F a->O a)->(∀a,O a->∃o,s.heap.get? a=some o)->ds[i]?=some d->δ (ε X.P X.w) X.A (AO (.ref it)) (λr s1=>∃u,r=some u/\δ (ε X.P X.w) X.A (Bi tg (.ref it) u) (λ_ s2=>tn (i+1) O s2.heap/\R X.toGx O s2.heap d u/\Nx F s s2/\∀a,F a->∃o,s2.heap.get? a=some o) nE s1) nE s
 done:∀O s,tn ds.length O s.heap->(∀a,F a->O a)->δ (ε X.P X.w) X.A (AO (.ref it)) (λr s1=>r=none/\Nx F s s1) nE s
 self:∀A i O s Q E,tn i O s.heap->Q (.ref it) s->δ (ε X.P X.w) A (GL (.ref it)) Q E s
def PI(X:Cx)(m:Bool)(tg a9:Expr)(g:En->Option (List Dt)):Prop:=∀B π Z ow s ds,Inv X B π Z ow s->g Z=some ds->δ (ε X.P X.w) X.A (eval a9 X.env) (λv s1=>δ (ε X.P X.w) X.A (GL v) (λM3 s2=>∃it F L tn,M3=.ref it/\Inv X (λa=>B a\/F a) π Z ow s2/\St X.toGx bG s s2/\(∀a,F a->s.heap.get? a=none)/\(m=false->∀a,¬L a)/\(∀a,L a->X.O B ow a/\¬X.T a)/\Wk X tg it F L ds tn/\tn 0 (X.O (λa=>B a\/F a) ow) s2.heap) nE s1) nE s
section
variable{X:Cx}{B F L:AP}{π:Addr}{Z ρ' bA:En}{ow aJ fo:Os}{s s' s1 s2:kW}{m:Bool}{a b e tg a9:Expr}{es:List Expr}{f g:En->Option Dt}{ga:En->Option (List Dt)}{Fs:En->Option Ou}{h:Dt->En->Option En}{pos p iK:Pos}{d:Dt}{ds:List Dt}{u:kL}{us vs:List kL}{l it:Addr}
def Inv.nx{B':AP}(I:Inv X B π Z ow s)(fB:∀a,F a->B a)(k:Nx F s s')(nf:∀a,(a=X.env.locals\/X.cel a\/X.T a\/X.rb a)->¬F a)(i:∀a,B' a->B a)(ex:∀a,B' a->F a->∃o,s'.heap.get? a=some o)(b:∀a,X.T a\/X.rb a->B' a):Inv X B' π Z ow s':=by
 obtain⟨h',tk,rfl,kp⟩:=k;refine I.go (V:=F) (λa o e n=>kp a o n e) fB (nf _ (.inl rfl)) (λa z=>nf a (.inr (.inl z))) (λa _ z _ _=>nf a (.inr (.inr (.inr z)))) (λa z=>.inl (i a z)) (λa z=>b a (.inl z)) (λa z=>b a (.inr z)) (λa z=>?_) I.ge λt m=>(I.tb t m).go (λa z=>.inl (Cx.O.mono i z)) (λb o e n=>kp b o (λz=>n (.inl (fB b z))) e) λo e=>kp _ o (nf _ (.inr (.inr (.inl ⟨t,m,rfl⟩)))) e
 by_cases q:F a
 ·exact ex a z q
 ·obtain⟨o,e⟩:=I.bd a (i a z);exact⟨o,kp a o q e⟩
def Inv.nf(I:Inv X B π Z ow s)(n:∀a,F a->s.heap.get? a=none):∀a,(a=X.env.locals\/X.cel a\/X.T a\/X.rb a)->¬F a:=λa z y=>I.apart (n a y) (by
 rcases z with z|z|z|z
 ·exact .inr (.inr (.inl z))
 ·exact .inr (.inr (.inr z))
 ·exact .inl (I.bt a z)
 ·exact .inl (I.rb a z).1)
def Nx.st{G:Gx}{W:AP}{s0:kW}(t:St G W s0 s)(k:Nx F s s')(n:∀a,F a->s0.heap.get? a=none):St G W s0 s':=by
 obtain⟨h',tk,rfl,kp⟩:=k;have nF:∀{a o},s0.heap.get? a=some o->¬F a:=λe z=>by rw[n _ z] at e;cases e
 exact⟨t.os,λa o e n nt=>kp a o (nF e) (t.kp a o e n nt),λa o e=>let⟨o',q⟩:=t.ex a o e;⟨o',kp a _ (nF e) q⟩,λa ps z e=>let⟨m,q⟩:=t.tg a ps z e;⟨m,kp a _ (nF e) q⟩⟩
theorem Hc(fg:List Nat)(hi:PI X false tg a9 ga)(hg:PG X tg h)(hb:PSs X body Fs)(hs:∀x,Ui a9 X.env x=pure x:=by intro _;rfl):PS X (.For tg a9 body [] pos) (aB fg ga h Fs):=λB π Z ow s o I q=>by
 obtain⟨ds,q1,q⟩:=kA.mp q;refine wpAny_For (av (hi B π Z ow s ds I q1) λv s1 k1=>av k1 λM3 s2 hw=>?_) hs;obtain⟨it,F,L,tn,e,I2,t2,n,nl,_,w,t0⟩:=hw;subst e;have nf:=I.nf n;have st0:Sq X (λa=>B a\/F a) π ow s Z ow s2:=⟨I2,t2.up,λ_=>.inl⟩;have fW:∀{ρ' aJ s'},Sq X (λa=>B a\/F a) π ow s ρ' aJ s'->Sq X B π ow s ρ' aJ s':=λk=>⟨k.1.less (λ_=>.inl) I.bt λa z=>(I.rb a z).1,k.2⟩;refine codeAny_forLoop_any (λk s'=>∃i ρ' aJ,k=ds.length-i/\i<=ds.length/\Sq X (λa=>B a\/F a) π ow s ρ' aJ s'/\tn i (X.O (λa=>B a\/F a) aJ) s'.heap/\zw h Fs fg (ds.drop i) ρ'=some o) ?_ ds.length ⟨0,Z,ow,rfl,ui _,st0,t0,q⟩;rintro k s3 ⟨i,U6,Pp,rfl,hi,k3,M4,q3⟩;have fO:∀a,F a->X.O (λa=>B a\/F a) Pp a:=λa z=>.inl (.inr z)
 by_cases fK:i<ds.length
 ·rw[Qw fK] at q3;obtain⟨U7,q4,q3⟩:=kA.mp q3;obtain⟨o5,q5,q3⟩:=kA.mp q3;refine Qu .never (av (w.item i _ _ s3 M4 fO (λa z=>k3.1.ex z) (kC fK)) λr s4⟨u,e,k4⟩=>?_);subst e;refine Qu .never (av k4 λ_ s5 hw=>?_);obtain⟨Rq,r5,x5,Rr⟩:=hw;have k5:Sq X (λa=>B a\/F a) π ow s U6 Pp s5:=⟨k3.1.nx (λ_=>.inr) x5 nf (λ_=>id) (λa _=>Rr a) λa z=>z.elim (k3.1.bt a) λz=>(k3.1.rb a z).1,x5.st k3.2.1 n,k3.2.2⟩;refine Qu .never (av (hg _ π U6 Pp s5 _ U7 u k5.1 r5 q4) λ_ s6 hw=>?_);obtain⟨Hd,k6⟩:=hw;refine Qu .never (av (hb _ π U7 Hd s6 o5 k6.1 q5) λfl s7 z=>?_);have kF:∀{ρ' aJ bA fo s1 s'},Inv X (λa=>B a\/F a) π bA fo s1->Sq X (λa=>B a\/F a) π fo s1 ρ' aJ s'->∀a o,F a\/L a->s1.heap.get? a=some o->s'.heap.get? a=some o:=λJ k a o z e=>by
   have z:=z.resolve_right (nl rfl a);refine k.2.1.kp a o e (λy=>?_) λy=>nf a (.inr (.inr (.inl y))) z;rcases y with⟨j,y⟩|y|y
   ·exact(J.own j a y).2.1 (.inr z)
   ·exact nf a (.inl y) z
   ·exact nf a (.inr (.inl y.2)) z
  have tn6:=w.keep _ _ _ _ _ Rq (k6.gd k5.1) (kF k5.1 k6);have go:∀{b9},(∃w',Sq X (λa=>B a\/F a) π Hd s6 b9 w' s7)->zw h Fs fg (ds.drop (i+1)) (L2.fgt fg b9)=some o->∃m,m<ds.length-i/\∃j ρ' aJ,m=ds.length-j/\j<=ds.length/\Sq X (λa=>B a\/F a) π ow s ρ' aJ s7/\tn j (X.O (λa=>B a\/F a) aJ) s7.heap/\zw h Fs fg (ds.drop j) ρ'=some o:=λ{b9}⟨w7,z⟩ q=>by
   obtain⟨w8,J,y⟩:=Inv.fgt fg z.1;have k8:Sq X (λa=>B a\/F a) π Hd s6 _ w8 s7:=z.trans ⟨J,.refl,λa z=>.inl (y a z)⟩;exact⟨ds.length-(i+1),by lia,i+1,_,w8,rfl,fK,(k5.trans k6).trans k8,w.keep _ _ _ _ _ tn6 (k8.gd k6.1) (kF k6.1 k8),q⟩
  cases o5<;>cases fl<;>first|exact z.elim|exact go z q3|(cases q3;obtain⟨w7,z⟩:=z;exact⟨w7,fW ((k5.trans k6).trans z)⟩)|(cases q3;obtain⟨w7,z,r⟩:=z;exact⟨w7,fW ((k5.trans k6).trans z),R.go (Gd.less λa=>Cx.O.mono λ_=>.inl) _ _ r⟩)
 ·obtain rfl:i=ds.length:=by lia
  rw[FO] at q3
  cases q3;exact Qu .never (av (w.done _ s3 M4 fO) λr s4⟨e,x⟩=>by subst e;exact Qt ⟨Pp,k3.1.nx (λ_=>.inr) x nf (λ_=>.inl) (λa z y=>by obtain⟨o,e⟩:=I.bd a z;rw[n a y] at e;cases e) (λa z=>z.elim (I.bt a) λz=>(I.rb a z).1),x.st k3.2.1 n,k3.2.2⟩)
theorem YD{M:Model}{A:QF}{E:kL->kW->Prop}{s:kW}{tg:Expr}{it:Addr}{u:kL}{o:Obj}{n:String}{vs:Array kL}{Q:Unit->kW->Prop}(ho:s.heap.get? it=some o)(hc:o.cls=.type n)(hd:o.data=.fields vs)
  (hn:["enumerate","zip","dict_itemiterator","dict_reverseitemiterator","odict_iterator","itertools.zip_longest","itertools.pairwise"].contains n=false)(hQ:Q () s):δ M A (Bi tg (.ref it) u) Q E s:=by
 unfold Bi
 cases tg<;>first
  |exact kR hQ
  |(cases u<;>first
    |exact kR hQ
    |(refine kB (wpAny_load ho ?_)
      rw[hc,hd];show δ M A (if(["enumerate","zip","dict_itemiterator","dict_reverseitemiterator","odict_iterator","itertools.zip_longest","itertools.pairwise"].contains n&&vs[0]?==some (Uq _))=true then _ else _) Q E s;rw[η (by intro h;rw[hn,At] at h;cases h)]
      exact kR hQ))
abbrev one(it:Addr):AP:=λa=>a=it
def ZR(hl:ds.length<=ψ)(hd:X.A.handled=none)(Lp:AP):Wk X tg it (one it) Lp ds (λi O h=>h.IsListIter it l i/\(Lp l\/¬O l)/\∃vs n,h.get? l=some (lo vs n)/\vs.length<=ψ/\Rs X.toGx O h ds vs):=by
 have ne:∀{h:Heap}{i vs n},h.IsListIter it l i->h.get? l=some (lo vs n)->l≠it:=λa b z=>by obtain⟨o,e,_,d⟩:=a;rw[z,e] at b;cases b;cases d
 refine⟨hl,λi O h O' h' w g k=>?_,λi d O s w fO ex iZ=>?_,λO s w fO=>?_,λA i O s Q E t q=>wpAny_pyIter_listiter t.1 q⟩<;>obtain⟨a,b,vs,n,c,z,r⟩:=w
 ·refine⟨a.at λo e=>k it o (.inl rfl) e,b.imp id λb=>(g l _ c b).2,vs,n,?_,z,Rs.go g _ _ r⟩;exact b.elim (λb=>k l _ (.inr b) c) λb=>(g l _ c b).1
 ·obtain⟨u,hu,ru⟩:=r.get iZ;refine wpAny_pyNext_list_item a ⟨_,c,rfl,n,rfl⟩ (x:=u) (by simpa using hu) λh' eU sb=>?_
  obtain⟨o,e,c',d'⟩:=id eU;have g:Gd O s.heap O h':=λa o e n=>⟨(sb.2 a λz=>n (fO a z)).trans e,n⟩;exact⟨u,rfl,YD (s:={s with heap:=h'}) e c' d' (by decide) ⟨⟨eU,b,vs,n,(sb.2 l (ne a c)).trans c,z,Rs.go g _ _ r⟩,R.go g _ _ ru,⟨h',s.toks,rfl,λb o n e=>(sb.2 b n).trans e⟩,λa z=>⟨o,z▸e⟩⟩⟩
 ·exact wpAny_pyNext_list_end hd a ⟨_,c,rfl,n,rfl⟩ (by simp[r.len]) λh' eb=>⟨rfl,h',s.toks,rfl,λb o n e=>eb b o n e⟩
def He(hl:ds.length<=ψ)(hd:X.A.handled=none):Wk X tg it (one it) bG ds (λi O h=>h.IsTupleIter it l i/\¬O l/\∃vs,IsTup h l (gC vs)/\Rs X.toGx O h ds vs):=by
 refine⟨hl,λi O h O' h' w g k=>?_,λi d O s w fO ex iZ=>?_,λO s w fO=>?_,λA i O s Q E t q=>wpAny_pyIter_tupleiter t.1 q⟩<;>obtain⟨a,b,vs,c,r⟩:=w
 ·obtain⟨o,c,d⟩:=c;exact⟨a.at λo e=>k it o (.inl rfl) e,(g l o c b).2,vs,⟨o,(g l o c b).1,d⟩,Rs.go g _ _ r⟩
 ·obtain⟨u,hu,ru⟩:=r.get iZ;refine wpAny_pyNext_tuple_item a (show s.heap.IsTuple l vs.toArray from c) (x:=u) (by simpa using hu) λh' eU sb=>?_
  obtain⟨o,e,c',d'⟩:=id eU;have g:Gd O s.heap O h':=λa o e n=>⟨(sb.2 a λz=>n (fO a z)).trans e,n⟩;obtain⟨o2,e2,r2⟩:=c;exact⟨u,rfl,YD (s:={s with heap:=h'}) e c' d' (by decide) ⟨⟨eU,b,vs,⟨o2,(g l o2 e2 b).1,r2⟩,Rs.go g _ _ r⟩,R.go g _ _ ru,⟨h',s.toks,rfl,λb o n e=>(sb.2 b n).trans e⟩,λa z=>⟨o,z▸e⟩⟩⟩
 ·exact wpAny_pyNext_tuple_end hd a (show s.heap.IsTuple l vs.toArray from c) (by simp[r.len]) λh' eb=>⟨rfl,h',s.toks,rfl,λb o n e=>eb b o n e⟩
theorem Hf{lw:Int}{n:Nat}(hl:n<=ψ)(hd:X.A.handled=none):Wk X tg it (one it) bG ((kN n).map λk:Nat=>.int (lw+k)) (λi O h=>IsRangeIter h it (lw+(i:Nat)*1) ((n:Int)-(i:Nat)) 1):=by
 refine⟨by simpa using hl,λi O h O' h' t g k=>k it _ (.inl rfl) t,λi d O s t fO ex e=>?_,λO s t fO=>?_,λA i O s Q E t q=>wpAny_pyIter_rangeiter t q⟩
 ·have hi:i<n:=by have:=(kH.mp e).1;simpa using this
  refine(Walks.range (prog:=X.P) (w:=X.w) hd it lw 1 n).item i s _ _ hi t λv h' tk hv eU kk=>?_;obtain⟨t,rfl⟩:=hv;refine⟨_,rfl,YD (s:={s with heap:=h',toks:=tk}) (n:="range_iterator") eU rfl rfl (by decide) ⟨eU,?_,⟨h',tk,rfl,λb o n e=>kk b o (by simpa using n) e⟩,λa z=>⟨_,z▸eU⟩⟩⟩
  rw[kY,uA hi] at e
  cases e;rw[Dw];exact .int
 ·rw[kJ,pM] at t;exact wpAny_pyNext_range_end hd t (by lia) λh' eb=>⟨rfl,h',s.toks,rfl,λb o n e=>eb b o n e⟩
def wR(I:Inv X B π Z ow s)(t:Sx X B π Z ow s s1){tn:Nat->AP->Heap->Prop}{h':Heap}{tk:Nat}(w:Wk X tg it F L ds tn)(k:∀b o,s1.heap.get? b=some o->h'.get? b=some o)(n:∀a,F a->s1.heap.get? a=none)(ex:∀a,F a->∃o,h'.get? a=some o)(nl:m=false->∀a,¬L a)(lo:∀a,L a->X.O B ow a/\¬X.T a)(t0:Gd (X.O B ow) s1.heap (X.O (λa=>B a\/F a) ow) h'->tn 0 (X.O (λa=>B a\/F a) ow) h'):
  ∃U8 F L tn,uQ it=.ref U8/\Inv X (λa=>B a\/F a) π Z ow {s1 with heap:=h',toks:=tk}/\St X.toGx bG s {s1 with heap:=h',toks:=tk}/\(∀a,F a->s.heap.get? a=none)/\(m=false->∀a,¬L a)/\(∀a,L a->X.O B ow a/\¬X.T a)/\Wk X tg U8 F L ds tn/\tn 0 (X.O (λa=>B a\/F a) ow) h':=
 ⟨it,F,L,tn,rfl,t.1.more n k ex,t.2.then (.keep k),λa z=>t.2.free (n a z),nl,lo,w,t0 λa o e q=>⟨k a o e,λz=>q (z.elim (λz=>z.elim .inl λz=>by rw[n a z] at e;cases e) λz=>.inr z)⟩⟩
def cP{h:Heap}:h.get? h.objs.size=none:=pU (pL _)
def Hg(hl:PE X false e f):PI X m tg e (iL f):=λB π Z ow s ds I q=>by
 obtain⟨d,q1,q⟩:=kA.mp q;refine av (hl B π Z ow s d I q1) λv s1 hw=>?_;obtain⟨t,r⟩:=hw
 cases d<;>cases q
 rw[show RM false X.toGx (X.O B ow) s1.heap (.list ds) v=R X.toGx (X.O B ow) s1.heap (.list ds) v from rfl,R] at r;obtain⟨p,vs,n,rfl,np,z,lz,rs⟩:=r;exact gZ ⟨_,z,rfl,n,rfl⟩ (wR (tk:=s1.toks) I t (ZR (by rw[rs.len];exact lz) I.ok.hd bG) (λb o=>kK _) (λa z=>z▸cP) (λa z=>by subst z;exact⟨_,ke _ rfl⟩) (λ_ _=>id) (λ_=>UO) λg=>⟨⟨_,ke _ rfl,rfl,rfl⟩,.inr (g p _ z np).2,vs,n,kK _ z,lz,Rs.go g _ _ rs⟩)
def nR(hl:PE X true e f):PI X true tg e (iL f):=λB π Z ow s ds I q=>by
 obtain⟨d,q1,q⟩:=kA.mp q;refine av (hl B π Z ow s d I q1) λv s1 hw=>?_;obtain⟨t,r⟩:=hw
 cases d<;>cases q
 obtain⟨p,vs,n,rfl,z,lz,rs⟩:=RT.lst r;refine gZ ⟨_,z,rfl,n,rfl⟩ (wR (tk:=s1.toks) I t (ZR (by rw[rs.len];exact lz) I.ok.hd λa=>a=p/\X.O B ow p) (λb o=>kK _) (λa z=>z▸cP) (λa z=>by subst z;exact⟨_,ke _ rfl⟩) (λh=>nomatch h) (λa y=>⟨y.1▸y.2,y.1▸t.1.nt z λ_ h=>nomatch h⟩) λg=>⟨⟨_,ke _ rfl,rfl,rfl⟩,?_,vs,n,kK _ z,lz,Rs.go g _ _ rs⟩)
 by_cases c:X.O B ow p
 ·exact .inl ⟨rfl,c⟩
 ·exact .inr (g p _ z c).2
def Hh(hl:PE X false e f):PI X m tg e (iT f):=λB π Z ow s ds I q=>by
 obtain⟨d,q1,q⟩:=kA.mp q;refine av (hl B π Z ow s d I q1) λv s1 hw=>?_;obtain⟨t,r⟩:=hw
 cases d<;>cases q
 obtain⟨p,vs,rfl,np,z,lz,rs⟩:=RT.tup (.inl r);exact CB (show s1.heap.IsTuple p vs.toArray from z) (wR (tk:=s1.toks) I t (He (by rw[rs.len];exact lz) I.ok.hd) (λb o=>kK _) (λa z=>z▸cP) (λa z=>by subst z;exact⟨_,ke _ rfl⟩) (λ_ _=>id) (λ_=>UO) λg=>⟨⟨_,ke _ rfl,rfl,rfl⟩,let⟨o,z,_⟩:=z;(g p o z np).2,vs,let⟨o,z,r⟩:=z;⟨o,kK _ z,r⟩,Rs.go g _ _ rs⟩)
end
structure zD(k:Nat)(A:QF):Prop where
 hd:A.handled=none
 dp:A.depth+3*k+5<CC
 un:A.units+16*k+200<ν
theorem zD.mono{j k:Nat}{A:QF}(r:zD k A)(h:j<=k):zD j A:=⟨r.hd,by have:=r.dp;lia,by have:=r.un;lia⟩
theorem zD.deeper{k:Nat}{A:QF}(r:zD (k+1) A)(env:Env):zD k (A.deeper env):=
 ⟨r.hd,by have:=r.dp;show A.depth+1+3*k+5<_;lia,by have:=r.un;show A.units+3+16*k+200<_;lia⟩
theorem zD.depth{k:Nat}{A:QF}(r:zD k A):A.depth<CC:=by have:=r.dp;lia
theorem zD.units{k:Nat}{A:QF}(r:zD k A):A.units+64<ν:=by have:=r.un;lia
structure E0(G:Gx)(B:AP)(s:kW):Prop where
 mod:Mod G.K G.mg G.base
 ge:DI s.gens
 base:∀b o,G.base.get? b=some o->s.heap.get? b=some o
 bo:∀a,B a->G.base.get? a=none
 bt:∀a,G.T a->B a
 tb:∀t∈G.tb,LT B s.heap t
 bd:∀a,B a->∃o,s.heap.get? a=some o
def tz(h:Heap)(a:Addr):Prop:=∃o,h.get? a=some o/\∀z,o.data≠.fields z
structure zk(G:Gx)(k:Nat)(f:Addr)(fd:uz)(ps:List Str)(F:List Dt->Option Dt):Prop where
 len:∀ds d,F ds=some d->ds.length=ps.length
 run:∀A B s args us ds d,zD k A->E0 G B s->DM s fd args (ps.zip us)->Rs G B s.heap ds us->F ds=some d->gc (ε G.P G.w) A (.call (.ref f) args) (λr s'=>∃u,r=.ok (.ret u)/\St G bG s s'/\E0 G B s'/\R G B s'.heap d u) s
structure Pq(G:Gx)(k:Nat)(f:Addr)(fd:uz)(ps:List Str)(F:Dt->List Dt->Option Dt):Prop where
 len:∀d0 ds d,F d0 ds=some d->ds.length+1=ps.length
 run:∀A(B S:AP) p s args us d0 ds d,zD k A->E0 G (λa=>B a\/S a) s->(∀a,S a->tz s.heap a/\¬B a)->DM s fd args (ps.zip (.ref p::us))->RW G (λa=>B a\/S a) s.heap S 2 d0 p->Rs G (λa=>B a\/S a) s.heap ds us->F d0 ds=some d->
  gc (ε G.P G.w) A (.call (.ref f) args) (λr s'=>∃u S',r=.ok (.ret u)/\St G S s s'/\E0 G (λa=>B a\/S' a) s'/\(∀a,S' a->(tz s'.heap a/\¬B a)/\(S a\/s.heap.get? a=none))/\RW G (λa=>B a\/S' a) s'.heap S' 2 d p) s
def Binds(K:QM)(fd:uz)(ps:List Str):Prop:=∀(s:kW)(us:List kL),K.In s.heap->us.length=ps.length->DM s fd ⟨us,[]⟩ (ps.zip us)
structure zi(N P:List Str)(sc:Scope):Prop where
 kind:sc.kind=.function
 co:sc.isCoroutine=false
 gen:sc.isGenerator=false
 nd:N.Nodup
 pre:N.take P.length=P
 par:∀x∈P,sc.names.lookup x=some .local\/sc.names.lookup x=some .cell
 nofree:∀y∈sc.names,y.2≠.free
def zm{N P:List Str}{sc:Scope}(k:sc.kind=.function)(h:sc.isCoroutine=false/\sc.isGenerator=false/\N.Nodup/\N.take P.length=P/\(∀x∈P,sc.names.lookup x=some .local\/sc.names.lookup x=some .cell)/\∀y∈sc.names,y.2≠.free):zi N P sc:=⟨k,h.1,h.2.1,h.2.2.1,h.2.2.2.1,h.2.2.2.2.1,h.2.2.2.2.2⟩
noncomputable def wq(s:Stmt):EL:=match s with
 |.FunctionDef _ a _ _ _ _ _ _ _ _=>a
 |_=>{posonlyargs:=[],args:=[],vararg:=none,kwonlyargs:=[],kw_defaults:=[],kwarg:=none,defaults:=[]}
noncomputable def yF(s:Stmt):List Stmt:=match s with
 |.FunctionDef _ _ b _ _ _ _ _ _ _=>b
 |_=>[]
noncomputable def ze(s:Stmt):Scope:=match s with
 |.FunctionDef _ _ _ _ _ _ sc _ _ _=>sc
 |_=>{kind:=.function,names:=[],isGenerator:=false,isCoroutine:=false}
structure eV(K:QM)(x qual:Str)(st:Stmt)(f:Addr)(fd:uz)(eW:kL):Prop where
 ex:∃(oc:kL)(od:Option Addr)(kV doc pm:kL)(an:Option Addr)(ct:kL)(tA:Array (Option kL)),
  fd=Uj x qual (wq st) (yF st) (ze st) .none kV doc pm an eW ct/\K.lookup f=some ⟨oc,od,.func fd,tA⟩/\CD K eW qual=true
 kp:Au K (.ref f)=true
def VF{K:QM}{x qual:Str}{st:Stmt}{f:Addr}{oc:kL}{od an:Option Addr}{tA:Array (Option kL)}{kV doc pm eW ct:kL}(l:K.lookup f=some ⟨oc,od,.func (Uj x qual (wq st) (yF st) (ze st) .none kV doc pm an eW ct),tA⟩)
  (c:CD K eW qual=true)(k:Au K (.ref f)=true):eV K x qual st f (Uj x qual (wq st) (yF st) (ze st) .none kV doc pm an eW ct) eW:=⟨⟨oc,od,kV,doc,pm,an,ct,tA,rfl,l,c⟩,k⟩
def eV.binds{K:QM}{x qual:Str}{st:Stmt}{f:Addr}{fd:uz}{eW:kL}{ps:List Str}(F:eV K x qual st f fd eW)
  (h:∀(kV doc pm:kL)(an:Option Addr)(eW ct:kL)(us:List kL),us.length=ps.length->AT (Uj x qual (wq st) (yF st) (ze st) .none kV doc pm an eW ct) ⟨us,[]⟩=pure (ps.zip us)):Binds K fd ps:=by
 obtain⟨oc,od,kV,doc,pm,an,ct,tA,rfl,lk,cE⟩:=F.ex;exact λs us _ l=>.of_eq (h kV doc pm an eW ct us l)
structure zh(K:QM)(mg:Str->Option kL)(x:Str)(st:Stmt)(ps:List Str)(f:Addr)(fd:uz):Prop where
 fn:∃eW,eV K x x st f fd eW
 bn:Binds K fd ps
 mg:mg x=some (.ref f)
def zh.kp{K:QM}{mg:Str->Option kL}{x:Str}{st:Stmt}{ps:List Str}{f:Addr}{fd:uz}(h:zh K mg x st ps f fd):Au K (.ref f)=true:=let⟨_,q⟩:=h.fn;q.kp
theorem ZE{kindOf:Str->Option CE}{x:Str}:∀{binds:List (Str×kL)}{m:Str->Option kL},(∀v,(x,v)∉binds)->bindL kindOf binds m x=m x
 |[],_,_=>rfl
 |(n,v)::r,m,h=>by
  unfold bindL;rw[ZE λw hw=>h w (uM _ hw)]
  split
  ·have:x≠n:=by rintro rfl;exact h v uN
   simp[this]
  ·rfl
theorem VL{kindOf:Str->Option CE}{x:Str}:∀{binds:List (Str×kL)}{m:Str->Option kL},(∀v,(x,v)∉binds)->bindC kindOf binds m x=m x
 |[],_,_=>rfl
 |(n,v)::r,m,h=>by
  unfold bindC;rw[VL λw hw=>h w (uM _ hw)]
  split
  ·rfl
  ·have:x≠n:=by rintro rfl;exact h v uN
   simp[this]
theorem qf{kindOf:Str->Option CE}{x:Str}{v:kL}:∀{P:List Str}{vs:List kL}{i:Nat}{m:Str->Option kL},P.Nodup->P[i]?=some x->vs[i]?=some v->kindOf x=some .local->bindL kindOf (P.zip vs) m x=some v
 |[],_,_,_,_,h,_,_=>by simp at h
 |_::_,[],_,_,_,_,h,_=>by simp at h
 |p::P,w::vs,0,m,nd,h1,h2,hk=>by
  simp at h1 h2;subst h1;subst h2
  show bindL kindOf ((p,w)::P.zip vs) m p=_
  unfold bindL;rw[ZE λv hv=>(uU.mp nd).1 (Ac hv).1,θ hk]
  simp
 |p::P,w::vs,i+1,m,nd,h1,h2,hk=>by
  show bindL kindOf ((p,w)::P.zip vs) m x=_
  unfold bindL;exact qf (i:=i) (uU.mp nd).2 (by simpa using h1) (by simpa using h2) hk
theorem WI{kindOf:Str->Option CE}{x:Str}{v:kL}:∀{P:List Str}{vs:List kL}{i:Nat}{m:Str->Option kL},P.Nodup->P[i]?=some x->vs[i]?=some v->kindOf x≠some .local->bindC kindOf (P.zip vs) m x=some v
 |[],_,_,_,_,h,_,_=>by simp at h
 |_::_,[],_,_,_,_,h,_=>by simp at h
 |p::P,w::vs,0,m,nd,h1,h2,hk=>by
  simp at h1 h2;subst h1;subst h2
  show bindC kindOf ((p,w)::P.zip vs) m p=_
  unfold bindC;rw[VL λv hv=>(uU.mp nd).1 (Ac hv).1,η hk]
  simp
 |p::P,w::vs,i+1,m,nd,h1,h2,hk=>by
  show bindC kindOf ((p,w)::P.zip vs) m x=_
  unfold bindC;exact WI (i:=i) (uU.mp nd).2 (by simpa using h1) (by simpa using h2) hk
noncomputable def y9(G:Gx)(N:List Str)(qual:Str)(scope:Scope)(f:Addr)(cd:kL)(A:QF)(a:Addr):Cx where
 toGx:=G
 A:=A.deeper (Ur qual scope a f cd)
 N:=N
 env:=Ur qual scope a f cd
 fn:=true
 rb:=bG
def YA{sc:Scope}{n:Nat}{x:Str}(h:sc.names.lookup x=some .cell):∃c,(EM n sc.names []).lookup x=some c:=Option.isSome_iff_exists.mp (Av sc.names n [] (.inl h))
section
variable{G:Gx}{B B' S:AP}{N ps:List Str}{qual x:Str}{scope:Scope}{f:Addr}{cd:kL}{A:QF}{s s1:kW}{us:List kL}{π:Addr}{ρ0 ρ':En}{st:Stmt}{fd:uz}{k:Nat}{args:Args}{fs:En->Option Ou}{o:Ou}{d:Dt}{ds:List Dt}
def E0.less(e:E0 G B s)(i:∀a,B' a->B a)(bt:∀a,G.T a->B' a):E0 G B' s:=⟨e.mod,e.ge,e.base,λa z=>e.bo a (i a z),bt,λt m=>(e.tb t m).go (λa z=>.inl (i a z)) (λ_ _ e _=>e) λ_ e=>e,λa z=>e.bd a (i a z)⟩
abbrev Lw(S:AP):Os:=λi a=>i=0/\S a
theorem zah(Sc:zi N ps scope)(hd:A.handled=none)(e0:E0 G (λa=>B a\/S a) s)(hS:∀a,S a->tz s.heap a/\¬B a)(hl:ρ0.length=N.length)(bt:∀a,G.T a->B a)
  (arg:∀i sl,ρ0[i]?=some sl->sl=.un\/i<ps.length/\∃u,us[i]?=some u/\((∃d,sl=.fz d/\R G (λa=>B a\/S a) s.heap d u)\/i=0/\∃d,sl=.ow true 2 d/\u=.ref π/\RW G (λa=>B a\/S a) s.heap S 2 d π))
  (x:InCallC s s.heap.objs.size (bindL (Ur qual scope s.heap.objs.size f cd).kindOf (ps.zip us) λ_=>none) (EM (s.heap.objs.size+1) scope.names []) (bindC (Ur qual scope s.heap.objs.size f cd).kindOf (ps.zip us) λ_=>none) s1):
  Inv (y9 G N qual scope f cd A s.heap.objs.size) B π ρ0 (Lw S) s1:=by
 obtain⟨h1,tk,rfl,hk⟩:=x.done;have nw:∀a,(a=s.heap.objs.size\/(y9 G N qual scope f cd A s.heap.objs.size).cel a)->s.heap.get? a=none:=λa z=>by
  rcases z with rfl|⟨y,z⟩
  ·exact cP
  ·exact pU (gD (x.above y a (pg z)))
 have oi:∀{a},(y9 G N qual scope f cd A s.heap.objs.size).O B (Lw S) a->(B a\/S a)\/s.heap.get? a=none:=λz=>by
  rcases z with z|⟨_,_,z⟩|z
  ·exact .inl (.inl z)
  ·exact .inl (.inr z)
  ·exact .inr (nw _ z)
 have g:Gd (λa=>B a\/S a) s.heap ((y9 G N qual scope f cd A s.heap.objs.size).O B (Lw S)) h1:=λa o e n=>⟨hk a o e,λz=>(oi z).elim n λz=>by rw[z] at e;cases e⟩
 have M5:ps.Nodup:=by rw[<-Sc.pre];exact Sc.nd.sublist (Aw _ _)
 refine⟨⟨e0.mod,Sc.kind,rfl,rfl,λy z c h1 h2=>name_of_addr x.apart (pg h1) (pg h2),λy hy=>?_,hd⟩,e0.ge,λb o e=>hk b o (e0.base b o e),λa z=>(oi z).elim (e0.bo a) λz=>?_,bt,λt m=>(e0.tb t m).go (λa z=>(oi z).imp id λz o e=>by rw[z] at e;cases e) (λb o e _=>hk b o e) λo e=>hk _ o e,λa z=>let⟨o,e⟩:=e0.bd a (.inl z);⟨o,hk a o e⟩,λa z=>z.elim,⟨_,x.toInCall.ns,λi y sl h2 h3=>?_⟩,λy c h=>⟨_,x.cell y c h⟩,hl,λi j a z1 z2=>z1.1.trans z2.1.symm,λi a z=>?_⟩
 ·have hy:scope.names.lookup y=some .cell\/scope.names.lookup y=some .free:=hy;rcases hy with hy|hy
  ·exact YA hy
  ·exact absurd rfl (Sc.nofree _ (pg hy))
 ·cases q:G.base.get? a with
  |none=>exact q
  |some o=>rw[e0.base a o q] at z;cases z
 ·rcases arg i sl h3 with rfl|⟨hi,u,hu,r⟩
  ·trivial
  have hp:ps[i]?=some y:=by rw[<-Sc.pre,Ce hi];exact h2
  have l:zX (Ur qual scope s.heap.objs.size f cd) h1 (bindL (Ur qual scope s.heap.objs.size f cd).kindOf (ps.zip us) λ_=>none) y u:=by
   rcases Sc.par y (kg hp) with k|k
   ·exact .inl ⟨k,qf M5 hp hu k⟩
   ·obtain⟨c,e⟩:=YA (n:=s.heap.objs.size+1) k;refine .inr ⟨.inl k,c,e,?_⟩;have q:=x.cell y c e;rw[WI M5 hp hu (by show scope.names.lookup y≠_;rw[k];decide)] at q
    exact q
  rcases r with⟨d,rfl,r⟩|⟨rfl,d,rfl,rfl,r⟩
  ·exact⟨u,l,R.go g _ _ r⟩
  ·refine⟨π,l,λ_=>rfl,?_⟩;rw[show Lw S 0=S from funext λa=>propext ⟨(·.2),λz=>⟨rfl,z⟩⟩];exact r.go g λa o _=>hk a o
 ·obtain⟨⟨o,e,nf⟩,nb⟩:=hS a z.2;exact⟨⟨o,hk a o e,nf⟩,nb,(λq=>by rw[nw a (.inl q)] at e;cases e),(λq=>by rw[nw a (.inr q)] at e;cases e)⟩
def eV.run(F:eV G.K x qual st f fd cd)(Sc:zi N ps (ze st))(hr:zD (k+1) A)(e0:E0 G (λa=>B a\/S a) s)(hS:∀a,S a->tz s.heap a/\¬B a)(hl:ρ0.length=N.length)(bt:∀a,G.T a->B a)(hb:DM s fd args (ps.zip us))
  (arg:∀i sl,ρ0[i]?=some sl->sl=.un\/i<ps.length/\∃u,us[i]?=some u/\((∃d,sl=.fz d/\R G (λa=>B a\/S a) s.heap d u)\/i=0/\∃d,sl=.ow true 2 d/\u=.ref π/\RW G (λa=>B a\/S a) s.heap S 2 d π))
  (cW:zD k (A.deeper (Ur qual (ze st) s.heap.objs.size f cd))->PSs (y9 G N qual (ze st) f cd A s.heap.objs.size) (yF st) fs)(q:fs ρ0=some o)(ho:o=.rt d ρ'\/o=.nx ρ'/\d=.none):
  gc (ε G.P G.w) A (.call (.ref f) args) (λr s'=>∃u S',r=.ok (.ret u)/\St G S s s'/\E0 G (λa=>B a\/S' a) s'/\(∀a,S' a->(tz s'.heap a/\¬B a)/\(S a\/s.heap.get? a=none))/\R G (λa=>B a\/S' a) s'.heap d u/\∀d' io,ρ'[0]?=some (.ow io 2 d')->io=true->0<N.length->RW G (λa=>B a\/S' a) s'.heap S' 2 d' π) s:=by
 obtain⟨oc,od,kV,doc,pm,an,ct,tA,rfl,lk,cE⟩:=F.ex;have KX:G.K.In s.heap:=e0.mod.kin.keeps e0.base;have Hi:s.heap.NoLimit:=e0.mod.nolimit.keeps e0.base;have fu:∀y∈ps.zip us,(ze st).names.lookup y.1=some .local\/((ze st).names.lookup y.1=some .cell/\((EM (s.heap.objs.size+1) (ze st).names []).lookup y.1).isSome=true):=λ⟨n,v⟩ hy=>by
  rcases Sc.par n (Ac hy).1 with q|q
  ·exact .inl q
  ·exact .inr ⟨q,Av _ _ _ (.inl q)⟩
 refine BM hr.depth (KX _ _ lk) rfl Sc.co Sc.gen rfl (CF KX cE) (hb _ _ _ _ ?_);refine AA Sc.kind fu λenv he s1 x=>?_;subst he;refine⟨Hi.keeps x.toInCall.keep,Eo ?_⟩;have I:=zah (qual:=qual) (f:=f) (cd:=cd) Sc hr.hd e0 hS hl bt arg x;have t0:St G bG s s1:=by obtain⟨h1,tk,rfl,hk⟩:=x.done;exact .keep hk
 have nw:∀a,(a=s.heap.objs.size\/(y9 G N qual (ze st) f cd A s.heap.objs.size).cel a)->s.heap.get? a=none:=λa z=>by
  rcases z with rfl|⟨y,z⟩
  ·exact cP
  ·exact pU (gD (x.above y a (pg z)))
 refine Qe (cW (hr.deeper _) B π ρ0 (Lw S) s1 o I q) (λfl s' hs=>?_) λe s' hs=>hs.elim;have fin:∀{aJ u},Sq (y9 G N qual (ze st) f cd A s.heap.objs.size) B π (Lw S) s1 ρ' aJ s'->R G ((y9 G N qual (ze st) f cd A s.heap.objs.size).O B aJ) s'.heap d u->∃u' S',(Except.ok (Flow.ret u):GM)=.ok (.ret u')/\St G S s s'/\E0 G (λa=>B a\/S' a) s'/\(∀a,S' a->(tz s'.heap a/\¬B a)/\(S a\/s.heap.get? a=none))/\R G (λa=>B a\/S' a) s'.heap d u'/\∀d' io,ρ'[0]?=some (.ow io 2 d')->io=true->0<N.length->RW G (λa=>B a\/S' a) s'.heap S' 2 d' π:=λ{aJ u} J r=>by
  have om:∀a,(B a\/aJ 0 a)->(y9 G N qual (ze st) f cd A s.heap.objs.size).O B aJ a:=λa z=>z.elim .inl λz=>.inr (.inl ⟨0,z⟩);refine⟨u,aJ 0,rfl,t0.up.trans J.2.1 λa z=>?_,⟨e0.mod,J.1.ge,J.1.base,λa z=>J.1.bo a (om a z),λa z=>.inl (bt a z),λt m=>(J.1.tb t m).go (λa z=>.inl (om a z)) (λ_ _ e _=>e) λ_ e=>e,λa z=>J.1.ex (om a z)⟩,λa z=>?_,R.go (Gd.less om) _ _ r,λd' io e h hN=>?_⟩
  ·rcases z with⟨_,_,z⟩|z|z
   ·exact .inl z
   ·exact .inr (nw a (.inl z))
   ·exact .inr (nw a (.inr z.2))
  ·obtain⟨n,b,_⟩:=J.1.own 0 a z;exact⟨⟨n,b⟩,(J.2.2 a ⟨0,z⟩).imp (λ⟨_,_,z⟩=>z) λz=>t0.free z⟩
  ·obtain⟨m,_,sk⟩:=J.1.loc;obtain⟨p,_,hp,r⟩:=sk 0 _ _ (kC hN) e;obtain rfl:=hp h;exact r.go (Gd.less om) λ_ _ _ e=>e
 rcases ho with rfl|⟨rfl,rfl⟩<;>cases fl<;>first|exact hs.elim|skip
 ·obtain⟨aJ,J,r⟩:=hs;exact fin J r
 ·obtain⟨aJ,J⟩:=hs;exact fin (u:=QQ) J .non
theorem Hj(h:(fs ρ0).bind cD=some d):∃o ρ',fs ρ0=some o/\(o=.rt d ρ'\/o=.nx ρ'/\d=.none):=by
 obtain⟨o,q,h⟩:=kA.mp h
 cases o with
 |nx Z=>cases h;exact⟨_,Z,q,.inr ⟨rfl,rfl⟩⟩
 |rt d' Z=>cases h;exact⟨_,Z,q,.inl rfl⟩
 |_=>cases h
theorem eV.okD(F:eV G.K x qual st f fd cd)(Sc:zi N ps (ze st))(hb:∀A a,zD k (A.deeper (Ur qual (ze st) a f cd))->PSs (y9 G N qual (ze st) f cd A a) (yF st) fs):zk G (k+1) f fd ps (bg N.length ps.length fs):=by
 refine⟨λds d h=>?_,λA B s args us ds d hr e0 hB r h=>?_⟩<;>unfold bg at h<;>split at h
 ·assumption
 ·cases h
 ·obtain⟨o,ρ',q,ho⟩:=Hj h;have hpl:ps.length<=N.length:=by have:=υ CX Sc.pre;rw[uC] at this;lia
  have eq:∀{a},(B a\/bG a)->B a:=λz=>z.elim id UO;refine US (F.run Sc (B:=B) (S:=bG) (π:=0) hr (e0.less (λa=>eq) λa z=>.inl (e0.bt a z)) (λa z=>z.elim) (by rw[kb,kJ,Qx];lia) e0.bt hB (λi sl e=>?_) (hb A _) q ho) λr s'⟨u,S',e,t,e1,_,r,_⟩=>⟨u,e,t,e1.less (λ_=>.inl) e0.bt,R.go (Gd.less λ_=>.inl) _ _ r⟩
  by_cases hi:i<ds.length
  ·rw[QH (by simpa using hi),kY] at e
   obtain⟨d,e1,rfl⟩:=uO.mp e;obtain⟨u,hu,ru⟩:=r.get e1;exact .inr ⟨by lia,u,hu,.inl ⟨d,rfl,R.go (Gd.less λa=>eq) _ _ ru⟩⟩
  ·rw[uJ (by simpa using hi),Us] at e
   split at e<;>cases e
   exact .inl rfl
 ·cases h
def tB{Z:En}{d:Dt}(h:(Z[0]?).bind w2=some d):Z[0]?=some (.ow true 2 d):=by
 obtain⟨s,q,h⟩:=kA.mp h;unfold w2 at h
 split at h<;>cases h
 exact q
theorem eV.okW(F:eV G.K x qual st f fd cd)(Sc:zi N ps (ze st))(hb:∀A a,zD k (A.deeper (Ur qual (ze st) a f cd))->PSs (y9 G N qual (ze st) f cd A a) (yF st) fs):Pq G (k+1) f fd ps (vU N.length ps.length fs):=by
 refine⟨λd0 ds d h=>?_,λA B S p s args us d0 ds d hr e0 hS hB w r h=>?_⟩<;>unfold vU at h<;>split at h
 ·assumption
 ·cases h
 ·obtain⟨o,q,h⟩:=kA.mp h;have:∃ρ',(o=.rt .none ρ'\/o=.nx ρ'/\Dt.none=.none)/\ρ'[0]?=some (.ow true 2 d):=by
   unfold nu at h
   split at h
   ·exact⟨_,.inr ⟨rfl,rfl⟩,tB h⟩
   ·exact⟨_,.inl rfl,tB h⟩
   ·cases h
  obtain⟨ρ',ho,e'⟩:=this;have hpl:ps.length<=N.length:=by have:=υ CX Sc.pre;rw[uC] at this;lia
  have bt:∀a,G.T a->B a:=λa z=>(e0.bt a z).elim id λy=>by
   obtain⟨⟨o,e,nf⟩,_⟩:=hS a y;obtain⟨t,m,q⟩:=z;exact((e0.tb t m).ne e nf q.symm).elim
  refine US (F.run Sc (B:=B) (S:=S) (π:=p) hr e0 hS (by simp;lia) bt hB (λi sl e=>?_) (hb A _) q ho) λr s'⟨u,S',e,t,e1,iM,_,w⟩=>⟨u,S',e,t,e1,iM,w d true e' rfl (by lia)⟩
  cases i with
  |zero=>cases e;exact .inr ⟨by lia,_,rfl,.inr ⟨rfl,d0,rfl,rfl,w⟩⟩
  |succ i=>
   rw[Qh] at e
   by_cases hi:i<ds.length
   ·rw[QH (by simpa using hi),kY] at e
    obtain⟨d,e1,rfl⟩:=uO.mp e;obtain⟨u,hu,ru⟩:=r.get e1;exact .inr ⟨by lia,u,hu,.inl ⟨d,rfl,ru⟩⟩
   ·rw[uJ (by simpa using hi),Us] at e
    split at e<;>cases e
    exact .inl rfl
 ·cases h
end
section
variable{X:Cx}{B:AP}{π:Addr}{Z:En}{ow:Os}{s s1:kW}{m:Bool}{e:Expr}{es:List Expr}{f:En->Option Dt}{ga:En->Option (List Dt)}{p pos:Pos}{ds:List Dt}{d:Dt}{us:List kL}
def Inv.e0(I:Inv X B π Z ow s):E0 X.toGx (X.O B ow) s:=⟨I.ok.mod,I.ge,I.base,I.bo,λa z=>.inl (I.bt a z),I.tb,λa z=>I.ex z⟩
theorem Inv.call{k:Nat}{fa:Addr}{fd:uz}{ps:List Str}{F:List Dt->Option Dt}(I:Inv X B π Z ow s)(ok:zk X.toGx k fa fd ps F)(hb:Binds X.K fd ps)(hr:zD k X.A)(r:Rs X.toGx (X.O B ow) s.heap ds us)(q:F ds=some d):
  δ (ε X.P X.w) X.A (call (.ref fa) us) (λv s'=>Sx X B π Z ow s s'/\R X.toGx (X.O B ow) s'.heap d v) nE s:=
 CG (US (ok.run X.A (X.O B ow) s ⟨us,[]⟩ us ds d hr I.e0 (hb s us I.kin (by rw[<-r.len];exact ok.len _ _ q)) r q) λr s'⟨u,e,t,e0,ru⟩=>by subst e;exact⟨⟨I.st t e0.ge e0.tb,t⟩,ru⟩)
def Hk{k k':Nat}{fa:Addr}{fd:uz}{ps:List Str}{F:List Dt->Option Dt}{x:Str}{st:Stmt}(ok:zk X.toGx k fa fd ps F)(T:zh X.K X.mg x st ps fa fd)(hr:zD k' X.A)(ha:PA X false (e::es) ga)(hk:k<=k':=by decide)(hg:Gl X x:=by rfl)(dZ:(x==("__debug__":Str))=false:=by decide)(he:kh (e::es) X.env=(false,eval e X.env)::kh es X.env:=by rfl)(hpl:(ub pos (kh es X.env)).any (·.1)=false:=by rfl):
  PE X m (.Call (.Name x p) (e::es) [] pos) (aj F ga):=λB π Z ow s d I q=>by
 obtain⟨ds,q1,q⟩:=kA.mp q;refine uV (qM I hg T.mg ?_ dZ);exact Ag (h₀:=X.base) I.ok.mod.kin T.kp (av (ha pos B π Z ow s ds I q1) λus s1⟨t,r⟩=>⟨t.1.kin,av (t.1.call ok T.bn (hr.mono hk) (Yk r) q) λv s2⟨t2,r⟩=>⟨t.trans t2,.of r⟩⟩) he hpl
end
open PySem.W (tabObj)
def cL(X:Cx)(h:Heap)(x:Str)(p:Addr):Prop:=∃mm,h.Ns X.env.locals mm/\zX X.env h mm x (.ref p)
structure Mt(X:Cx)(o:Expr)(name:Str)(args:List Expr)(aR aF:Pos):Prop where
 base:attributeBase o name X.env (eval o X.env)=eval o X.env
 few:((ub aF (kh args X.env)).all (λx=> !x.1)&&(Ut aF (Qi [] X.env)).all (λx=>x.1.isSome)&&decide (args.length+([]:List Keyword).length+(if([]:List Keyword).isEmpty then 0 else 1)<30))=true
 line:(aR.endLine==aF.line)=true
 star:∃e r,kh args X.env=(false,eval e X.env)::r/\(ub aF r).any (·.1)=false
def yk{N:List Str}(h:decide N.Nodup=true):N.Nodup:=ξ h
structure Nm(X:Cx)(i:Nat)(x:Str):Prop where
 nd:X.N.Nodup
 ix:X.N[i]?=some x
 db:(x==("__debug__":Str))=false
 cd:(x==("__classdict__":Str))=false
variable{F:Dt->kL->Prop}{q:Addr}{name:Str}
section
variable{X:Cx}{B S':AP}{π:Addr}{Z ρ':En}{ow aJ:Os}{s s' s1:kW}{m:Bool}{e o k ve:Expr}{es:List Expr}{f g fk fv:En->Option Dt}{ga:En->Option (List Dt)}{pos a8 xp aR aF:Pos}{x:Str}{d d0:Dt}{ds zs:List Dt}{u v:kL}{us vs:List kL}{p:Addr}{i n n0:Nat}{io:Bool}{h':Heap}{t':Nat}
def Inv.hol(I:Inv X B π Z ow s)(hN:X.N[i]?=some x)(e:Z[i]?=some (.ow io n d)):∃p,cL X s.heap x p/\(io=true->p=π)/\RW X.toGx (X.O B ow) s.heap (ow i) n d p:=by
 obtain⟨mm,hn,p,l,z,r⟩:=I.look hN e;exact⟨p,⟨mm,hn,l⟩,z,r⟩
theorem cL.uniq{h:Heap}(a:cL X h x p)(b:cL X h x q):p=q:=by
 obtain⟨m,⟨o,es,ep,e,d,_,n⟩,l⟩:=a;obtain⟨m',⟨o',es',ep',e',d',_,n'⟩,l'⟩:=b;rw[e] at e';cases e';rw[d] at d';cases d';rcases l with⟨_,l⟩|⟨k,c,hc,o1,z,y⟩<;>rcases l' with⟨k',l'⟩|⟨k',c',G5,o2,z',y'⟩
 ·rw[<-n,n'] at l;rw[l] at l';cases l';rfl
 ·simp_all
 ·simp_all
 ·rw[hc] at G5;cases G5;rw[z] at z';cases z';rw[y] at y';cases y';rfl
def cL.kp{W:AP}(a:cL X s.heap x p)(I:Inv X B π Z ow s)(k:∀a o,s.heap.get? a=some o->¬W a->¬X.T a->h'.get? a=some o)(w:∀a,W a->a≠X.env.locals/\¬X.cel a):cL X h' x p:=by
 obtain⟨m,⟨o,es,ep,e,r⟩,l⟩:=a;exact⟨m,⟨o,es,ep,k _ o e (λz=>(w _ z).1 rfl) I.ntL,r⟩,l.go λc o q e=>k c o e (λz=>(w _ z).2 ⟨_,q⟩) (I.ntC q)⟩
def cL.sx(a:cL X s.heap x p)(I:Inv X B π Z ow s)(t:Sx X B π Z ow s s1):cL X s1.heap x p:=a.kp I (λa o e n nt=>t.2.kp a o e n nt) λa z=>z.elim
def M6{sl:Sl}(e:sl=.ow io n d)(h:∃p,zX X.env h' mm x (.ref p)/\(io=true->p=π)/\RW X.toGx (X.O B ow) h' (ow i) n d p):Sk X B π ow h' mm x i sl:=by subst e;exact h
theorem Inv.mut(I:Inv X B π Z ow s)(M:Nm X i x)(e:Z[i]?=some (.ow io n0 d0))(hp:cL X s.heap x p)(t:St X.toGx (ow i) s s')(ge:DI s'.gens)(nS:∀a,S' a->tz s'.heap a/\(ow i a\/s.heap.get? a=none))(lt:∀t∈X.tb,LT (X.O B (ca ow i S')) s'.heap t)(r:RW X.toGx (X.O B (ca ow i S')) s'.heap S' n d p):
  Sq X B π ow s (Z.set i (.ow io n d)) (ca ow i S') s':=by
 have oi:∀{a},X.O B (ca ow i S') a->X.O B ow a\/s.heap.get? a=none:=λz=>by
  rcases z with z|⟨j,⟨_,z⟩|⟨_,z⟩⟩|z
  ·exact .inl (.inl z)
  ·exact(nS _ z).2.imp (λz=>.inr (.inl ⟨i,z⟩)) id
  ·exact .inl (.inr (.inl ⟨j,z⟩))
  ·exact .inl (.inr (.inr z))
 have ri:∀p o,s.heap.get? p=some o->X.O B (ca ow i S') p->X.O B ow p:=λp o e z=>(oi z).elim id λz=>by rw[z] at e;cases e
 have kp:∀{a o},s.heap.get? a=some o->¬ow i a->¬X.T a->s'.heap.get? a=some o:=λe n nt=>t.kp _ _ e n nt;have g:Gd (X.O B ow) s.heap (X.O B (ca ow i S')) s'.heap:=λa o e n=>⟨kp e (λz=>n (.inr (.inl ⟨i,z⟩))) λz=>n (.inl (I.bt a z)),λz=>n (ri a o e z)⟩;have wl:∀a,ow i a->a≠X.env.locals/\¬X.cel a:=λa z=>(I.own i a z).2.2;obtain⟨mm,hn,sk⟩:=id I.loc;obtain⟨p',l',z',r'⟩:=sk i x _ M.ix e;obtain rfl:=hp.uniq ⟨mm,hn,l'⟩;have nM:s'.heap.Ns X.env.locals mm:=by obtain⟨o,es,ep,q,r⟩:=hn;exact⟨o,es,ep,kp q (λz=>(wl _ z).1 rfl) I.ntL,r⟩
 have lk:∀{y u},zX X.env s.heap mm y u->zX X.env s'.heap mm y u:=λl=>l.go λc o q e=>kp e (λz=>(wl _ z).2 ⟨_,q⟩) (I.ntC q);have ne:∀{a o},s.heap.get? a=some o->S' a->ow i a:=λe z=>(nS _ z).2.elim id λz=>by rw[z] at e;cases e
 refine⟨⟨I.ok,ge,λb o e=>kp (I.base b o e) (λz=>I.fr e (.inr (.inl ⟨i,z⟩))) λz=>I.fr e (.inl (I.bt b z)),λa z=>(oi z).elim (I.bo a) λz=>?_,I.bt,lt,λa z=>let⟨o,e⟩:=I.bd a z;t.ex a o e,I.rb,⟨mm,nM,λj y sl h1 h2=>?_⟩,λy c q=>let⟨v,o,e,r⟩:=I.cell y c q;⟨v,o,kp e (λz=>(wl _ z).2 ⟨_,q⟩) (I.ntC q),r⟩,by rw[UP];exact I.len,λj k a z1 z2=>?_,λj a z=>?_⟩,⟨t.os,λa o e n nt=>kp e (λz=>n (.inl ⟨i,z⟩)) nt,t.ex,t.tg⟩,λa z=>?_⟩
 ·cases q:X.base.get? a with
  |none=>rfl
  |some o=>rw[I.base a o q] at z;cases z
 ·rcases XZ Z i j _ sl h2 with⟨rfl,e9⟩|⟨hj,h2⟩
  ·rw[M.ix] at h1;cases h1;exact M6 e9 ⟨p,lk l',z',by rw[show ca ow j S' j=S' from funext λa=>propext ⟨λz=>z.elim (·.2) λz=>absurd rfl z.1,λz=>.inl ⟨rfl,z⟩⟩];exact r⟩
  ·refine(sk j y sl h1 h2).go (by funext a;exact propext ⟨λz=>z.elim (λz=>absurd z.1 hj) (·.2),λz=>.inr ⟨hj,z⟩⟩) g (λ_=>lk) (λa o z e=>?_) (λp o n e nf=>?_) ri
   ·obtain⟨⟨o',e',nf⟩,_⟩:=I.own j a z;rw[e] at e';cases e';exact kp e (λy=>hj (I.inj _ _ a z y)) (I.nt e nf)
   ·exact kp e (λy=>(I.own i p y).2.1 (I.rb p (n (.inr (.inl ⟨i,y⟩)))).1) (I.nt e nf)
 ·rcases z1 with⟨rfl,z1⟩|⟨n1,z1⟩<;>rcases z2 with⟨rfl,z2⟩|⟨n2,z2⟩
  ·rfl
  ·obtain⟨⟨o,e,_⟩,_⟩:=I.own _ _ z2;exact(n2 (I.inj _ _ a z2 (ne e z1))).elim
  ·obtain⟨⟨o,e,_⟩,_⟩:=I.own _ _ z1;exact(n1 (I.inj _ _ a z1 (ne e z2))).elim
  ·exact I.inj j k a z1 z2
 ·rcases z with⟨rfl,z⟩|⟨hj,z⟩
  ·obtain⟨nf,y|y⟩:=nS a z
   ·exact⟨nf,(I.own j a y).2⟩
   ·exact⟨nf,λz=>I.apart y (.inl z),λz=>I.apart y (.inr (.inr (.inl z))),λz=>I.apart y (.inr (.inr (.inr z)))⟩
  ·obtain⟨⟨o,e,nf⟩,r⟩:=I.own j a z;exact⟨⟨o,kp e (λy=>hj (I.inj _ _ a z y)) (I.nt e nf),nf⟩,r⟩
 ·obtain⟨j,⟨_,z⟩|⟨_,z⟩⟩:=z
  ·exact(nS a z).2.imp (λz=>⟨i,z⟩) id
  ·exact .inl ⟨j,z⟩
def Inv.mutH(I:Inv X B π Z ow s)(M:Nm X i x)(e:Z[i]?=some (.ow io n0 d0))(hp:cL X s.heap x p)(k:∀a o,s.heap.get? a=some o->¬ow i a->h'.get? a=some o)(oS:∀a,ow i a->S' a)(nS:∀a,S' a->tz h' a/\(ow i a\/s.heap.get? a=none))
  (r:Gd (X.O B ow) s.heap (X.O B (ca ow i S')) h'->RW X.toGx (X.O B (ca ow i S')) h' S' n d p):∃aJ,Sq X B π ow s (Z.set i (.ow io n d)) aJ {s with heap:=h',toks:=t'}:=by
 have oi:∀{a},X.O B (ca ow i S') a->X.O B ow a\/s.heap.get? a=none:=λz=>by
  rcases z with z|⟨j,⟨_,z⟩|⟨_,z⟩⟩|z
  ·exact .inl (.inl z)
  ·exact(nS _ z).2.imp (λz=>.inr (.inl ⟨i,z⟩)) id
  ·exact .inl (.inr (.inl ⟨j,z⟩))
  ·exact .inl (.inr (.inr z))
 have nT:∀{a},X.T a->¬ow i a:=λt z=>by obtain⟨⟨o,e,nf⟩,_⟩:=I.own i _ z;exact I.nt e nf t
 refine⟨_,I.mut M e hp ⟨rfl,λa o e n _=>k a o e n,λa o e=>?_,λa ps z e=>⟨#[],by rw[k a _ e (nT z)];simp⟩⟩ I.ge nS (λt q=>(I.tb t q).go (λa z=>(oi z).imp id λz o e=>by rw[z] at e;cases e) (λb o e n=>k b o e λz=>n (.inr (.inl ⟨i,z⟩))) λo e=>k _ o e (nT ⟨t,q,rfl⟩)) (r λa o e n=>⟨k a o e λz=>n (.inr (.inl ⟨i,z⟩)),λz=>(oi z).elim n λz=>by rw[z] at e;cases e⟩)⟩
 by_cases z:ow i a
 ·obtain⟨⟨o,q,_⟩,_⟩:=nS a (oS a z);exact⟨o,q⟩
 ·exact⟨o,k a o e z⟩
def Inv.mut1(I:Inv X B π Z ow s)(M:Nm X i x)(e:Z[i]?=some (.ow io 1 d0))(hp:cL X s.heap x p)(sb:∀a o,a≠p->s.heap.get? a=some o->h'.get? a=some o)(r:Gd (X.O B ow) s.heap (X.O B ow) h'->¬X.T p->Top X.toGx (X.O B ow) h' (Rs X.toGx (X.O B ow) h') d p):∃aJ,Sq X B π ow s (Z.set i (.ow io 1 d)) aJ {s with heap:=h',toks:=t'}:=by
 obtain⟨p',eh,_,hS,top⟩:=I.hol M.ix e;obtain rfl:=hp.uniq eh;have np:X.O B ow p:=.inr (.inl ⟨i,(hS p).mpr rfl⟩);have tp:=r (λa o e n=>⟨sb a o (λz=>n (z▸np)) e,n⟩) (by obtain⟨o,e,nf⟩:=top.get;exact I.nt e nf)
 have om:∀a,X.O B (ca ow i (ow i)) a->X.O B ow a:=λa z=>by
  rcases z with z|⟨j,⟨_,z⟩|⟨_,z⟩⟩|z
  ·exact .inl z
  ·exact .inr (.inl ⟨i,z⟩)
  ·exact .inr (.inl ⟨j,z⟩)
  ·exact .inr (.inr z)
 refine I.mutH (S':=ow i) M e hp (λa o e n=>sb a o (λz=>n ((hS a).mpr z)) e) (λ_ z=>z) (λa z=>⟨?_,.inl z⟩) λg=>⟨hS,tp.imp (Gd.less om) (λ_ e=>e) λ_ _=>Rs.go (Gd.less om) _ _⟩;obtain rfl:=(hS a).mp z;exact tp.get
def Yl{o:Option Sl}(h:o.bind iq=some (io,ds)):o=some (.ow io 1 (.list ds)):=by
 obtain⟨sl,e,h⟩:=kA.mp h;unfold iq at h
 split at h<;>cases h
 exact e
def Inv.lst(I:Inv X B π Z ow s)(hN:X.N[i]?=some x)(q:(Z[i]?).bind iq=some (io,ds))(hp:cL X s.heap x p):∃vs n,s.heap.get? p=some (lo vs n)/\vs.length<=ψ/\Rs X.toGx (X.O B ow) s.heap ds vs:=by
 obtain⟨p',eh,_,_,r⟩:=I.hol hN (Yl q);obtain rfl:=hp.uniq eh;exact r
def Inv.lset{f:Array kL->Array kL}(I:Inv X B π Z ow s)(M:Nm X i x)(q:(Z[i]?).bind iq=some (io,ds))(hp:cL X s.heap x p)(e:s.heap.get? p=some (lo vs n))(hf:f vs.toArray=us.toArray)(r:Rs X.toGx (X.O B ow) s.heap zs us)(l:us.length<=ψ):
  ∃aJ,Sq X B π ow s (Z.set i (.ow io 1 (.list zs))) aJ {s with heap:=s.heap.update p (pJ f),toks:=t'}:=by
 have z:=Cv e f;rw[hf] at z;exact I.mut1 M (Yl q) hp (λa o n e=>(pX s.heap (pJ f) (UR n)).trans e) λg _=>⟨us,_,z,l,Rs.go g _ _ r⟩
def lN{T id:String}{Q:kL->kW->Prop}(pa:PlainAttrs T)(slot:Slot T name id)(Rt:Gr (.builtin id)=pure (.type "method_descriptor"))(M:Mt X o name es aR aF)
  (ev:δ (ε X.P X.w) X.A (eval o X.env) (λv s1=>(s1.TypeIs v T/\∀a,v=.ref a->∃ob,s1.heap.get? a=some ob/\ob.dict=none)/\δ (ε X.P X.w) X.A (spliced (ub aF (kh es X.env))) (λus s2=>δ (ε X.P X.w) X.A (call (.builtin id) (v::us)) Q nE s2) nE s1) nE s):δ (ε X.P X.w) X.A (eval (.Call (.Attribute o name aR) es [] aF) X.env) Q nE s:=by
 obtain⟨e,r,h1,h2⟩:=M.star;refine wpAny_Call_method_late M.base M.few M.line rfl (av ev λv s1⟨⟨ty,dc⟩,k⟩=>⟨T,id,pa,slot,Rt,ty,dc,?_⟩);rw[h1] at k⊢;exact Calls.callWith_builtin (by show(false||(ub aF r).any (·.1))=false;rw[h2]<;>rfl) (Dx k)
def Inv.quiet(I:Inv X B π Z ow s):interactive X.env=false:=by simp[interactive,I.ok.kind]
def Yq(e:s.heap.get? p=some (lo vs n)):s.TypeIs (.ref p) "list"/\∀a,uQ p=.ref a->∃ob,s.heap.get? a=some ob/\ob.dict=none:=⟨⟨_,e,rfl⟩,λa z=>by cases z;exact⟨_,e,rfl⟩⟩
def wL{E Q}(I:Inv X B π Z ow s)(M:Nm X i x)(hp:cL X s.heap x p)(h:Q (.ref p) s):δ (ε X.P X.w) X.A (eval (.Name x xp) X.env) Q E s:=let⟨mm,hn,l⟩:=hp;BT (ld I hn l h M.cd) M.db
theorem zcd{n:Nat}(h:n<=ψ):AU n=false:=ι (by lia)
def Wy{id:String}(M:Nm X i x)(slot:Slot "list" name id)(Rt:Gr (.builtin id)=pure (.type "method_descriptor"))(ha:PA X m es ga)(T:Mt X (.Name x xp) name es aR aF)(cM:QY (.Call (.Attribute (.Name x xp) name aR) es [] aF) none pos.line X.env=pure false)
  (I:Inv X B π Z ow s)(q1:ga Z=some zs)(q2:(Z[i]?).bind iq=some (io,ds)){Q:Flow->kW->Prop}
  (k:∀p us vs n s2,Sx X B π Z ow s s2->cL X s2.heap x p->Uo (RM m X.toGx (X.O B ow) s2.heap) zs us->s2.heap.get? p=some (lo vs n)->vs.length<=ψ->Rs X.toGx (X.O B ow) s2.heap ds vs->δ (ε X.P X.w) X.A (call (.builtin id) (.ref p::us)) (λ_ s'=>Q .next s') nE s2):δ (ε X.P X.w) X.A (exec (.Expr (.Call (.Attribute (.Name x xp) name aR) es [] aF) pos) X.env) Q nE s:=by
 obtain⟨p,hp,_,_⟩:=I.hol M.ix (Yl q2);obtain⟨vs,n,e,_⟩:=I.lst M.ix q2 hp;refine Ax (lN Al slot Rt T (wL I M hp ⟨Yq e,av (ha aF B π Z ow s zs I q1) λus s2 hw=>?_⟩)) I.quiet cM;obtain⟨t,r⟩:=hw;have fX:=hp.sx I t;obtain⟨vs,n,e,l,rs⟩:=t.1.lst M.ix q2 fX;exact k p us vs n s2 t fX r e l rs
theorem U9{l:List Dt}(h:Uo F (d::l) us):∃u vs,us=u::vs/\F d u/\Uo F l vs:=by
 cases h with
 |cons r t=>exact⟨_,_,rfl,r,t⟩
def eX(h:Uo F [d] us):∃u,us=[u]/\F d u:=by
 obtain⟨u,vs,rfl,r,t⟩:=U9 h
 cases t;exact⟨u,rfl,r⟩
def M7(h:Uo F [d,d0] us):∃u v,us=[u,v]/\F d u/\F d0 v:=by
 obtain⟨u,vs,rfl,r,t⟩:=U9 h;obtain⟨v,rfl,q⟩:=eX t;exact⟨u,v,rfl,r,q⟩
def c1(h:f Z=some d):aa f ae Z=some [d]:=by unfold aa ae;rw[h];rfl
theorem Hl(i:Nat)(he:PE X false e f)(n:NS e:=by intro _ _;rfl)(M:Nm X i x:=by exact⟨yk (by kernel_rfl),rfl,by decide,by decide⟩)(T:Mt X (.Name x xp) "append" [e] aR aF:=by exact⟨rfl,rfl,rfl,_,_,rfl,rfl⟩)
  (cM:QY (.Call (.Attribute (.Name x xp) "append" aR) [e] [] aF) none pos.line X.env=pure false:=by rfl):PS X (.Expr (.Call (.Attribute (.Name x xp) "append" aR) [e] [] aF) pos) (iw i f):=λB π Z ow s o I q=>by
 obtain⟨d,q1,q⟩:=kA.mp q;obtain⟨⟨io,ds⟩,q2,q⟩:=kA.mp q
 split at q<;>cases q
 have lq:ds.length<ψ:=‹_›;refine Wy M QZ AV (bY he cF n) T cM I (c1 q1) q2 λp us vs n s2 t hp r e l rs=>?_;obtain⟨u,rfl,ru⟩:=eX r;have hl:=rs.len;refine BV QZ ⟨_,e,rfl⟩ AN (AC _ _) (CY p vs.toArray n u (by rw[pA];lia)) ⟨e,?_⟩
 obtain⟨w,k⟩:=t.1.lset (t':=s2.toks) (us:=vs++[u]) M q2 hp e (f:=λx=>x.push u) (by simp) (rs.app (.cons ru .nil)) (by rw[kb,uh];lia)
 exact⟨w,t.sq.trans k⟩
open PySem.SeqAt in
open PySem.AutoSeq1 (wpAny_loadPart') in
open PySem.MeetsSeq PySem.MeetsSeq2 PySem.MeetsSeq3 in
def nU(l b:Addr)(items bO:Array kL)(n n2:Nat)(dd:Option Addr)(sl:Array (Option kL))(hs0:¬(!items.isEmpty&&AU (items.size+bO.size))=true)(hs1:items.size<=ψ)(hs2:items.size+bO.size<=ψ+1):
  Meets (gh.«list.extend» ⟨[.ref l,.ref b],[]⟩)
   (λ_ R s=>s.heap.get? l=some {cls:=.type "list",dict:=none,data:=.seq items n,slots:=#[]}/\s.heap.get? b=some {cls:=.type "tuple",dict:=dd,data:=.seq bO n2,slots:=sl}/\R (.ok (.ret QQ)) {s with heap:=s.heap.update l (pJ λx=>x++bO),toks:=s.toks}):=
 .of_wp λprog w A R s h=>by
  obtain⟨hp,g,d,tk,os⟩:=s;obtain⟨hl,hb,h⟩:=h;have f5:=AutoSeq1.sub_list_tuple;have f3:=DN;have zz:(items++bO).size<=ψ+1:=by rw[Array.size_append];exact hs2
  wp_walk using(Uh hl rfl (hz:=hs1) (_hz':=zz)),gJ hl,gJ hb
  exact⟨_,rfl,h⟩
theorem ext{of:Dt->Option (List Dt)}(M:Nm X i x)(he:PE X true e f)(n:NS e)(T:Mt X (.Name x xp) "extend" [e] aR aF)(cM:QY (.Call (.Attribute (.Name x xp) "extend" aR) [e] [] aF) none pos.line X.env=pure false)
  (hr:∀{B ow s d zs p vs n v}{Q:kL->kW->Prop},of d=some zs->RT X.toGx (X.O B ow) s.heap d v->s.heap.get? p=some (lo vs n)->vs.length<=ψ->vs.length+zs.length<=ψ->(∀us,Rs X.toGx (X.O B ow) s.heap zs us->Q .none {s with heap:=s.heap.update p (pJ λx=>x++us.toArray),toks:=s.toks})->δ (ε X.P X.w) X.A (call (.builtin "list.extend") [.ref p,v]) Q nE s):PS X (.Expr (.Call (.Attribute (.Name x xp) "extend" aR) [e] [] aF) pos) (iX i λZ=>(f Z).bind of):=λB π Z ow s o I q=>by
 obtain⟨zs,q1,q⟩:=kA.mp q;obtain⟨d,q1,q4⟩:=kA.mp q1;obtain⟨⟨io,ds⟩,q2,q⟩:=kA.mp q
 split at q<;>cases q
 refine Wy M AW PySem.F.type_list_extend (bY he cF n) T cM I (c1 q1) q2 λp us vs n s2 t hp r e l rs=>?_;obtain⟨u,rfl,ru⟩:=eX r;have hl:=rs.len;have lz:ds.length+zs.length<=ψ:=‹_›;refine hr q4 ru e l (by lia) λus ur=>?_
 have hl2:=ur.len;obtain⟨w,k⟩:=t.1.lset (t':=s2.toks) (us:=vs++us) M q2 hp e (f:=λx=>x++us.toArray) (by simp) (rs.app ur) (by rw[kb];lia)
 exact⟨w,t.sq.trans k⟩
def JV{a b:Array kL}(h:a.size+b.size<=ψ):¬(!a.isEmpty&&AU (a.size+b.size))=true:=by rw[zcd h,Dy];decide
theorem Hm(i:Nat)(he:PE X true e f)(n:NS e:=by intro _ _;rfl)(M:Nm X i x:=by exact⟨yk (by kernel_rfl),rfl,by decide,by decide⟩)(T:Mt X (.Name x xp) "extend" [e] aR aF:=by exact⟨rfl,rfl,rfl,_,_,rfl,rfl⟩)
  (cM:QY (.Call (.Attribute (.Name x xp) "extend" aR) [e] [] aF) none pos.line X.env=pure false:=by rfl):PS X (.Expr (.Call (.Attribute (.Name x xp) "extend" aR) [e] [] aF) pos) (iX i (iL f)):=ext M he n T cM λ{B ow s d zs p vs n v Q} q r e l lz z=>by
 cases d<;>cases q
 obtain⟨b,us,n2,rfl,e2,_,rs⟩:=r.lst;have h2:=rs.len;exact BV AW ⟨_,e,rfl⟩ CQ (CH _ _) (AutoSeq1.list_extend_list_list_0 p vs.toArray n b us.toArray n2 (JV (by simp;lia)) (by simpa using l) (by simp;lia)) ⟨e,e2,z us rs⟩
theorem nV(i:Nat)(he:PE X true e f)(n:NS e:=by intro _ _;rfl)(M:Nm X i x:=by exact⟨yk (by kernel_rfl),rfl,by decide,by decide⟩)(T:Mt X (.Name x xp) "extend" [e] aR aF:=by exact⟨rfl,rfl,rfl,_,_,rfl,rfl⟩)
  (cM:QY (.Call (.Attribute (.Name x xp) "extend" aR) [e] [] aF) none pos.line X.env=pure false:=by rfl):PS X (.Expr (.Call (.Attribute (.Name x xp) "extend" aR) [e] [] aF) pos) (iX i (iT f)):=ext M he n T cM λ{B ow s d zs p vs n v Q} q r e l lz z=>by
 cases d<;>cases q
 obtain⟨b,us,rfl,_,⟨⟨cls,dd,data,sl⟩,e2,hc,n2,hd⟩,_,rs⟩:=r.tup;have h2:=rs.len
 simp only at hc hd
 subst hc hd;exact BV AW ⟨_,e,rfl⟩ CQ (CH _ _) (nU p b vs.toArray us.toArray n n2 dd sl (JV (by simp;lia)) (by simpa using l) (by simp;lia)) ⟨e,e2,z us rs⟩
def zb7(vs:List kL)(n j:Nat)(u:kL):vs.toArray.setIfInBounds j u=(vs.set j u).toArray:=by simp
theorem Rs.set{G:Gx}{O:AP}{h:Heap}:∀{ds:List Dt}{vs:List kL}{j:Nat},Rs G O h ds vs->R G O h d v->Rs G O h (ds.set j d) (vs.set j v)
 |[],vs,j,r,_=>by rw[Rs] at r;subst r;exact .nil
 |_::ds,vs,0,r,z=>by rw[Rs] at r;obtain⟨_,r,rfl,_,q⟩:=r;exact .cons z q
 |_::ds,vs,j+1,r,z=>by rw[Rs] at r;obtain⟨_,r,rfl,y,q⟩:=r;exact .cons y (q.set z)
theorem nX(i:Nat)(hk:PE X true k fk)(hv:PE X false ve fv)(M:Nm X i x:=by exact⟨yk (by kernel_rfl),rfl,by decide,by decide⟩)(hs:QY ve (some (.Subscript (.Name x xp) k a8)) pos.line X.env=pure false:=by rfl):PS X (.Assign [.Subscript (.Name x xp) k a8] ve pos) (j6 i fk fv):=λB π Z ow s o I q=>by
 obtain⟨v,q1,q⟩:=kA.mp q;obtain⟨kd,q2,q⟩:=kA.mp q;obtain⟨n,q3,q⟩:=kA.mp q;obtain⟨⟨io,ds⟩,q4,q⟩:=kA.mp q;obtain⟨j,q5,q⟩:=kA.mp q
 cases q
 cases kd<;>cases q3
 have q5:ixN ds.length n=some j:=q5;refine gE (av (hv B π Z ow s v I q1) λu s1 hw=>?_) hs;obtain⟨t1,r1⟩:=hw;obtain⟨p,hp,_⟩:=t1.1.hol M.ix (Yl q4);refine wL t1.1 M hp (av (hk B π Z ow s1 _ t1.1 q2) λiv s2 hw=>?_);obtain⟨t2,r2⟩:=hw;obtain⟨tk,rfl⟩:=RT.int r2;have fX:=hp.sx t1.1 t2;obtain⟨vs,n2,e,l,rs⟩:=t2.1.lst M.ix q4 fX;obtain⟨h1,h2,h3,h4⟩:=Xo q5;have hl:=rs.len;have hn:=cU;have fin:∃aJ,Sq X B π ow s2 (Z.set i (.ow io 1 (.list (ds.set j v)))) aJ {s2 with heap:=s2.heap.update p (pJ (·.setIfInBounds j u)),toks:=s2.toks}:=t2.1.lset M q4 fX e (zb7 vs n2 j u) (rs.set (R.go (t1.1.gd t2.2) _ _ r1)) (by rw[UP];exact l)
 have fin:SP X B π ow s (.nx (Z.set i (.ow io 1 (.list (ds.set j v))))) .next {s2 with heap:=s2.heap.update p (pJ (·.setIfInBounds j u)),toks:=s2.toks}:=let⟨w,k⟩:=fin;⟨w,(t1.trans t2).sq.trans k⟩
 by_cases h0:0<=n
 ·have hk:n.toNat=j:=by rw[Du h0 h4] at h1;exact pT h1
  exact PySem.W.ki_setAt e h0 (by lia) (by rw[pA,<-hl];exact h4) (by rw[hk];exact fin)
 ·have hk:(n+(vs.toArray.size:Int)).toNat=j:=by
   rw[DJ (by lia) h3] at h1
   rw[pA,<-hl];exact pT h1
  exact PySem.W.ki_setBack e (by lia) (by rw[pA,<-hl];exact h3) (by lia) (by rw[hk];exact fin)
end
variable{bs:List Addr}
section
variable{κ α β:Type}[DecidableEq κ]
theorem jj:∀{ks:List κ}{as:List α}{k:κ}{a:α},cq ks as k=some a↔∃j,zV ks k=some j/\as[j]?=some a
 |[],as,k,a=>by simp[cq,zV]
 |k'::ks,[],k,a=>by simp[cq]
 |k'::ks,b::as,k,a=>by
  unfold cq zV
  by_cases c:k'=k
  ·simp[c]
  ·rw[η c,η c,jj]
   constructor
   ·rintro⟨j,h1,h2⟩;exact⟨j+1,by rw[h1];rfl,by simpa using h2⟩
   ·rintro⟨j,h1,h2⟩;obtain⟨n,h3,e⟩:=kA.mp h1
    cases e;exact⟨n,h3,by simpa using h2⟩
theorem ZM:∀{ks:List κ}{k:κ}{j:Nat},zV ks k=some j->j<ks.length
 |k'::ks,k,j,h=>by
  unfold zV at h
  split at h
  ·cases h;simp
  ·obtain⟨n,h1,e⟩:=kA.mp h
   cases e;have:=ZM h1;simpa using this
theorem YK:∀{ks:List κ}{as:List α}{k:κ},ks.length=as.length->(cq ks as k).isSome=yR ks k
 |[],as,k,l=>by simp[cq,yR]
 |k'::ks,[],k,l=>by cases l
 |k'::ks,b::as,k,l=>by
  unfold cq
  by_cases c:k'=k
  ·simp[c,yR]
  ·rw[η c,YK (by simpa using l)]
   unfold yR
   simp[show ¬k=k' from λz=>c z.symm]
theorem qL:∀{ks:List κ}{as:List α}{k:κ},(((ks.zip as).find? λx=>decide (x.1=k)).map (·.2))=cq ks as k
 |[],as,k=>by simp[cq]
 |k'::ks,[],k=>by simp[cq]
 |k'::ks,b::as,k=>by
  unfold cq;rw[UZ,List.find?_cons]
  by_cases c:k'=k
  ·simp[c]
  ·rw[η c,show decide ((k',b).1=k)=false by simpa using c];exact qL
theorem jl{f:α->β}:∀{ks:List κ}{as:List α}{k:κ},(cq ks as k).map f=cq ks (as.map f) k
 |[],as,k=>by simp[cq]
 |k'::ks,[],k=>by simp[cq]
 |k'::ks,b::as,k=>by
  unfold cq
  by_cases c:k'=k
  ·simp[c]
  ·rw[η c,kZ];simp only;rw[η c,jl]
def Yx{ks:List κ}{as:List α}{k:κ}{a:α}(l:ks.length=as.length):(pK ks k).length=(pV ks as k a).length:=by
 unfold pK pV;split<;>simp[l]
def tC{ks:List κ}{k:κ}:(pK ks k).length<=ks.length+1:=by unfold pK;split<;>simp
theorem M8{ks:List κ}{k:κ}(n:ks.Nodup):(pK ks k).Nodup:=by
 unfold pK
 split
 ·exact n
 ·rw[QE];refine⟨n,by simp,λx hx y hy e=>?_⟩
  simp at hy;subst hy;subst e;contradiction
theorem Ru{ks:List κ}{as:List α}{k:κ}{a:α}:ks.zip (AK (λk' b=>if k'=k then a else b) ks as)=(ks.zip as).map λkv=>if kv.1=k then(kv.1,a) else kv:=by
 induction ks generalizing as with
 |nil=>rfl
 |cons k' ks ih=>cases as with
  |nil=>rfl
  |cons b as=>simp only[UT,UZ,kZ,ih];congr 1;split<;>rfl
def nY{ks:List κ}{as:List α}{k:κ}{a:α}(l:ks.length=as.length):(pK ks k).zip (pV ks as k a)=if k∈ks then(ks.zip as).map λkv=>if kv.1=k then(kv.1,a) else kv else ks.zip as++[(k,a)]:=by
 unfold pK pV
 split
 ·exact Ru
 ·rw[Dc l];rfl
noncomputable def pB(ks:List κ)(bs:List Addr)(k:κ)(b:Addr):List Addr:=if k∈ks then bs else bs++[b]
variable{vs:List kL}
theorem zaq{ks:List κ}{k:κ}{r:kL}(l:ks.length=vs.length):stored (ks.zip vs) k r=(pK ks k).zip (pV ks vs k r):=by
 have e:((ks.zip vs).any λkv=>decide (kv.1=k))=decide (k∈ks):=by
  rw[QL,Uu]
  constructor
  ·rintro⟨y,m,e⟩;rw[<-ξ e];exact ζ (Ac m).1
  ·intro m;obtain⟨j,hj,e⟩:=pW.mp (ξ m);exact⟨(ks[j],vs[j]'(by lia)),List.mem_iff_getElem.mpr ⟨j,by rw[Qd];lia,by simp⟩,ζ e⟩
 unfold stored;rw[nY l,e]
 by_cases c:k∈ks
 ·rw[θ (ζ c),θ c]
 ·rw[η (by simpa using c),η c]
variable{b:Addr}
theorem zaw{kt:List κ}{kk:κ}{r:kL}(l1:kt.length=bs.length)(l2:bs.length=vs.length):Ep (kt.zip (bs.zip vs)) kk b r=(pK kt kk).zip ((pB kt bs kk b).zip (pV kt vs kk r)):=by
 have e:(atKey (kt.zip (bs.zip vs)) kk).isSome=decide (kk∈kt):=by
  show(((kt.zip (bs.zip vs)).find? _).map (·.2)).isSome=_
  rw[qL,YK (by rw[Qd];lia)];rfl
 unfold Ep;rw[e]
 by_cases c:kk∈kt
 ·rw[θ (ζ c)];unfold pK pV pB;rw[θ c,θ c,θ c];clear e c
  induction kt generalizing bs vs with
  |nil=>rfl
  |cons k' kt ih=>cases bs with
   |nil=>cases l1
   |cons b' bs=>cases vs with
    |nil=>cases l2
    |cons v vs=>
     simp only[UZ,kZ,UT,ih (by simpa using l1) (by simpa using l2)]
     congr 1
     unfold putAt
     split<;>rfl
 ·rw[η (by simpa using c)]
  unfold pK pV pB;rw[η c,η c,η c,Dc l2,Dc (by rw[Qd];lia)]
  rfl
def V5{kt:List κ}{kk:κ}(l1:kt.length=bs.length):(pK kt kk).length=(pB kt bs kk b).length:=by unfold pK pB;split<;>simp[l1]
def M9{F:κ->Addr->Prop}{kt:List κ}{kk:κ}(p:Uo F kt bs)(x:F kk b):Uo F (pK kt kk) (pB kt bs kk b):=by
 unfold pK pB
 split
 ·exact p
 ·exact Paired.snoc p x
end
def wM(G:Gx)(h:Heap)(p:Addr)(u:kL)(v:Option kL):Prop:=(p==UN)=false/\
 ((∃k xs,(w9 G.P G.w).is k u=true/\h.DictOf (w9 G.P G.w) p xs/\v=valueAt xs k)\/∃k b xs,u=.ref b/\(xl G.P G.w).is h k b/\h.DictOfH (xl G.P G.w) p xs/\v=(atKey xs k).map (·.2))
variable{Q:kL->kW->Prop}
section
variable{G:Gx}{O O':AP}{h h':Heap}{p a b:Addr}{d d0 k:Dt}{ds es:List Dt}{v u r:kL}{vs us:List kL}{ks:List dh}{kt:List KT}{kk:KT}{s:kW}{A:QF}{E:kL->kW->Prop}{ov:Option kL}
def Vg{kk:dh}(q:wu k=some kk)(r:RT G O h k u):(w9 G.P G.w).is kk u=true:=by
 have r:=r.elim id λ⟨_,_,z⟩=>by cases k<;>first|exact z.elim|cases q
 cases k<;>cases q
 ·rw[R] at r;obtain⟨t,rfl⟩:=r;exact zax _ t
 ·rw[R] at r;obtain⟨t,rfl⟩:=r;exact zap _ t
theorem VC:∀{ds:List Dt}{l:List Int}{vs:List kL},zn yN ds=some l->Rs G O h ds vs->ItemsAre (EJ G.P G.w) l vs
 |[],l,vs,q,r=>by cases q;rw[Rs] at r;subst r;exact .nil
 |d::ds,l,vs,q,r=>by
  obtain⟨i,q1,q⟩:=kA.mp q;obtain⟨l,q2,q⟩:=kA.mp q
  cases q;cases d<;>cases q1
  rw[Rs] at r;obtain⟨v,vs,rfl,r1,r2⟩:=r;rw[R] at r1;obtain⟨t,rfl⟩:=r1;exact .cons (by simp[EJ,Fi]) (VC q2 r2)
theorem Vb:∀{ds:List Dt}{l:KT}{vs:List kL},zn Mq ds=some l->Rs G O h ds vs->IT G.P G.w O h l vs
 |[],l,vs,q,r=>by cases q;rw[Rs] at r;subst r;exact .nil
 |d::ds,l,vs,q,r=>by
  obtain⟨i,q1,q⟩:=kA.mp q;obtain⟨l,q2,q⟩:=kA.mp q
  cases q;rw[Rs] at r;obtain⟨v,vs,rfl,r1,r2⟩:=r
  cases d with
  |int i=>cases q1;rw[R] at r1;obtain⟨t,rfl⟩:=r1;exact .a (Vb q2 r2)
  |tuple es=>
   obtain⟨l',q3,q1⟩:=kA.mp q1
   cases q1;rw[R] at r1;obtain⟨b,ws,rfl,n,⟨o,e,c,m,z⟩,_,r3⟩:=r1;exact .t n ⟨o,_,m,e,c,z,by simpa using VC q3 r3⟩ (Vb q2 r2)
  |_=>cases q1
theorem Y8(q:xQ k=some kk)(r:RT G O h k u):∃b,u=.ref b/\IK G.P G.w O h kk b:=by
 cases k with
 |tuple ds=>obtain⟨b,vs,rfl,n,⟨o,e,c,m,z⟩,_,r⟩:=r.tup;exact⟨b,rfl,n,o,_,m,e,c,z,by simpa using Vb q r⟩
 |_=>cases q
def IK.bare(x:IK G.P G.w O h kk b):(xl G.P G.w).is h kk b:=x.go (O':=λ_=>False) λa o e _=>⟨e,id⟩
def DK.of(x:DK G h p ks vs):h.DictOf (w9 G.P G.w) p (ks.zip vs):=x.2.2.2
theorem ZX{F:KT->Addr->Prop}{ks:List KT}{vs:List kL}(h:Uo F ks bs):∀x∈(ks.zip (bs.zip vs)),F x.1 x.2.1:=by
 induction h generalizing vs with
 |nil=>exact λx m=>by simp at m
 |cons r t ih=>
  intro x m
  cases vs with
  |nil=>simp at m
  |cons v vs=>
   rcases kT.mp m with rfl|m
   ·exact r
   ·exact ih x m
theorem DT.of(x:DT G O h p kt vs):∃bs,kt.length=bs.length/\bs.length=vs.length/\Uo (IK G.P G.w O h) kt bs/\h.DictOfH (xl G.P G.w) p (kt.zip (bs.zip vs)):=by
 obtain⟨bs,a,b,_,_,n,q,o,es,ep,e,ex,dd,z⟩:=x;exact⟨bs,a,b,q,o,es,ep,e,ex,dd,z,λx m=>(ZX q x m).bare,by rw[FP (by rw[Qd];lia)];exact n⟩
theorem Top.dict{R:List Dt->List kL->Prop}(t:Top G O h R d p)(c:(yf d k).isSome=true)(rk:RT G O h k u):∃vs,R (yx d) vs/\(∀c,yf d k=some c->∃ov,wM G h p u ov/\ov.isSome=c)/\∀j v,yU d k=some j->vs[j]?=some v->wM G h p u (some v):=by
 cases d with
 |dK ks ds=>
  obtain⟨vs,x,r⟩:=t;have val:∀{kk},valueAt (ks.zip vs) kk=cq ks vs kk:=qL;refine⟨vs,r,λc q=>?_,λj v q hv=>?_⟩<;>obtain⟨kk,q1,q⟩:=kA.mp q
  ·cases q;exact⟨_,⟨x.2.2.1,.inl ⟨kk,_,Vg q1 rk,x.of,rfl⟩⟩,by rw[val,YK x.1]⟩
  ·exact⟨x.2.2.1,.inl ⟨kk,_,Vg q1 rk,x.of,by rw[val,jj.mpr ⟨j,q,hv⟩]⟩⟩
 |dT ks ds=>
  obtain⟨vs,x,r⟩:=t;obtain⟨bs,l1,l2,_,dd⟩:=x.of;have sy:(p==UN)=false:=by obtain⟨_,_,_,_,sy,_⟩:=x;exact sy
  have val:∀{kk},(atKey (ks.zip (bs.zip vs)) kk).map (·.2)=cq ks vs kk:=λ{kk}=>by
   show(((ks.zip (bs.zip vs)).find? _).map (·.2)).map _=_
   rw[qL,jl,BW (by lia)]
  refine⟨vs,r,λc q=>?_,λj v q hv=>?_⟩<;>obtain⟨kk,q1,q⟩:=kA.mp q<;>obtain⟨b,rfl,hb⟩:=Y8 q1 rk
  ·cases q;exact⟨_,⟨sy,.inr ⟨kk,b,_,rfl,hb.bare,dd,rfl⟩⟩,by rw[val,YK (l1.trans l2)]⟩
  ·exact⟨sy,.inr ⟨kk,b,_,rfl,hb.bare,dd,by rw[val,jj.mpr ⟨j,q,hv⟩]⟩⟩
 |_=>cases c
def Jb(q:yy d k=some d0):(yf d k).isSome=true/\∃j,yU d k=some j/\(yx d)[j]?=some d0:=by
 cases d<;>first|cases q|(obtain⟨kk,q1,q⟩:=kA.mp q;obtain⟨j,h1,h2⟩:=jj.mp q;exact⟨by simp[yf,q1],j,by simp[yU,q1,h1],h2⟩)
theorem RT.top(x:RT G O h d v)(c:(yf d k).isSome=true):∃p,v=.ref p/\Top G O h (Rs G O h) d p:=by
 rcases x with x|x
 ·cases d with
  |dK ks ds=>rw[R] at x;obtain⟨p,vs,e,_,x⟩:=x;exact⟨p,e,vs,x⟩
  |dT ks ds=>rw[R] at x;obtain⟨p,vs,e,_,x⟩:=x;exact⟨p,e,vs,x⟩
  |_=>cases c
 ·exact x
def wM.ty(g:wM G s.heap p u ov):s.TypeIs (.ref p) "dict"/\∀a,uQ p=.ref a->∃ob,s.heap.get? a=some ob/\ob.dict=none:=by
 obtain⟨_,⟨_,_,_,⟨o,_,_,e,ex,_⟩,_⟩|⟨_,_,_,_,_,⟨o,_,_,e,ex,_⟩,_⟩⟩:=g<;>exact⟨⟨o,e,ex.1⟩,λa z=>by cases z;exact⟨o,e,ex.2.1⟩⟩
theorem fx(hu:A.units+64<ν):(xl G.P G.w).room A.in1:=by show A.units+1+8<ν;lia
def VY(hu:A.units+64<ν)(g:wM G s.heap p u (some v))(q:∀t,Q v {s with toks:=t}):δ (ε G.P G.w) A (CV (.ref p) u) Q E s:=by
 obtain⟨_,⟨k,xs,hk,dd,e⟩|⟨k,b,xs,rfl,hk,dd,e⟩⟩:=g
 ·exact wpAny_getItem_of hk dd.mapOf e.symm (q _)
 ·obtain⟨y,h1,rfl⟩:=uO.mp e.symm;exact wpAny_getItem_heap (fx hu) hk dd h1 (q _)
def Na(hu:A.units+64<ν)(g:wM G s.heap p u ov)(q:∀t,Q (.bool (!ov.isSome)) {s with toks:=t}):δ (ε G.P G.w) A (QX .NotIn u (.ref p)) Q E s:=by
 obtain⟨sy,⟨k,xs,hk,dd,rfl⟩|⟨k,b,xs,rfl,hk,dd,rfl⟩⟩:=g
 ·exact wpAny_notIn_of hk sy dd.mapOf (q _)
 ·exact wpAny_notIn_heap (fx hu) hk sy dd (by rw[Option.isSome_map] at q;exact q _)
def Jv(hu:A.units+64<ν)(g:wM G s.heap p u ov)(q:∀t,Q (ov.getD r) {s with toks:=t}):δ (ε G.P G.w) A (call (.builtin "dict.get") [.ref p,u,r]) Q E s:=by
 have ty:=g.ty.1;obtain⟨sy,⟨k,xs,hk,dd,rfl⟩|⟨k,b,xs,rfl,hk,dd,rfl⟩⟩:=g
 ·exact Er BN ty DO (Cw _ _ _) (meets_dict_get_default (w9 G.P G.w) p hk sy r) ⟨_,dd.mapOf,q _⟩
 ·exact Er BN ty DO (Cw _ _ _) (meetsH_dict_get_default (xl G.P G.w) p b sy r) ⟨fx hu,k,xs,hk,dd,q _⟩
variable{Q:Unit->kW->Prop}
theorem Hn{kk:dh}(x:DK G s.heap p ks vs)(hk:(w9 G.P G.w).is kk u=true)(l:ks.length<ψ)(q:∀h' t,Qc p s.heap h'->DK G h' p (pK ks kk) (pV ks vs kk r)->Q () {s with heap:=h',toks:=t}):δ (ε G.P G.w) A (setItem (.ref p) u r) Q E s:=by
 obtain⟨l1,l2,sy,dd⟩:=x;refine wpAny_setItem_pairs (hsz:=by rw[Qd];lia) hk dd λh' iO sb=>q h' _ sb ⟨Yx l1,?_,sy,?_⟩
 ·rw[<-Yx l1];exact uR tC l
 ·rw[<-zaq l1];exact iO
def ZO(x:DT G O s.heap p kt vs)(hO:O p)(hb:IK G.P G.w O s.heap kk b)(l:kt.length<ψ)(sb:Qc p s.heap h')(l1:kt.length=bs.length)(l2:bs.length=vs.length)(pr:Uo (IK G.P G.w O s.heap) kt bs)(iO:h'.DictOfH (xl G.P G.w) p (Ep (kt.zip (bs.zip vs)) kk b r)):DT G O h' p (pK kt kk) (pV kt vs kk r):=by
 obtain⟨_,_,_,_,sy,nd,_⟩:=x;rw[zaw l1 l2] at iO;obtain⟨o,es,ep,e,ex,dt,z,_,_⟩:=iO;have g:Gd O s.heap O h':=λa o e n=>⟨(sb.2 a λz=>n (z▸hO)).trans e,n⟩;refine⟨_,V5 l1,(V5 l1).symm.trans (Yx (l1.trans l2)),?_,sy,M8 nd,M9 (D3 (λa b=>IK.go g) pr) (hb.go g),o,es,ep,e,ex,dt,z⟩;rw[<-Yx (l1.trans l2)];exact uR tC l
theorem Jc(hu:A.units+64<ν)(hO:O p)(x:DT G O s.heap p kt vs)(hb:IK G.P G.w O s.heap kk b)(l:kt.length<ψ)(q:∀h' t,Qc p s.heap h'->DT G O h' p (pK kt kk) (pV kt vs kk r)->Q () {s with heap:=h',toks:=t}):δ (ε G.P G.w) A (setItem (.ref p) (.ref b) r) Q E s:=by
 obtain⟨bs,l1,l2,pr,dd⟩:=x.of;exact wpAny_setItem_heap (hsz:=by rw[Qd,Qd];lia) (fx hu) hb.bare dd λh' iO sb=>q h' _ sb (ZO x hO hb l sb l1 l2 pr iO)
theorem tD{κ:Type}[DecidableEq κ]{k:κ}(x:R G O h d v):∀{ks:List κ}{ds vs},Rs G O h ds vs->Rs G O h (AK (λk' b=>if k'=k then d else b) ks ds) (AK (λk' b=>if k'=k then v else b) ks vs)
 |[],ds,vs,r=>.nil
 |_::_,[],vs,r=>by rw[Rs] at r;subst r;exact .nil
 |k'::ks,d'::ds,vs,r=>by
  rw[Rs] at r;obtain⟨x',r',rfl,h1,h2⟩:=r;refine .cons ?_ (tD x h2);dsimp only;split<;>assumption
def tE{κ:Type}[DecidableEq κ]{ks:List κ}{k:κ}(r:Rs G O h ds vs)(x:R G O h d v):Rs G O h (pV ks ds k d) (pV ks vs k v):=by
 unfold pV
 split
 ·exact tD (ks:=ks) x r
 ·exact r.app (.cons x .nil)
theorem tF(hu:A.units+64<ν)(hO:O p)(t:Top G O s.heap (Rs G O s.heap) d0 p){y:Dt}(q:xi d0 k y=some d)(rk:RT G O s.heap k u)(ry:R G O s.heap y r)(z:∀h' t,Qc p s.heap h'->Top G O h' (Rs G O s.heap) d p->Q () {s with heap:=h',toks:=t}):δ (ε G.P G.w) A (setItem (.ref p) u r) Q E s:=by
 cases d0 with
 |dK ks ds=>
  obtain⟨kk,q1,q⟩:=kA.mp q
  split at q<;>cases q
  obtain⟨vs,x,rs⟩:=t;exact Hn x (Vg q1 rk) ‹_› λh' t sb x'=>z h' t sb ⟨_,x',tE rs ry⟩
 |dT ks ds=>
  obtain⟨kk,q1,q⟩:=kA.mp q
  split at q<;>cases q
  obtain⟨vs,x,rs⟩:=t;obtain⟨b,rfl,hb⟩:=Y8 q1 rk;exact Jc hu hO x hb ‹_› λh' t sb x'=>z h' t sb ⟨_,x',tE rs ry⟩
 |_=>cases q
end
section
variable{X:Cx}{B:AP}{π:Addr}{Z:En}{ow:Os}{s s1:kW}{m:Bool}{e e' k o ve:Expr}{es:List Expr}{f g fk fv z:En->Option Dt}{ga:En->Option (List Dt)}{pos a8 xp aR aF:Pos}{x:Str}{i:Nat}
def Inv.sys(I:Inv X B π Z ow s):(s.heap.objs.size==UN)=false:=beq_eq_false_iff_ne.mpr λz=>by
 obtain⟨o,_,_,e,_⟩:=I.ok.mod.glob;have:=po (I.base _ _ e);rw[z] at this;exact absurd this (by decide)
def Inv.dnew(I:Inv X B π Z ow s){d:Dt}(hd:d=.dK [] []\/d=.dT [] []):Sx X B π Z ow s {s with heap:=s.heap.push {cls:=.type "dict",data:=.dict #[]},toks:=s.toks}/\∃p,uQ s.heap.objs.size=.ref p/\s.heap.get? p=none/\Top X.toGx (λa=>X.O B ow a\/a=p) (s.heap.push {cls:=.type "dict",data:=.dict #[]}) (Rs X.toGx (λa=>X.O B ow a\/a=p) (s.heap.push {cls:=.type "dict",data:=.dict #[]})) d p:=by
 refine⟨I.kept λb o=>kK _,_,rfl,cP,?_⟩;rcases hd with rfl|rfl
 ·exact⟨[],⟨rfl,ui _,I.sys,Heap.DictOf.new s.heap⟩,.nil⟩
 ·exact⟨[],⟨[],rfl,rfl,ui _,I.sys,List.nodup_nil,.nil,_,#[],0,ke _ rfl,⟨rfl,rfl,rfl⟩,rfl,rfl⟩,.nil⟩
def Nb:PF X (.Dict [] [] pos) (dC (.dK [] [])):=λB π Z ow s d I q=>by cases q;exact FQ (I.dnew (.inl rfl))
def Nc:PF X (.Dict [] [] pos) (dC (.dT [] [])):=λB π Z ow s d I q=>by cases q;exact FQ (I.dnew (.inr rfl))
theorem Nd{T id:String}{E:kL->kW->Prop}{value iz:Expr}(hl:typeLookup (.type T) "__getitem__"=pure (some (.builtin id)))(hs:∀ov iv,subscripted iz false ov iv=operate [ov,iv] (CV ov iv))
  (h:δ (ε X.P X.w) X.A (eval value X.env) (λo aW=>δ (ε X.P X.w) X.A (eval iz X.env) (λi bV=>bV.TypeIs o T/\δ (ε X.P X.w) X.A (CV o i) Q E bV) E aW) E s):δ (ε X.P X.w) X.A (eval (.Subscript value iz pos) X.env) Q E s:=by
 refine By (Qe h (λo aW aX=>Qe aX (λi bV cf=>?_) λ_ _ x=>x) λ_ _ x=>x);obtain⟨hT,cf⟩:=cf;unfold Bb;refine kB ?_;rw[getitemInPython_of_ne hT.not_modules];refine kB (Db hT hl ?_);have fin:δ (ε X.P X.w) X.A (subscripted iz false o i) (λr eu=>δ (ε X.P X.w) X.A (letTemporaryGo value o r>>=λ_=>pure r) Q E eu) E bV:=by
  rw[hs o i];exact wpAny_operating (Qe cf (λr eu Ho=>kB (wpAny_letTemporaryGo (kR Ho))) λ_ _ x=>x)
 first
  |exact kR (kB fin)
  |exact kB (kR (kB fin))
  |exact kB fin
def nZ(hu:X.A.units+64<ν)(ho:PE X true o f)(hi:PE X true k g)(hs:∀ov iv,subscripted k false ov iv=operate [ov,iv] (CV ov iv):=by exact λ_ _=>rfl):PE X m (.Subscript o k pos) (bN f g):=λB π Z ow s d I q=>by
 obtain⟨dd,q1,q⟩:=kA.mp q;obtain⟨kd,q2,q⟩:=kA.mp q;refine Nd CR.lookup hs (av (ho B π Z ow s _ I q1) λv s1⟨t1,r1⟩=>av (hi B π Z ow s1 _ t1.1 q2) λu s2 hw=>?_);obtain⟨t2,r2⟩:=hw;obtain⟨c,j,h1,h2⟩:=Jb q;obtain⟨p,rfl,t⟩:=(RT.st r1 t1.1 t2.2).top c;obtain⟨vs,rs,_,z⟩:=t.dict c r2;obtain⟨v,hv,rv⟩:=Rs.get rs h2;have g:=z j v h1 hv;exact⟨g.ty.1,VY hu g λtk=>⟨(t1.trans t2).trans (t2.1.tok tk),.of (R.go (t2.1.gd (t2.1.tok tk).2) _ _ rv)⟩⟩
noncomputable def kHs(di:Bool)(kd dd:Dt):Option Dt:=(yf dd kd).bind λc=>some (.bool (if di=true then !c else c))
def din{di:Bool}{op:CmpOp}(hop:∀{G:Gx}{A:QF}{s:kW}{p u ov}{Q:kL->kW->Prop},A.units+64<ν->wM G s.heap p u ov->(∀t,Q (.bool (if di=true then !ov.isSome else ov.isSome)) {s with toks:=t})->δ (ε G.P G.w) A (QX op u (.ref p)) Q nE s)(hu:X.A.units+64<ν):Z2 X (QX op) (kHs di):=λB π Z ow s kd dd d u v I q ru rv=>by
 obtain⟨c,q1,z⟩:=kA.mp q
 cases z;obtain⟨p,rfl,t⟩:=rv.top (k:=kd) (by rw[q1];rfl)
 obtain⟨vs,_,z,_⟩:=t.dict (k:=kd) (by rw[q1];rfl) ru
 obtain⟨ov,g,e⟩:=z c q1;exact hop hu g λtk=>⟨I.tok tk,by rw[e];exact .bl⟩
def Nf(hu:X.A.units+64<ν):Z2 X (QX .NotIn) (kHs true):=din (λhu g q=>Na hu g q) hu
def Hp(hu:X.A.units+64<ν)(hi:PE X true k f)(ho:PE X true o g)(h1:gP .NotIn o=false:=by rfl):PT X (.Compare k [.NotIn] [o] pos) (dB (iI true f g)):=iY (Nf hu) hi ho h1
def Mt.sp2(M:Mt X o x [e,e'] aR aF){Q:List kL->kW->Prop}(n1:NS e)(n2:NS e')(h:δ (ε X.P X.w) X.A (eval e X.env) (λu s1=>δ (ε X.P X.w) X.A (eval e' X.env) (λv s2=>Q [u,v] s2) nE s1) nE s):δ (ε X.P X.w) X.A (spliced (ub aF (kh [e,e'] X.env))) Q nE s:=by
 rw[n1,n2];exact uI (av h λu s1 h=>uI (av h λv s2 h=>QD h))
theorem lP(hu:X.A.units+64<ν)(ho:PE X true o f)(he:PE X true e g)(hf:PE X false e' z)(M:Mt X o "get" [e,e'] aR aF:=by exact⟨rfl,rfl,rfl,_,_,rfl,rfl⟩)(n1:NS e:=by intro _ _;rfl)(n2:NS e':=by intro _ _;rfl):PE X m (.Call (.Attribute o "get" aR) [e,e'] [] aF) (fm f g z):=λB π Z ow s d I q=>by
 obtain⟨dd,q1,q⟩:=kA.mp q;obtain⟨kd,q2,q⟩:=kA.mp q;obtain⟨y,q3,q⟩:=kA.mp q;obtain⟨c,q4,q⟩:=kA.mp q;have cc:(yf dd kd).isSome=true:=by rw[q4];rfl
 refine lN Cy BN PySem.F.type_dict_get M (av (ho B π Z ow s _ I q1) λv s1⟨t1,r1⟩=>⟨?_,M.sp2 n1 n2 (av (he B π Z ow s1 _ t1.1 q2) λu s2⟨t2,r2⟩=>av (hf B π Z ow s2 _ t2.1 q3) λw s3⟨t3,r3⟩=>?_)⟩)
 ·obtain⟨p,rfl,t⟩:=RT.top r1 cc;obtain⟨o,h1,h2,h3⟩:∃o,s1.heap.get? p=some o/\o.ExactDict/\True:=by
   cases dd<;>first|cases q4|skip
   ·obtain⟨_,⟨_,_,_,o,_,_,e,ex,_⟩,_⟩:=t;exact⟨o,e,ex,trivial⟩
   ·obtain⟨_,⟨_,_,_,_,_,_,_,o,_,_,e,ex,_⟩,_⟩:=t;exact⟨o,e,ex,trivial⟩
  exact⟨⟨o,h1,h2.1⟩,λa z=>by cases z;exact⟨o,h1,h2.2.1⟩⟩
 ·obtain⟨p,rfl,t⟩:=(RT.st r1 t1.1 (t2.2.then t3.2)).top cc;obtain⟨vs,rs,z1,z2⟩:=t.dict cc (RT.st r2 t2.1 t3.2);have tt:=(t1.trans t2).trans t3;have go:∀{tk:Nat}{w},R X.toGx (X.O B ow) s3.heap d w->Sx X B π Z ow s {s3 with toks:=tk}/\RM m X.toGx (X.O B ow) s3.heap d w:=λ{tk w} r=>⟨tt.trans (t3.1.tok tk),.of r⟩
  cases c with
  |true=>
   obtain⟨_,j,h1,h2⟩:=Jb q;obtain⟨v,hv,rv⟩:=Rs.get rs h2;exact Jv hu (z2 j v h1 hv) λtk=>go rv
  |false=>
   cases q;obtain⟨ov,gg,e⟩:=z1 _ q4
   cases ov with
   |none=>exact Jv hu gg λtk=>go r3
   |some _=>cases e
theorem Hq{o:Option Sl}{io:Bool}{d:Dt}(h:o.bind Mr=some (io,d)):o=some (.ow io 1 d):=by
 obtain⟨sl,e,h⟩:=kA.mp h
 cases sl with
 |ow io' n d'=>
  unfold Mr at h;dsimp only at h
  split at h
  ·subst ‹n=1›;cases h;exact e
  ·cases h
 |_=>cases h
def n5(i:Nat)(hu:X.A.units+64<ν)(hk:PE X true k fk)(hv:PE X false ve fv)(M:Nm X i x:=by exact⟨yk (by kernel_rfl),rfl,by decide,by decide⟩)(hs:QY ve (some (.Subscript (.Name x xp) k a8)) pos.line X.env=pure false:=by rfl):PS X (.Assign [.Subscript (.Name x xp) k a8] ve pos) (fU i fk fv):=λB π Z ow s o I q=>by
 obtain⟨v,q1,q⟩:=kA.mp q;obtain⟨kd,q2,q⟩:=kA.mp q;obtain⟨⟨io,d0⟩,q3,q⟩:=kA.mp q;obtain⟨d,q4,q⟩:=kA.mp q
 cases q;have q5:=Hq q3;refine gE (av (hv B π Z ow s v I q1) λu s1 hw=>?_) hs;obtain⟨t1,r1⟩:=hw;obtain⟨p,hp,_⟩:=t1.1.hol M.ix q5;refine wL t1.1 M hp (av (hk B π Z ow s1 _ t1.1 q2) λiv s2 hw=>?_);obtain⟨t2,r2⟩:=hw;have fX:=hp.sx t1.1 t2;obtain⟨p',eh,_,hS,top⟩:=t2.1.hol M.ix q5;obtain rfl:=fX.uniq eh;refine tF hu (.inr (.inl ⟨i,(hS p).mpr rfl⟩)) top q4 r2 (R.go (t1.1.gd t2.2) _ _ r1) λh' tk sb nt=>?_;obtain⟨w,kk⟩:=t2.1.mut1 (t':=tk) M q5 fX (λa o n e=>(sb.2 a n).trans e) λg _=>nt.imp (Gd.less λ_ z=>z) (λ_ e=>e) λ_ _=>Rs.go g _ _;exact⟨w,(t1.trans t2).sq.trans kk⟩
end
theorem Zc{α β:Type}(g:α->β->β){f:α->β->Sem (ForInStep β)}:∀{l:List α}(c:β),(∀x∈l,∀c,f x c=pure (.yield (g x c)))->forIn l c f=pure (l.foldl (λc x=>g x c) c)
 |[],c,_=>rfl
 |x::l,c,h=>by
  rw[Bj,h x uN c,pure_bind];exact Zc g (g x c) λy hy=>h y (uM _ hy)
noncomputable def xB(env:Env)(x:Str×CE)(c:List (Str×Addr)):List (Str×Addr):=
 if x.2==uZ then(match env.cells.lookup x.1 with|some a=>(x.1,a)::c|none=>c) else c
theorem Zf{env:Env}:∀(l:List (Str×CE))(cX:List (Str×Addr)),(∀n c,cX.lookup n=some c->env.cells.lookup n=some c)->∀n c,(l.foldl (λc x=>xB env x c) cX).lookup n=some c->env.cells.lookup n=some c
 |[],cX,h,n,c,e=>h n c e
 |x::l,cX,h,n,c,e=>by
  refine Zf l (xB env x cX) (λn c e=>?_) n c e;unfold xB at e
  split at e
  ·split at e
   ·rename_i a ha
    rw[QA] at e
    split at e
    ·rename_i hb
     have hn:n=x.1:=by simpa using hb
     cases e;rw[hn];exact ha
    ·exact h n c e
   ·exact h n c e
  ·exact h n c e
theorem Je{env:Env}:∀(l:List (Str×CE))(cX:List (Str×Addr))(n:Str),((∃c,cX.lookup n=some c)\/((n,uZ)∈l/\∃c,env.cells.lookup n=some c))->∃c,(l.foldl (λc x=>xB env x c) cX).lookup n=some c
 |[],cX,n,h=>h.elim id λh=>nomatch h.1
 |x::l,cX,n,h=>by
  refine Je l (xB env x cX) n ?_;rcases h with⟨c,h⟩|⟨h,c,hc⟩
  ·left;unfold xB
   split
   ·split
    ·rw[QA]
     split
     ·exact⟨_,rfl⟩
     ·exact⟨c,h⟩
    ·exact⟨c,h⟩
   ·exact⟨c,h⟩
  ·rcases kT.mp h with e|h
   ·left;subst e;have ef:(uZ==uZ)=true:=rfl;have en:(n==n)=true:=by simp
    simp only[xB,ef,if_true,hc,QA,en];exact⟨c,rfl⟩
   ·exact .inr ⟨h,c,hc⟩
variable{env:Env}
def zd2{scope:Scope}(hf:∀n,(n,uZ)∈scope.names->∃c,env.cells.lookup n=some c):
  ∃cl,DP scope env=pure cl/\(∀n c,cl.lookup n=some c->env.cells.lookup n=some c)/\∀n,(n,uZ)∈scope.names->∃c,cl.lookup n=some c:=by
 refine⟨scope.names.foldl (λc x=>xB env x c) [],?_,Zf _ _ (λn c e=>by simp at e),λn h=>Je _ _ n (.inr ⟨h,hf n h⟩)⟩
 simp only[DP];rw[Zc (xB env) [] (λx hx c=>?_)]
 ·rfl
 ·obtain⟨n,kind⟩:=x
  by_cases hk:kind=.free
  ·subst hk;obtain⟨a,ha⟩:=hf n hx;have ef:(uZ==uZ)=true:=rfl
   simp[cellOf,ha,xB,ef]
  ·have e:(kind==uZ)=false:=by simpa using hk
   simp[e,xB]
theorem W2(env:Env)(x:Str):∀names:List (Str×CE),
  (names.map λ(n,k)=>if(k==uZ&&env.scope.kind==.function&&env.kindOf n==some .cell) then(n,AX) else(n,k)).lookup x=
  (names.lookup x).map λk=>if(k==uZ&&env.scope.kind==.function&&env.kindOf x==some .cell) then AX else k
 |[]=>rfl
 |(n,k)::r=>by
  have ih:=W2 env x r;rw[kZ]
  by_cases e:x=n
  ·subst e;have ex:(x==x)=true:=by simp
   by_cases c:(k==uZ&&env.scope.kind==.function&&env.kindOf x==some .cell)=true
   ·dsimp only;rw[θ c,QA,ex,QA,ex];exact υ some (θ c).symm
   ·dsimp only;rw[η c,QA,ex,QA,ex];exact υ some (η c).symm
  ·have e':(x==n)=false:=by simpa using e
   by_cases c:(k==uZ&&env.scope.kind==.function&&env.kindOf n==some .cell)=true<;>(dsimp only;first|rw[θ c]|rw[η c])<;>(rw[QA,e',QA,e'];exact ih)
structure qx(eZ:Scope)(N:List Str)(scope:Scope)(own:List Str)(ix:List Nat):Prop where
 kind:scope.kind=.function
 nocell:∀y∈scope.names,y.2≠AX
 names:∀y∈scope.names,y.2=NameKind.local->scope.names.lookup y.1=some .local
 free:∀y∈scope.names,y.2=uZ->eZ.names.lookup y.1=some .cell\/eZ.names.lookup y.1=some .free
 ix:∀i∈ix,i<N.length/\scope.names.lookup (N.getD i "")=some .free
noncomputable def Cx.comp(X:Cx)(scope:Scope)(own:List Str)(ix:List Nat)(cl:List (Str×Addr))(C:Addr)(rb:AP):Cx:={X with N:=own++ix.map (λi=>X.N.getD i ""),env:=Be scope cl C X.env,fn:=false,rb:=rb}
abbrev i7:Os:=λ_ _=>False
section
variable{X:Cx}{B B':AP}{π:Addr}{Z bA:En}{ow fo:Os}{s s1:kW}{eZ scope:Scope}{own:List Str}{ix:List Nat}{cl:List (Str×Addr)}{C:Addr}{rb:AP}
def Cx.comp_O(cs:∀n c,cl.lookup n=some c->X.env.cells.lookup n=some c)(bC:B C){a:Addr}:(X.comp scope own ix cl C rb).O (X.O B ow) i7 a->X.O B ow a:=λz=>by
 rcases z with z|⟨_,z⟩|z|⟨x,z⟩
 ·exact z
 ·exact z.elim
 ·exact .inl (z▸bC)
 ·exact .inr (.inr (.inr ⟨x,cs x a z⟩))
theorem Inv.comp(I:Inv X B π Z ow s)(hd:X.env.scope=eZ)(S:qx eZ X.N scope own ix)(cs:∀n c,cl.lookup n=some c->X.env.cells.lookup n=some c)(ch:∀n,(n,uZ)∈scope.names->∃c,cl.lookup n=some c)(bC:B C)(hC:∃m,s.heap.Ns C m)(nC:∀a,(a=X.env.locals\/X.cel a\/X.T a\/X.rb a)->¬a=C):
  Inv (X.comp scope own ix cl C λa=>dW ow a\/X.rb a) (X.O B ow) π (ti own.length ix Z) i7 s:=by
 have Ng:∀x,scope.names.lookup x=some .free->(Be scope cl C X.env).kindOf x=some .cell\/(Be scope cl C X.env).kindOf x=some .free:=λx h=>by
  have e:(Be scope cl C X.env).kindOf x=_:=W2 X.env x scope.names;rw[e,h,gK]
  split
  ·exact .inl rfl
  ·exact .inr rfl
 have Nh:∀x,((Be scope cl C X.env).kindOf x=some .cell\/(Be scope cl C X.env).kindOf x=some .free)->scope.names.lookup x=some .free:=λx h=>by
  have e:(Be scope cl C X.env).kindOf x=_:=W2 X.env x scope.names;rw[e] at h
  cases q:scope.names.lookup x with
  |none=>rw[q] at h;rcases h with h|h<;>cases h
  |some k=>
   have nc:=S.nocell _ (pg q);rw[q,gK] at h
   cases k<;>first|rfl|exact absurd rfl nc|(rcases h with h|h<;>cases h)
 have oc:∀{a},(X.comp scope own ix cl C λa=>dW ow a\/X.rb a).O (X.O B ow) i7 a->X.O B ow a:=Cx.comp_O cs bC;have g:Gd (X.O B ow) s.heap ((X.comp scope own ix cl C λa=>dW ow a\/X.rb a).O (X.O B ow) i7) s.heap:=Gd.less λ_=>oc;obtain⟨m0,hm0⟩:=hC;obtain⟨mm,hmm,sk⟩:=I.loc;refine⟨⟨I.ok.mod,S.kind,I.ok.glob,I.ok.blt,λx y c h1 h2=>I.ok.inj x y c (cs x c h1) (cs y c h2),λx hx=>ch x (pg (Nh x hx)),I.ok.hd⟩,I.ge,I.base,λa z=>I.bo a (oc z),λa z=>.inl (I.bt a z),λt q=>(I.tb t q).go (λa z=>.inl (oc z)) (λ_ _ e _=>e) λ_ e=>e,λa z=>I.ex z,λa z=>?_,⟨m0,hm0,λi x sl e1 e2=>?_⟩,λx c e=>I.cell x c (cs x c e),?_,λ_ _ _ z=>z.elim,λ_ _ z=>z.elim⟩
 ·rcases z with⟨j,z⟩|z
  ·obtain⟨_,nb,_,nc⟩:=I.own j a z;exact⟨.inr (.inl ⟨j,z⟩),λe=>nb (e▸bC),λ⟨x,e⟩=>nc ⟨x,cs x a e⟩⟩
  ·obtain⟨h1,_,nc⟩:=I.rb a z;exact⟨.inl h1,nC a (.inr (.inr (.inr z))),λ⟨x,e⟩=>nc ⟨x,cs x a e⟩⟩
 ·have Ni:(own++ix.map (λi=>X.N.getD i ""))[i]?=some x:=e1;unfold ti at e2
  by_cases hi:i<own.length
  ·rw[QH (by rw[Qx];exact hi),Us,θ hi] at e2
   cases e2;trivial
  ·rw[uJ (by rw[Qx];lia),Qx,kY] at e2
   rw[uJ (by lia),kY] at Ni
   cases q:ix[i-own.length]? with
   |none=>rw[q] at e2;cases e2
   |some j=>
    rw[q] at Ni e2;rw[gK,CZ] at Ni e2;obtain⟨hj,Pr⟩:=S.ix j (kg q);rw[Ni] at Pr;have eN:X.N[j]?=some x:=by rw[kC hj,<-Ni,kE,kC hj];rfl
    have kd:=S.free _ (pg Pr) rfl;rw[<-hd] at kd;have lk:∀{u},zX X.env s.heap mm x u->zX (Be scope cl C X.env) s.heap m0 x u:=λl=>by
     refine .inr ⟨Ng x Pr,?_⟩;rcases l with⟨k,_⟩|⟨_,c,ec,cell⟩
     ·have k':X.env.scope.names.lookup x=some .local:=k;rcases kd with z|z<;>(rw[k'] at z;cases z)
     ·obtain⟨c',ec'⟩:=ch x (pg Pr);have z:=cs x c' ec';rw[ec] at z;cases z;exact⟨c,ec',cell⟩
    cases w:Z[j]? with
    |none=>rw[w] at e2;subst e2;trivial
    |some cV=>
     rw[w] at e2;subst e2;have k:=sk j x cV eN w
     cases cV with
     |un=>trivial
     |fz d=>obtain⟨u,l,r⟩:=k;exact⟨u,lk l,R.go g _ _ r⟩
     |rd d=>obtain⟨u,l,r,n⟩:=k;exact⟨u,lk l,r.go g λ_ _ _ e=>e,λp e z=>.inr (n p e (oc z))⟩
     |ow io n d=>
      show Sk _ _ _ _ _ _ _ _ (if n=1 then Sl.rd d else .un)
      split
      ·subst ‹n=1›;obtain⟨p,l,_,hS,r⟩:=k;exact⟨_,lk l,.inr ⟨p,rfl,r.imp g (λ_ e=>e) λ_ _=>Rs.go g _ _⟩,λp' e z=>by cases e;exact .inl ⟨j,(hS p).mpr rfl⟩⟩
      ·trivial
 ·show(ti own.length ix Z).length=(own++ix.map (λi=>X.N.getD i "")).length
  unfold ti;rw[kb,kb,Qx,kJ,kJ]
def Inv.outC(I:Inv X B π Z ow s)(k:Sq (X.comp scope own ix cl C rb) (X.O B ow) π i7 s bA fo s1)(bC:B C)(nC:∀a,(a=X.env.locals\/X.cel a\/X.T a\/X.rb a)->¬a=C):Inv X B π Z ow s1/\∀a o,s.heap.get? a=some o->¬a=C->¬X.T a->s1.heap.get? a=some o:=by
 have kp:∀a o,s.heap.get? a=some o->¬(a=C\/X.T a)->s1.heap.get? a=some o:=λa o e n=>k.2.1.kp a o e (λz=>by
  rcases z with⟨_,z⟩|z|z
  ·exact z
  ·exact n (.inl z)
  ·exact nomatch z.1) λz=>n (.inr z)
 refine⟨I.go (V:=λa=>a=C\/X.T a) kp (λa z=>z.elim (λz=>z▸bC) (I.bt a)) (λz=>z.elim (nC _ (.inl rfl)) I.ntL) (λa⟨x,e⟩ z=>z.elim (nC a (.inr (.inl ⟨x,e⟩))) (I.ntC e)) (λa o z e nf y=>y.elim (nC a (.inr (.inr (.inr z)))) (I.nt e nf)) (λ_=>.inl) I.bt (λa z=>(I.rb a z).1) (λa z=>let⟨o,e⟩:=I.bd a z;k.2.1.ex a o e) k.1.ge λt m=>(k.1.tb t m).go (λa z=>.inl (.inl z)) (λ_ _ e _=>e) λ_ e=>e,λa o e n nt=>kp a o e λz=>z.elim n nt⟩
end
abbrev JK(cQ:List Expr)(env:Env):Sem Bool:=forIn cQ true λc r=>if r=true then do let ok <-isTrue c env (eval c env);pure (Fy ok) else pure (Fy r)
def PIf(X:Cx)(cQ:List Expr)(c:En->Option Bool):Prop:=∀B π Z ow s b,Inv X B π Z ow s->c Z=some b->δ (ε X.P X.w) X.A (JK cQ X.env) (λr s'=>r=b/\Sx X B π Z ow s s') nE s
def qG(X:Cx)(scope:Scope)(own:List Str)(ix:List Nat)(tg:Expr)(cQ:List Expr)(dG:Expr)(h:Dt->En->Option En)(c:En->Option Bool)(e:En->Option Dt):Prop:=∀cl C rb,PG (X.comp scope own ix cl C rb) tg h/\PIf (X.comp scope own ix cl C rb) cQ c/\PE (X.comp scope own ix cl C rb) false dG e
section
variable{X:Cx}{B:AP}{π:Addr}{Z:En}{ow:Os}{s:kW}{eZ scope:Scope}{own N P:List Str}{ix:List Nat}{dG tg a9:Expr}{cQ:List Expr}{pos:Pos}{it:En->Option (List Dt)}{h:Dt->En->Option En}{c:En->Option Bool}{e:En->Option Dt}{d:Dt}
def n6:PIf X [] aD:=λB π Z ow s b I q=>by cases q;exact wpAny_tests_nil ⟨rfl,I.sx⟩
def n7{t:Expr}(h:PT X t c):PIf X [t] c:=λB π Z ow s b I q=>wpAny_tests_one (h B π Z ow s b I q)
theorem zbx{prog:QT}{w:World}{A:QF}{R:GM->kW->Prop}{it cX:kL}(I:Nat->kW->Prop)
  (turn:∀n s,I n s->δ (ε prog w) A (AO it) (λr aW=>(r=none/\R (.ok .next) aW)\/∃v,r=some v/\
   δ (ε prog w) A (Bi tg it v) (λ_ bV=>δ (ε prog w) A (assign tg env v) (λ_ eu=>δ (ε prog w) A (JK cQ env) (λok Hr=>
    if ok=true then δ (ε prog w) A (eval dG env) (λx Nj=>δ (ε prog w) A (call (.builtin "list.append") [cX,x]) (λ_ Nk=>∃m,m<n/\I m Nk) nE Nj) nE Hr
    else ∃m,m<n/\I m Hr) nE eu) nE bV) nE aW) nE s)
  (n:Nat) (h:I n s):gc (ε prog w) A (.compLoop (.ListComp dG [⟨tg,a9,cQ,0⟩] scope pos) 0 it cX env) R s:=by
 refine codeAny_loop rfl I (λn s hI=>?_) n h;refine wpAny_noted (Qe (E:=nE) ?_ (λ_ _ z=>z) λ_ _ z=>z.elim);have e:=compTurn_list dG tg a9 cQ scope pos it cX env;show δ (ε prog w) A (compTurn (.ListComp dG [⟨tg,a9,cQ,0⟩] scope pos) 0 it cX env) _ _ s;rw[e];refine kB (Cf (kB (av (turn n s hI) λr aW aX=>?_)));rcases aX with⟨rfl,aX⟩|⟨v,rfl,aX⟩
 ·exact kR aX
 ·refine kB (av aX λ_ bV cf=>kB (av cf λ_ eu Ho=>kB (av Ho λok Hr Nl=>?_)))
  cases ok with
  |false=>exact kR ⟨rfl,Nl⟩
  |true=>exact kB (kB (av Nl λx Nj Rv=>kB (av Rv λ_ Nk Rw=>kR (kR ⟨rfl,Rw⟩))))
theorem VR{use:Option (kL->Sem Unit)}{RQ:kL->kW->Prop}{p0:Pos}(hd:X.env.scope=eZ)(S:qx eZ X.N scope own ix)(hi:PI X true tg a9 it)(hb:qG X scope own ix tg cQ dG h c e)(hs:∀x,Ui a9 X.env x=pure x)(I:Inv X B π Z ow s)(q:ao own.length ix it h c e Z=some d)
  (fin:∀D C s',Inv X (λa=>(B a\/a=C)\/a=D) π Z ow s'->St X.toGx bG s s'->s.heap.get? D=none->s.heap.get? C=none->D≠C->(∃m,s'.heap.Ns C m)->Top X.toGx (X.O (λa=>(B a\/a=C)\/a=D) ow) s'.heap (Rs X.toGx (X.O (λa=>(B a\/a=C)\/a=D) ow) s'.heap) d D->compPost (ε X.P X.w) X.A nE use RQ (.ref D) C (.ok .next) s'):
  δ (ε X.P X.w) X.A (comprehension (.ListComp dG [⟨tg,a9,cQ,0⟩] scope pos) scope X.env p0 (newList []) false (eval a9 X.env) use) RQ nE s:=by
 obtain⟨ds,q1,q⟩:=kA.mp q;obtain⟨r,q2,q⟩:=kA.mp q
 cases q;generalize hf:(λd=>(h d (ti own.length ix Z)).bind λbA=>(c bA).bind λb=>if b=true then(e bA).bind λy=>some (some y) else some none)=f at q2;obtain⟨cl,Ps,cs,ch⟩:=zd2 (scope:=scope) (env:=X.env) λn hn=>I.ok.has n (by have z:=S.free _ hn rfl;rw[<-hd] at z;exact z)
 refine wpAny_comprehension_free rfl hs Ps S.kind S.names (av (hi B π Z ow s ds I q1) λv s1 h1=>av h1 λM3 s2 hw=>?_);obtain⟨it,F,L,tn,e,I2,t2,nF,_,Pu,w,t0⟩:=hw;subst e;refine Qp (Dz S.nocell (by intro y hy;cases hy) (λaX cY eA=>?_) S.kind)
 dsimp only at cY eA⊢;generalize Ry:s2.heap.push {cls:=.type "list",dict:=none,data:=.seq ([]:List kL).toArray}=g3 at cY eA⊢;have hC:g3.objs.size=s2.heap.objs.size+1:=by rw[<-Ry,Uv]
 generalize eC:g3.objs.size=C at cY eA⊢;generalize eD:s2.heap.objs.size=D at*;have Nn:∀b o,g3.get? b=some o->aX.get? b=some o:=λb o e=>eA.extBut b o (by rw[<-eC];exact ut (po e)) (kK _ e)
 have mL:∀b o,s2.heap.get? b=some o->aX.get? b=some o:=λb o e=>Nn b o (by rw[<-Ry];exact kK _ e)
 have nD:s2.heap.get? D=none:=pU (by rw[eD];exact pL _)
 have nC:s2.heap.get? C=none:=pU (by lia)
 have hD:aX.get? D=some (lo [] 0):=Nn D _ (by rw[<-Ry,<-eD];exact ke _ rfl)
 have DC:D≠C:=by lia
 generalize Lx:(λa=>(B a\/a=C)\/(a=D\/F a))=B';have I4:Inv X B' π Z ow {s2 with heap:=aX,toks:=s2.toks+0}:=by
  have J:=I2.more (t':=s2.toks+0) (B':=λa=>a=D\/a=C) (λa z=>z.elim (λz=>z▸nD) λz=>z▸nC) mL λa z=>z.elim (λz=>⟨_,z▸hD⟩) λz=>by obtain⟨o,_,_,e,_⟩:=cY;exact⟨o,z▸e⟩
  rw[<-Lx];refine J.less (λa z=>?_) (λa z=>.inl (.inl (I.bt a z))) λa z=>.inl (.inl (I.rb a z).1);rcases z with(z|z)|(z|z)
  ·exact .inl (.inl z)
  ·exact .inr (.inr z)
  ·exact .inr (.inl z)
  ·exact .inl (.inr z)
 have bC:B' C:=by rw[<-Lx];exact .inl (.inr rfl)
 have bD:B' D:=by rw[<-Lx];exact .inr (.inl rfl)
 have bF:∀a,F a->B' a:=λa z=>by rw[<-Lx];exact .inr (.inr z)
 have Hs:∀a,(a=X.env.locals\/X.cel a\/X.T a\/X.rb a)->¬a=C:=I2.nf (F:=λa=>a=C) λa z=>z▸nC;have nDa:∀a,(a=X.env.locals\/X.cel a\/X.T a\/X.rb a)->¬a=D:=I2.nf (F:=λa=>a=D) λa z=>z▸nD;have Rz:=I.nf nF;have FC:∀{a},F a->¬a=C:=λz y=>by obtain⟨o,e⟩:=I2.bd _ (.inr z);rw[y,nC] at e;cases e
 have FD:∀{a},F a->¬a=D:=λz y=>by obtain⟨o,e⟩:=I2.bd _ (.inr z);rw[y,nD] at e;cases e
 have LC:∀{a},L a->¬a=C:=λz y=>I2.apart nC ((Pu _ z).1.imp (λz=>.inl (y▸z)) λz=>y▸z);have LD:∀{a},L a->¬a=D:=λz y=>I2.apart nD ((Pu _ z).1.imp (λz=>.inl (y▸z)) λz=>y▸z);have TD:¬X.T D:=λz=>nDa D (.inr (.inr (.inl z))) rfl;have g4:Gd (X.O (λa=>B a\/F a) ow) s2.heap (X.O B' ow) aX:=λa o e n=>⟨mL a o e,λz=>n (z.elim (λz=>.inl (by
  rw[<-Lx] at z;rcases z with(z|z)|(z|z)
  ·exact .inl z
  ·rw[z,nC] at e;cases e
  ·rw[z,nD] at e;cases e
  ·exact .inr z)) .inr)⟩
 have tn4:=w.keep _ _ _ _ _ t0 g4 λa o _=>mL a o;have No:∀eu:kW,eu={s2 with heap:=aX,toks:=s2.toks+0}->
   gc (ε X.P X.w) X.A (.compLoop (.ListComp dG [⟨tg,a9,cQ,0⟩] scope pos) 0 (.ref it) (.ref D) (Be scope cl C X.env)) (compPost (ε X.P X.w) X.A nE use RQ (.ref D) C) eu:=by
  rintro eu rfl;obtain⟨hg,hif,hel⟩:=hb cl C λa=>dW ow a\/X.rb a;refine zbx (λn s'=>∃i fW rs vs k,n=ds.length-i/\i<=ds.length/\Inv X B' π Z ow s'/\(∃m,s'.heap.Ns C m)/\tn i (X.O B' ow) s'.heap/\St X.toGx bG s s'/\s'.heap.get? D=some (L2.lo vs k)/\Rs X.toGx (X.O B' ow) s'.heap fW vs/\fW.length<=i/\xG f (ds.drop i)=some rs/\fW++rs=r) ?_ ds.length
   ⟨0,[],r,[],0,rfl,ui _,I4,⟨_,cY⟩,tn4,t2.then (.keep mL),hD,.nil,pL _,q2,rfl⟩
  rintro n s3 ⟨i,fW,rs,vs,k,rfl,hi,J3,hC3,M4,Lz,hD3,ro,lo3,qr,er⟩;have le:=w.le;have lv:=ro.len;have fO:∀a,F a->X.O B' ow a:=λa z=>.inl (bF a z)
  by_cases lt:i<ds.length
  ·rw[Qw lt,xG] at qr;obtain⟨o,q3,qr⟩:=kA.mp qr;obtain⟨rs',q4,qr⟩:=kA.mp qr
   cases qr;rw[<-hf] at q3;obtain⟨bA,q5,q3⟩:=kA.mp q3;obtain⟨b,q6,q3⟩:=kA.mp q3;refine av (w.item i _ _ s3 M4 fO (λa z=>J3.ex z) (kC lt)) λr4 s4⟨u,hr4,k4⟩=>.inr ⟨u,hr4,av k4 λ_ s5⟨Rq,r5,x5,Rr⟩=>?_⟩;have J5:Inv X B' π Z ow s5:=J3.nx bF x5 Rz (λ_=>id) (λa _=>Rr a) λa z=>z.elim (J3.bt a) λz=>(J3.rb a z).1;obtain⟨h5,tk5,rfl,tG⟩:=id x5;have hC5:∃m,h5.Ns C m:=by obtain⟨m,o,es,ep,e,z⟩:=hC3;exact⟨m,o,es,ep,tG _ _ (λz=>FC z rfl) e,z⟩
   have g5:Gd (X.O B' ow) s3.heap (X.O B' ow) h5:=λa o e n=>⟨tG a o (λz=>n (fO a z)) e,n⟩;have K5:=J5.comp hd S cs ch bC hC5 Hs;refine av (hg _ π _ _ _ _ bA u K5 (R.go (Gd.less λ_=>Cx.comp_O cs bC) _ _ r5) q5) λ_ s6⟨Hd,k6⟩=>av (hif _ π bA Hd s6 b k6.1 q6) λb' s7 hw=>?_;obtain⟨eb,t7⟩:=hw;subst eb;have again:∀{s8},Sx (X.comp scope own ix cl C λa=>dW ow a\/X.rb a) (X.O B' ow) π bA Hd s6 s8->Inv X B' π Z ow s8/\(∃m,s8.heap.Ns C m)/\tn (i+1) (X.O B' ow) s8.heap/\St X.toGx bG s s8/\s8.heap.get? D=some (L2.lo vs k)/\Rs X.toGx (X.O B' ow) s8.heap fW vs:=λ{s8} t8=>by
    have k8:=k6.trans t8.sq;obtain⟨J8,Np⟩:=J5.outC k8 bC Hs;have g8:Gd (X.O B' ow) h5 (X.O B' ow) s8.heap:=λa o e n=>⟨Np a o e (λz=>n (.inl (z▸bC))) λz=>n (.inl (J5.bt a z)),n⟩;obtain⟨m,hm,_⟩:=k8.1.loc;exact⟨J8,⟨m,hm⟩,w.keep _ _ _ _ _ Rq g8 λa o z e=>z.elim (λz=>Np a o e (FC z) λy=>Rz a (.inr (.inr (.inl y))) z) λz=>Np a o e (LC z) (Pu a z).2,(x5.st Lz nF).trans (W':=λa=>a=C) ⟨k8.2.1.os,λa o e n nt=>Np a o e n nt,k8.2.1.ex,k8.2.1.tg⟩ λa z=>.inr (by rw[z];exact t2.free nC),Np D _ (tG D _ (λz=>FD z rfl) hD3) DC TD,Rs.go (g5.trans g8) _ _ ro⟩
   cases b' with
   |false=>
    rw[η pb] at q3
    cases q3;obtain⟨J8,RA,RB,RC,Nq,RD⟩:=again t7;exact⟨ds.length-(i+1),by lia,i+1,fW,rs',vs,k,rfl,lt,J8,RA,RB,RC,Nq,RD,by lia,q4,er⟩
   |true=>
    rw[θ rfl] at q3;obtain⟨y,q7,q3⟩:=kA.mp q3
    cases q3;refine av (hel _ π bA Hd s7 y t7.1 q7) λv s8 hw=>?_;obtain⟨t8,r8⟩:=hw;obtain⟨J8,RA,RB,RC,Nq,RD⟩:=again (t7.trans t8);refine BV QZ ⟨_,Nq,rfl⟩ AN (AC _ _) (CY D vs.toArray k v (by rw[pA];lia)) ⟨Nq,?_⟩
    have z:=Cv Nq (λx=>x.push v);rw[show vs.toArray.push v=(vs++[v]).toArray by simp] at z
    have Pw:∀a o,¬a=D->s8.heap.get? a=some o->(s8.heap.update D (pJ λx=>x.push v)).get? a=some o:=λa o n e=>(pX s8.heap _ (UR n)).trans e;have g9:Gd (X.O B' ow) s8.heap (X.O B' ow) (s8.heap.update D (pJ λx=>x.push v)):=λa o e n=>⟨Pw a o (λz=>n (.inl (z▸bD))) e,n⟩;have x9:Nx (λa=>a=D) s8 {s8 with heap:=s8.heap.update D (pJ λx=>x.push v),toks:=s8.toks}:=⟨_,_,rfl,λa o n e=>Pw a o n e⟩;have J9:=J8.nx (B':=B') (F:=λa=>a=D) (λa z=>z▸bD) x9 nDa (λ_=>id) (λa _ e=>by subst e;exact⟨_,z⟩) λa z=>z.elim (J8.bt a) λz=>(J8.rb a z).1
    exact⟨ds.length-(i+1),by lia,i+1,fW++[y],rs',vs++[v],_,rfl,lt,J9,by obtain⟨m,o,es,ep,e,z⟩:=RA;exact⟨m,o,es,ep,Pw C _ (UR DC) e,z⟩,
     w.keep _ _ _ _ _ RB g9 λa o z e=>Pw a o (z.elim (λz=>FD z) λz=>LD z) e,x9.st RC λa z=>by rw[z];exact t2.free nD,z,(Rs.go g9 _ _ RD).app (.cons (R.go (g9.trans (Gd.less λ_ z=>z)) _ _ (R.go (Gd.less λa z=>.inl z) _ _ r8)) .nil),by rw[kb,uh];lia,q4,by rw[<-er,Ca];rfl⟩
  ·obtain rfl:i=ds.length:=by lia
   rw[FO,xG] at qr
   cases qr;rw[Ab] at er;subst er;refine av (w.done _ s3 M4 fO) λr4 s4⟨e,x⟩=>.inl ⟨e,?_⟩;have i':∀a,((B a\/a=C)\/a=D)->B' a:=λa z=>by rw[<-Lx];exact z.imp id .inl
   have nF':∀{a},((B a\/a=C)\/a=D)->¬F a:=λz y=>by
    rcases z with(z|z)|z
    ·obtain⟨o,e⟩:=I.bd _ z;rw[nF _ y] at e;cases e
    ·exact FC y z
    ·exact FD y z
   have J4:Inv X (λa=>(B a\/a=C)\/a=D) π Z ow s4:=J3.nx bF x Rz i' (λa z y=>(nF' z y).elim) λa z=>.inl (.inl (z.elim (I.bt a) λz=>(I.rb a z).1));have st4:=x.st Lz nF;obtain⟨h4,tk,rfl,lQ⟩:=x;have gz:Gd (X.O B' ow) s3.heap (X.O (λa=>(B a\/a=C)\/a=D) ow) h4:=λa o e n=>⟨lQ a o (λz=>n (fO a z)) e,λz=>n (z.imp (i' a) id)⟩;exact fin D C _ J4 st4 (t2.free nD) (t2.free nC) DC (by obtain⟨m,o,es,ep,e,z⟩:=hC3;exact⟨m,o,es,ep,lQ C _ (λz=>FC z rfl) e,z⟩) ⟨vs,k,lQ D _ (λz=>FD z rfl) hD3,by lia,Rs.go gz _ _ ro⟩
 exact codeAny_compStart_list (No _ rfl) (w.self _ 0 _ _ _ _ tn4 (No _ rfl))
def Inv.endC{D C:Addr}{h':Heap}(J:Inv X (λa=>(B a\/a=C)\/a=D) π Z ow s)(I:Inv X B π Z ow s1)(n:s1.heap.get? C=none)(sb:Qc C s.heap h'):Inv X B π Z ow {s with heap:=h',toks:=s.toks}:=
 J.nx (F:=λa=>a=C) (λa z=>.inl (.inr z)) ⟨h',_,rfl,λb o n e=>(sb.2 b n).trans e⟩ (I.nf λa z=>z▸n) (λa z=>.inl (.inl z)) (λa z e=>by obtain⟨o,q⟩:=I.bd a z;rw[e,n] at q;cases q) λa z=>z.elim (I.bt a) λz=>(I.rb a z).1
def Ht(own:List Str)(ix:List Nat)(hi:PI X true tg a9 it)(hb:qG X scope own ix tg cQ dG h c e)(S':qx eZ N scope own ix:=by exact Nr rfl (by decide+kernel))(hd:X.env.scope=eZ:=by rfl)(hN:X.N=N:=by rfl)(hs:∀x,Ui a9 X.env x=pure x:=by intro _;rfl):PF X (.ListComp dG [⟨tg,a9,cQ,0⟩] scope pos) (ao own.length ix it h c e):=λB π Z ow s d I q=>by
 subst hN;rw[eval_ListComp];refine VR (use:=none) hd S' hi hb hs I q λD C s' J t nD nC DC⟨m,hm⟩ top=>⟨m,hm,λh' sb=>?_⟩;have g:Gd (X.O (λa=>(B a\/a=C)\/a=D) ow) s'.heap (λa=>X.O B ow a\/a=D) h':=λa o e n=>⟨(sb.2 a λz=>n (.inl (.inl (.inr z)))).trans e,λz=>n (z.elim (λz=>z.imp (λz=>.inl (.inl z)) id) λz=>.inl (.inr z))⟩;exact⟨⟨J.endC I nC sb,Nx.st (F:=λa=>a=C) t ⟨h',s'.toks,rfl,λb o n e=>(sb.2 b n).trans e⟩ λa z=>z▸nC⟩,D,rfl,nD,top.imp g (λo e=>(sb.2 D DC).trans e) λ_ _=>Rs.go g _ _⟩
def Hu(i:Nat){x:Str}{a8 lR:Pos}(hN0:X.N.Nodup)(own:List Str)(ix:List Nat)(hi:PI X true tg a9 it)(hb:qG X scope own ix tg cQ dG h c e)(S':qx eZ N scope own ix:=by exact Nr rfl (by decide+kernel))(hd:X.env.scope=eZ:=by rfl)(hN':X.N=N:=by rfl)(RE:X.N[i]?=some x:=by rfl)(hx:X.env.scope.names.lookup x=some .local\/(X.fn=true/\X.env.scope.names.lookup x=some .cell):=by first|exact .inl rfl|exact .inr ⟨rfl,rfl⟩)
  (cM:QY (.ListComp dG [⟨tg,a9,cQ,0⟩] scope pos) (some (.Name x a8)) lR.line X.env=pure true:=by rfl) (hs:∀x,Ui a9 X.env x=pure x:=by intro _;rfl):PS X (.Assign [.Name x a8] (.ListComp dG [⟨tg,a9,cQ,0⟩] scope pos) lR) (aU i (ao own.length ix it h c e)):=λB π Z ow s o I q=>by
 subst hN';obtain⟨d,q1,q2⟩:=kA.mp q
 cases q2;rw[exec_Assign_Name_used _ _ _ _ cM]
 have main:=VR (p0:=a9.pos) (pos:=pos) (use:=some (assign (.Name x a8) X.env)) (RQ:=λ_ s'=>SP X B π ow s (.nx (Z.set i (.ow false 1 d))) .next s') hd S' hi hb hs I q1 λD C s' J t nD nC DC⟨m,hm⟩ top=>by
  have np:¬X.O B ow D:=I.apart nD;refine El (av (store (S:=λa=>a=D) (sl:=.ow false 1 d) J hN0 RE hx (λa z=>by subst z;exact⟨top.get,λz=>z.elim (λz=>np (.inl z)) DC,λz=>np (.inr (.inr (.inl z))),λz=>np (.inr (.inr (.inr z))),λz=>np (.inr (.inl z))⟩) (λa z=>.inl (I.rb a z).1) λh' mm l g k=>⟨D,l,nofun,λa=>⟨λz=>z.elim (·.2) λz=>absurd rfl z.1,λz=>.inl ⟨rfl,z⟩⟩,top.imp g (λo=>k D o rfl) λ_ _=>Rs.go g _ _⟩) λ_ s2 hw=>?_)
  obtain⟨J2,t2⟩:=hw;have Hs:=I.nf (F:=λa=>a=C) λa z=>z▸nC;have nW:¬X.W ow C:=λz=>by
   rcases z with⟨j,z⟩|z|z
   ·exact I.apart nC (.inr (.inl ⟨j,z⟩))
   ·exact Hs C (.inl z) rfl
   ·exact Hs C (.inr (.inl z.2)) rfl
  exact⟨m,by obtain⟨o,es,ep,e,z⟩:=hm;exact⟨o,es,ep,t2.kp C o e nW (λz=>Hs C (.inr (.inr (.inl z))) rfl),z⟩,λh' sb=>⟨_,J2.nx (F:=λa=>a=C) (λa z=>.inr z) ⟨h',_,rfl,λb o n e=>(sb.2 b n).trans e⟩ Hs (λa z=>.inl z) (λa z e=>by obtain⟨o,q⟩:=I.bd a z;rw[e,nC] at q;cases q) λa z=>z.elim (I.bt a) λz=>(I.rb a z).1,Nx.st (F:=λa=>a=C) (t.up.trans t2 λa=>.inl) ⟨h',s2.toks,rfl,λb o n e=>(sb.2 b n).trans e⟩ λa z=>z▸nC,λa⟨j,z⟩=>z.elim (λz=>.inr (by rw[z.2];exact nD)) λz=>.inl ⟨j,z.2⟩⟩⟩
 refine kB (Cf (kB ?_));exact kB (av main λ_ s' hq=>kR (kR hq))
end
variable{t:Addr}
section
variable{X:Cx}{B:AP}{π:Addr}{Z:En}{ow:Os}{s s1:kW}{m:Bool}{a b e:Expr}{es:List Expr}{f g:En->Option Dt}{ga:En->Option (List Dt)}{p pos:Pos}{x:Str}{d:Dt}{ds:List Dt}{k:List Dt->Option Dt}{id T:String}
def LF(hz:ZC X (.builtin id) k)(hg:Gl X x)(hm:X.mg x=none)(hv:uD x=some (.builtin id))(ha:PA X true (e::es) ga)(hn:x≠"__name__":=by decide)(dZ:(x==("__debug__":Str))=false:=by decide)(he:kh (e::es) X.env=(false,eval e X.env)::kh es X.env:=by rfl)(hpl:(ub pos (kh es X.env)).any (·.1)=false:=by rfl):PE X m (.Call (.Name x p) (e::es) [] pos) (aj k ga):=λB π Z ow s d I q=>by
 obtain⟨ds,q1,q⟩:=kA.mp q;refine uV (xu I hg hm hv ?_ hn dZ);exact UB (av (ha pos B π Z ow s ds I q1) λus s1⟨t,r⟩=>av (hz B π Z ow s1 ds d us t.1 q r) λv s2⟨t2,r⟩=>⟨t.trans t2,.of r⟩) he hpl
def RF(hz:ZF X (.builtin id) k)(hg:Gl X x)(hm:X.mg x=none)(hv:uD x=some (.builtin id))(ha:PA X true (e::es) ga)(hn:x≠"__name__":=by decide)(dZ:(x==("__debug__":Str))=false:=by decide)(he:kh (e::es) X.env=(false,eval e X.env)::kh es X.env:=by rfl)(hpl:(ub pos (kh es X.env)).any (·.1)=false:=by rfl):PF X (.Call (.Name x p) (e::es) [] pos) (aj k ga):=λB π Z ow s d I q=>by
 obtain⟨ds,q1,q⟩:=kA.mp q;refine uV (xu I hg hm hv ?_ hn dZ);exact UB (av (ha pos B π Z ow s ds I q1) λus s1⟨t,r⟩=>av (hz B π Z ow s1 ds d us t.1 q r) λv s2⟨t2,p,e,n,r⟩=>⟨t.trans t2,p,e,t.2.free n,r⟩) he hpl
def Nt(hz:ZF X (.type T) k)(hg:Gl X x)(hm:X.mg x=none)(hv:uD x=some (.type T))(ha:PA X true (e::es) ga)(hn:x≠"__name__":=by decide)(dZ:(x==("__debug__":Str))=false:=by decide)(he:kh (e::es) X.env=(false,eval e X.env)::kh es X.env:=by rfl)(hpl:(ub pos (kh es X.env)).any (·.1)=false:=by rfl):PF X (.Call (.Name x p) (e::es) [] pos) (aj k ga):=λB π Z ow s d I q=>by
 obtain⟨ds,q1,q⟩:=kA.mp q;refine uV (xu I hg hm hv ?_ hn dZ);exact UU (av (ha pos B π Z ow s ds I q1) λus s1⟨t,r⟩=>av (hz B π Z ow s1 ds d us t.1 q r) λv s2⟨t2,p,e,n,r⟩=>⟨t.trans t2,p,e,t.2.free n,r⟩) he hpl
theorem Nv:ZC X (.builtin "len") zu:=λB π Z ow s ds d us I q r=>by
 have hn:=cU;unfold zu at q
 split at q
 ·cases q;obtain⟨u,rfl,r1⟩:=eX r;obtain⟨p,vs,n,rfl,e,l,rs⟩:=r1.lst;have h:=rs.len;exact Calls.call_len_list ⟨_,e,rfl,n,rfl⟩ (by simp only[pA]<;>lia) ⟨I.tok _,by rw[pA,<-h];exact .int⟩
 ·cases q;obtain⟨u,rfl,r1⟩:=eX r;obtain⟨p,vs,rfl,_,e,l,rs⟩:=r1.tup;have h:=rs.len;exact len_tuple e (by simp only[pA]<;>lia) ⟨I.tok _,by rw[pA,<-h];exact .int⟩
 ·cases q
def Nw:ZC X (.builtin "abs") vA:=λB π Z ow s ds d us I q r=>by
 unfold vA at q
 split at q<;>cases q
 obtain⟨u,rfl,r1⟩:=eX r;obtain⟨t,rfl⟩:=r1.int;exact call_abs_int λu tk=>⟨I.tok _,.int⟩
def Ny{fn:kL}{gg:Int->Int->Int}(h:∀{A:QF}{s:kW}{i j:Int}{t u:Tok}{Q:kL->kW->Prop},A.handled=none->(∀h' tk v,(∀c o,s.heap.get? c=some o->h'.get? c=some o)->(∃t,v=.int (gg i j) t)->Q v {s with heap:=h',toks:=tk})->δ (ε X.P X.w) A (call fn [.int i t,.int j u]) Q nE s):ZC X fn (wJ gg):=λB π Z ow s ds d us I q r=>by
 unfold wJ at q
 split at q<;>cases q
 obtain⟨u,v,rfl,r1,r2⟩:=M7 r;obtain⟨t,rfl⟩:=r1.int;obtain⟨t',rfl⟩:=r2.int;exact h I.ok.hd λh' tk v k⟨t,e⟩=>⟨I.kept k,by rw[e];exact .int⟩
def bt_abs:uD "abs"=some (.builtin "abs"):=by decide+kernel
def bt_len:uD "len"=some (.builtin "len"):=by decide+kernel
def bt_isinstance:uD "isinstance"=some (.builtin "isinstance"):=by decide+kernel
def bt_int:uD "int"=some (.type "int"):=by decide+kernel
def bt_bool:uD "bool"=some (.type "bool"):=by decide+kernel
def bt_tuple:uD "tuple"=some (.type "tuple"):=by decide+kernel
def bt_list:uD "list"=some (.type "list"):=by decide+kernel
def bt_max:uD "max"=some (.builtin "max"):=by decide+kernel
def bt_min:uD "min"=some (.builtin "min"):=by decide+kernel
def bt_sorted:uD "sorted"=some (.builtin "sorted"):=by decide+kernel
def bt_range:uD "range"=some (.type "range"):=by decide+kernel
def bt_zip:uD "zip"=some (.type "zip"):=by decide+kernel
def bt_enumerate:uD "enumerate"=some (.type "enumerate"):=by decide+kernel
def bt_reversed:uD "reversed"=some (.type "reversed"):=by decide+kernel
def Hv(hg:Gl X "len")(hm:X.mg "len"=none)(ha:PA X true (e::es) ga)(he:kh (e::es) X.env=(false,eval e X.env)::kh es X.env:=by rfl)(hpl:(ub pos (kh es X.env)).any (·.1)=false:=by rfl):PE X m (.Call (.Name "len" p) (e::es) [] pos) (aj zu ga):=LF Nv hg hm bt_len ha (he:=he) (hpl:=hpl)
def Hw(hg:Gl X "abs")(hm:X.mg "abs"=none)(ha:PA X true (e::es) ga)(he:kh (e::es) X.env=(false,eval e X.env)::kh es X.env:=by rfl)(hpl:(ub pos (kh es X.env)).any (·.1)=false:=by rfl):PE X m (.Call (.Name "abs" p) (e::es) [] pos) (aj vA ga):=LF Nw hg hm bt_abs ha (he:=he) (hpl:=hpl)
def n8(hg:Gl X "max")(hm:X.mg "max"=none)(ha:PA X true (e::es) ga)(he:kh (e::es) X.env=(false,eval e X.env)::kh es X.env:=by rfl)(hpl:(ub pos (kh es X.env)).any (·.1)=false:=by rfl):PE X m (.Call (.Name "max" p) (e::es) [] pos) (aj (wJ λi j=>if j>i then j else i) ga):=LF (Ny λhd q=>max_two_ints hd λh' tk k=>q h' tk _ k (by split<;>exact⟨_,rfl⟩)) hg hm bt_max ha (he:=he) (hpl:=hpl)
def n9(hg:Gl X "min")(hm:X.mg "min"=none)(ha:PA X true (e::es) ga)(he:kh (e::es) X.env=(false,eval e X.env)::kh es X.env:=by rfl)(hpl:(ub pos (kh es X.env)).any (·.1)=false:=by rfl):PE X m (.Call (.Name "min" p) (e::es) [] pos) (aj (wJ λi j=>if j<i then j else i) ga):=LF (Ny λhd q=>min_two_ints hd λh' tk k=>q h' tk _ k (by split<;>exact⟨_,rfl⟩)) hg hm bt_min ha (he:=he) (hpl:=hpl)
def Hx:ZF X (.type "list") yv:=λB π Z ow s ds d us I q r=>by
 unfold yv at q
 split at q
 ·cases q;obtain⟨u,rfl,r1⟩:=eX r;obtain⟨p,vs,n,rfl,e,l,rs⟩:=r1.lst;exact call_list_seq p (.inl rfl) e rfl rfl (λh' c' kp e=>I.lnew (t':=s.toks) rs l kp cP e) (by simpa using l)
 ·cases q;obtain⟨u,rfl,r1⟩:=eX r;obtain⟨p,vs,rfl,_,⟨o,e,hc,n,hd⟩,l,rs⟩:=r1.tup;exact call_list_seq p (.inr rfl) e hc hd (λh' c' kp e=>I.lnew (t':=s.toks) rs l kp cP e) (by simpa using l)
 ·cases q
def og(hg:Gl X "list")(hm:X.mg "list"=none)(ha:PA X true (e::es) ga)(he:kh (e::es) X.env=(false,eval e X.env)::kh es X.env:=by rfl)(hpl:(ub pos (kh es X.env)).any (·.1)=false:=by rfl):PF X (.Call (.Name "list" p) (e::es) [] pos) (aj yv ga):=Nt Hx hg hm bt_list ha (he:=he) (hpl:=hpl)
theorem Hy(ha:PE X true a f)(hb:PE X true b g):PF X (.BinOp a .Add b pos) (d2 zR f g):=λB π Z ow s d I q=>by
 obtain⟨x,qa,q⟩:=kA.mp q;obtain⟨y,qb,q⟩:=kA.mp q;unfold zR at q
 split at q
 ·split at q<;>cases q
  have lq:=‹_<=ψ›;refine CU (av (ha B π Z ow s _ I qa) λv s1⟨t1,r1⟩=>av (hb B π Z ow s1 _ t1.1 qb) λu s2 hw=>?_);obtain⟨t2,r2⟩:=hw;obtain⟨p,vs,n,rfl,e,l,rs⟩:=(RT.st r1 t1.1 t2.2).lst;obtain⟨p2,Nz,n2,rfl,e2,l2,NA⟩:=RT.lst r2;have h1:=rs.len;have h2:=NA.len;refine PySem.P.add_list e e2 ?_ (by rw[pA,pA];lia)
  rw[show vs.toArray++Nz.toArray=(vs++Nz).toArray by simp]
  obtain⟨t3,p,e,n,r⟩:=t2.1.lnew (t':=s2.toks) (n:=0) (rs.app NA) (by rw[kb];lia) (λb o=>kK (lo (vs++Nz) 0)) cP (ke _ rfl)
  exact⟨(t1.trans t2).trans t3,p,e,(t1.trans t2).2.free n,r⟩
 ·cases q
def oh{prog:QT}{w:World}{A:QF}{E:kL->kW->Prop}{b:Addr}{vs ws:List kL}(ht:IsTup s.heap t vs.toArray)(hb:IsTup s.heap b ws.toArray)(hv:vs≠[])
  (h1:ws=[]->Q (.ref t) s)(h2:ws≠[]->Q (.ref s.heap.objs.size) {s with heap:=s.heap.push {cls:=.type "tuple",data:=.seq (vs++ws).toArray}})(hsz:vs.length+ws.length<=ψ):δ (ε prog w) A (binaryOp .Add (.ref t) (.ref b)) Q E s:=by
 obtain⟨⟨cls,dd,data,sl⟩,ho,hc,n,hd⟩:=_root_.id ht;obtain⟨⟨cls2,LG,data2,LH⟩,tH,Hz,n2,mM⟩:=_root_.id hb
 simp only at hc hd Hz mM
 subst hc hd Hz mM
 by_cases hw:ws=[]
 ·exact concat_meets ⟨_,ho,rfl⟩ ⟨_,tH,rfl⟩ FR seq_tuple_add DQ Cz (Cg _ _) (tuple_addW1 t b vs.toArray ws.toArray n n2 dd LG sl LH (by simpa using hv) (by simp[hw])) ⟨ho,tH,h1 hw⟩
 ·refine concat_meets ⟨_,ho,rfl⟩ ⟨_,tH,rfl⟩ FR seq_tuple_add DQ Cz (Cg _ _) (tuple_addW2 t b vs.toArray ws.toArray n n2 dd LG sl LH (by simpa using hv) (by simpa using hw) (by rw[pA,pA];exact hsz)) ⟨ho,tH,?_⟩
  rw[show vs.toArray++ws.toArray=(vs++ws).toArray by simp]
  exact h2 hw
theorem HR:Z2 X (binaryOp .Add) yV:=λB π Z ow s x y d v u I q r1 r2=>by
 unfold yV at q
 split at q
 ·split at q<;>cases q
  have lq:=‹_<=ψ›;obtain⟨p,vs,rfl,np,e,l,rs⟩:=r1.tup;obtain⟨p2,Nz,rfl,_,e2,l2,NA⟩:=r2.tup;have h1:=rs.len;have h2:=NA.len;refine oh e e2 (by rintro rfl;cases h1) (λz=>⟨I.sx,?_⟩) (λz=>?_) (by lia)
  ·subst z;have z2:=QV h2;subst z2;rw[Ab,R];exact⟨p,vs,rfl,np,e,l,rs⟩
  ·have t:=I.kept (t':=s.toks) λb o=>kK {cls:=.type "tuple",data:=.seq (vs++Nz).toArray};refine⟨t,?_⟩;rw[R];exact⟨_,_,rfl,I.fresh,Gn _ _,by rw[kb];lia,Rs.go (I.gd t.2) _ _ (rs.app NA)⟩
 ·cases q
def oo(ha:PE X true a f)(hb:PE X true b g):PE X m (.BinOp a .Add b pos) (d2 yV f g):=o2 HR ha hb
def PO(X:Cx)(e:Option Expr)(f:En->Option (Option Int)):Prop:=∀B π Z ow s o,Inv X B π Z ow s->f Z=some o->δ (ε X.P X.w) X.A (evalPart e X.env) (λu s'=>Sx X B π Z ow s s'/\IsPart u o) nE s
def ot:PO X none oN:=λB π Z ow s o I q=>by cases q;rw[ET];exact kR ⟨I.sx,.none⟩
def HU(h:PE X true e f):PO X (some e) (oS f):=λB π Z ow s o I q=>by
 obtain⟨x,q1,q2⟩:=kA.mp q;rw[evalPart_some];refine av (h B π Z ow s x I q1) λv s1 hw=>?_;obtain⟨t,r⟩:=hw
 cases x<;>cases q2
 obtain⟨tk,rfl⟩:=RT.int r;exact⟨t,.int _ tk⟩
theorem zb9(lo hi:Option Int)(n:Nat):(hU lo hi none n).1=((fR n 0 lo:Nat):Int)/\(hU lo hi none n).2.1=((fR n n hi:Nat):Int)/\(hU lo hi none n).2.2=1:=by
 refine⟨?_,?_,rfl⟩
 ·cases lo with
  |none=>simp[hU,fR]
  |some i=>
   simp only[hU,fR,FS,show(1:Int)>0 by decide,if_true]
   by_cases h:i<0<;>simp only[h,if_true,if_false]<;>lia
 ·cases hi with
  |none=>simp[hU,fR]
  |some i=>
   simp only[hU,fR,FS,show(1:Int)>0 by decide,if_true]
   by_cases h:i<0<;>simp only[h,if_true,if_false]<;>lia
def zb5(aS:List kL)(lo hi:Option Int):FU aS.toArray lo hi none=(y0 aS lo hi).toArray:=by
 obtain⟨h1,h2,h3⟩:=zb9 lo hi aS.toArray.size;unfold FU;rw[h1,h2,h3];simp only[sliceRange_one,pick_run,pA]<;>rfl
theorem Rs.drop{G:Gx}{O:AP}{h:Heap}:∀{ds vs}(n:Nat),Rs G O h ds vs->Rs G O h (ds.drop n) (vs.drop n)
 |ds,vs,0,r=>r
 |[],vs,n+1,r=>by rw[Rs] at r;subst r;exact .nil
 |d::ds,vs,n+1,r=>by rw[Rs] at r;obtain⟨_,r,rfl,_,q⟩:=r;exact q.drop n
theorem Rs.take{G:Gx}{O:AP}{h:Heap}:∀{ds vs}(n:Nat),Rs G O h ds vs->Rs G O h (ds.take n) (vs.take n)
 |ds,vs,0,r=>.nil
 |[],vs,n+1,r=>by rw[Rs] at r;subst r;exact .nil
 |d::ds,vs,n+1,r=>by rw[Rs] at r;obtain⟨_,r,rfl,x,q⟩:=r;exact .cons x (q.take n)
theorem NB{lo hi:Option Expr}{fl fh:En->Option (Option Int)}{p2:Pos}(he:PE X true e f)(hl:PO X lo fl)(hu:PO X hi fh):PF X (.Subscript e (.Slice lo hi none p2) pos) (fS f fl fh):=λB π Z ow s d I q=>by
 obtain⟨d0,q1,q⟩:=kA.mp q;obtain⟨l,q2,q⟩:=kA.mp q;obtain⟨u,q3,q⟩:=kA.mp q;obtain⟨ds,q4,q⟩:=kA.mp q
 cases q
 cases d0<;>cases q4
 refine By (av (he B π Z ow s _ I q1) λv s1⟨t1,r1⟩=>Fj (av (hl B π Z ow s1 l t1.1 q2) λvl s2⟨t2,pl⟩=>av (hu B π Z ow s2 u t2.1 q3) λvu s3 hw=>?_));obtain⟨t3,pu⟩:=hw;rw[ET];refine kR ?_;have t4:=t3.1.kept (t':=s3.toks) λb ob q=>kK {cls:=.type "slice",data:=.fields #[vl,vu,.none]} q;obtain⟨p,vs,n,rfl,e,lz,rs⟩:=(RT.st r1 t1.1 ((t2.trans t3).trans t4).2).lst;have il:(s3.heap.push {cls:=.type "slice",data:=.fields #[vl,vu,.none]}).IsList p vs.toArray:=⟨_,e,rfl,n,rfl⟩;show δ _ _ (Bb _ (.Slice lo hi none p2) (.ref p) (.ref s3.heap.objs.size)) _ _ _;refine tail_any (ops:=[.ref s3.heap.objs.size,.ref p]) il.typeIs As.lookup (Ch il (CI ..) pl pu .none (by simp) ?_ (by simpa using lz)) (by with_unfolding_all rfl)
 rw[zb5];have tt:=(t1.trans (t2.trans t3)).trans t4;obtain⟨t5,p,e,n,r⟩:=t4.1.lnew (t':=s3.toks) (n:=0) (us:=y0 vs l u) (ds:=y0 ds l u) (by unfold y0;rw[rs.len];exact(rs.drop _).take _) (by unfold y0;rw[uC,UC];lia) (λb o=>kK (L2.lo (y0 vs l u) 0)) cP (ke _ rfl)
 exact⟨tt.trans t5,p,e,tt.2.free n,r⟩
theorem HV(e:U2 d=some T){v:kL}(r:RT X.toGx (X.O B ow) s.heap d v):s.TypeIs v T:=by
 cases d with
 |none=>cases e;have r:=r.elim _root_.id λ⟨_,_,z⟩=>z.elim;rw[R] at r;subst r;rfl
 |bool _=>cases e;rw[r.bl];rfl
 |int _=>cases e;obtain⟨t,rfl⟩:=r.int;exact typeIs_int s _ t
 |str _=>cases e;have r:=r.elim _root_.id λ⟨_,_,z⟩=>z.elim;rw[R] at r;obtain⟨t,rfl⟩:=r;exact typeIs_str s _ t
 |list _=>cases e;obtain⟨p,vs,n,rfl,e,_⟩:=r.lst;exact⟨_,e,rfl⟩
 |tuple _=>cases e;obtain⟨p,vs,rfl,_,⟨o,e,c,_⟩,_⟩:=r.tup;exact⟨o,e,c⟩
 |_=>cases e
structure LI(T:String):Prop where
 ty:Gr (.type T)=pure (.type "type")
 sub:∀Tx∈["NoneType","bool","int","str","list","tuple"],Am (.type Tx) (.type T)=pure (xH Tx T)
 ne:∀Tx∈["NoneType","bool","int","str","list","tuple"],xH Tx T=false->(Ua Tx==Ua T)=false
theorem isi_mk(ty:Gr (.type T)=pure (.type "type"))(h1:Am (.type "NoneType") (.type T)=pure (xH "NoneType" T))(h2:Am (.type "bool") (.type T)=pure (xH "bool" T))(h3:Am (.type "int") (.type T)=pure (xH "int" T))(h4:Am (.type "str") (.type T)=pure (xH "str" T))(h5:Am (.type "list") (.type T)=pure (xH "list" T))(h6:Am (.type "tuple") (.type T)=pure (xH "tuple" T))
  (ne:∀Tx∈["NoneType","bool","int","str","list","tuple"],xH Tx T=false->(Ua Tx==Ua T)=false):LI T:=⟨ty,λTx h=>by simp only[kT,pe,or_false] at h;rcases h with rfl|rfl|rfl|rfl|rfl|rfl<;>assumption,ne⟩
def isi_int:LI "int":=by apply isi_mk<;>first|kernel_rfl|(rw[UI];kernel_rfl)|decide+kernel
def isi_bool:LI "bool":=by apply isi_mk<;>first|kernel_rfl|(rw[UI];kernel_rfl)|decide+kernel
def isi_tuple:LI "tuple":=by apply isi_mk<;>first|kernel_rfl|(rw[UI];kernel_rfl)|decide+kernel
def isi_list:LI "list":=by apply isi_mk<;>first|kernel_rfl|(rw[UI];kernel_rfl)|decide+kernel
theorem HW{y:Str}{p1:Pos}(h:LI T)(hg:Gl X "isinstance")(hm:X.mg "isinstance"=none)(ha:PE X true a f)(hg':Gl X y)(ou:X.mg y=none)(hv:uD y=some (.type T))(n:NS a:=by intro _ _;rfl)(hn:y≠"__name__":=by decide)(dZ:(y==("__debug__":Str))=false:=by decide):PE X m (.Call (.Name "isinstance" p) [a,.Name y p1] [] pos) (d1 (yg T) f):=λB π Z ow s d I q=>by
 obtain⟨x,q1,q⟩:=kA.mp q;obtain⟨Tx,q2,q⟩:=kA.mp q
 cases q;refine uV (xu I hg hm bt_isinstance ?_);refine UB ?_ (n _ _) rfl;rw[n];refine uI (av (ha B π Z ow s x I q1) λv s1 hw=>?_);obtain⟨t,r⟩:=hw;show δ _ _ (spliced (ub pos [(false,eval (.Name y p1) X.env)])) _ _ s1;refine uI (xu t.1 hg' ou hv (QD ?_) hn dZ);have ty:=HV q2 r;have tx:Tx∈["NoneType","bool","int","str","list","tuple"]:=by cases x<;>cases q2<;>simp
 have sb:=h.sub Tx tx
 cases eb:xH Tx T with
 |true=>rw[eb] at sb;exact call_isinstance_yes ty h.ty sb ⟨t,.of .bl⟩
 |false=>
  rw[eb] at sb;have ne:=h.ne Tx tx eb;have fin:Sx X B π Z ow s {s1 with toks:=s1.toks+1}/\RM m X.toGx (X.O B ow) s1.heap (.bool false) (.bool false):=⟨t.trans (t.1.tok _),.of .bl⟩
  cases x with
  |none=>cases q2;have r:=r.elim _root_.id λ⟨_,_,z⟩=>z.elim;rw[R] at r;subst r;exact gL (isinstance_false_none ne h.ty sb) fin
  |bool _=>cases q2;rw[r.bl];exact gL (isinstance_false_bool ne h.ty sb) fin
  |int _=>cases q2;obtain⟨t',rfl⟩:=RT.int r;exact gL (isinstance_false_int ne h.ty sb) fin
  |str _=>cases q2;have r:=r.elim _root_.id λ⟨_,_,z⟩=>z.elim;rw[R] at r;obtain⟨t',rfl⟩:=r;exact gL (isinstance_false_str ne h.ty sb) fin
  |list _=>cases q2;obtain⟨p,vs,n,rfl,e,_⟩:=RT.lst r;exact gL (isinstance_false_list ne h.ty sb) ⟨ty,fin⟩
  |tuple _=>cases q2;obtain⟨p,vs,rfl,_⟩:=RT.tup r;exact gL (isinstance_false_tuple ne h.ty sb) ⟨ty,fin⟩
  |_=>cases q2
end
variable{i:Nat}{aS xs ys:Array kL}
section
variable{prog:QT}{w:World}{A:QF}{E:kL->kW->Prop}{s:kW}
variable{R:kL->kW->Prop}
def Zo{c:Addr}{v:kL}(hi:s.heap.IsTupleIter c t i)(ht:s.heap.IsTuple t aS)(hv:aS[i]?=some v)
  (hR:∀g,g.IsTupleIter c t (i+1)->Qc c s.heap g->R v {s with heap:=g}):δ (ε prog w) A (QI (.ref c)) R E s:=by
 obtain⟨o,ho,hc,hd⟩:=id hi;obtain⟨o2,tH,_,n2,mM⟩:=ht;unfold QI;refine kB (QB (name:=uW "__next__") hi.typeIs Qq (QN Qq hi.typeIs An ?_ (Ah _)));show δ _ _ (field (.ref c) 0>>=_) _ _ s;refine kB (QW ho hd (x:=.ref t) rfl ?_);show δ _ _ (if(uQ t==QQ)=true then _ else _) _ _ s;rw[η (show ¬((uQ t==QQ)=true) from pb)];show δ _ _ (field (.ref c) 1>>=_) _ _ s;refine kB (QW ho hd (x:=.int i 0) rfl ?_);show δ _ _ (Bv (.ref t)>>=_) _ _ s;refine kB (uv tH mM ?_);simp only[uk,hv];refine kB (Ay ho hd (by simp) (kR ⟨v,rfl,kR (hR _ ⟨_,uo _ ho (Di (Ai hd _)),(Es ..).trans hc,?_⟩ (QR ..))⟩));rw[Ai hd];simp[Uq]
def zd0{c:Addr}(hh:A.handled=none)(hi:s.heap.IsTupleIter c t i)(ht:s.heap.IsTuple t aS)(hv:aS[i]?=none)
  (hE:∀g e,Fk c s.heap g->(∃o,g.get? e=some o/\o.cls=.type "StopIteration")->E (.ref e) {s with heap:=g}):δ (ε prog w) A (QI (.ref c)) R E s:=by
 obtain⟨o,ho,hc,hd⟩:=id hi;obtain⟨o2,tH,_,n2,mM⟩:=ht;unfold QI;refine kB (QB (name:=uW "__next__") hi.typeIs Qq (QN Qq hi.typeIs An ?_ (Ah _)));show δ _ _ (field (.ref c) 0>>=_) _ _ s;refine kB (QW ho hd (x:=.ref t) rfl ?_);show δ _ _ (if(uQ t==QQ)=true then _ else _) _ _ s;rw[η (show ¬((uQ t==QQ)=true) from pb)];show δ _ _ (field (.ref c) 1>>=_) _ _ s;refine kB (QW ho hd (x:=.int i 0) rfl ?_);show δ _ _ (Bv (.ref t)>>=_) _ _ s;refine kB (uv tH mM ?_);simp only[uk,hv];refine kB (AD (kB (Ay ho hd (by simp) ?_)));show δ _ _ (GN (.type "StopIteration") []>>=_) _ _ _
 refine kB ?_;simp only[GN,newTuple];refine kB (Qp ?_ (by size_fits))
 refine kB (m:=AE _ _) (Cb (a:=QQ) (by first|rfl|(simp only[AE];rfl)) ?_);refine Qp ?_ (by size_fits)
 simp only[raiseNew];refine kB (EU ?_);first|rw[show A.in1.handled=none from hh]|rw[hh]
 refine kB (kR (Fl ?_));exact hE _ _ (((QR ..).extBut.push _).push _) ⟨_,ke _ rfl,rfl⟩
variable{R:Option kL->kW->Prop}
def ZY{z p i1 i2 l1 l2:Addr}{k1 k2:Nat}{x y a b:kL}(D:ZipApart z p q i1 i2 l1 l2)(hz:IsZip s.heap z p q .none)(hp:Uw s.heap p (.ref i1) (.ref i2))(hq:Uw s.heap q a b)
  (h1:s.heap.IsTupleIter i1 l1 k1)(h2:s.heap.IsTupleIter i2 l2 k2)(t1:s.heap.IsTuple l1 xs)(t2:s.heap.IsTuple l2 ys)(hx:xs[k1]?=some x)(hy:ys[k2]?=some y)
  (hR:∀g,IsZip g z p q (Uq s.heap.objs.size)->Uw g q x y->g.IsTupleIter i1 l1 (k1+1)->g.IsTupleIter i2 l2 (k2+1)->Uw g s.heap.objs.size x y->g.objs.size=s.heap.objs.size+1->
   (∀c o,c≠z->c≠q->c≠i1->c≠i2->s.heap.get? c=some o->g.get? c=some o)->R (some (.ref s.heap.objs.size)) {s with heap:=g}):δ (ε prog w) A (AO (.ref z)) R E s:=by
 have hT:s.TypeIs (.ref z) "zip":=⟨_,hz,rfl⟩;unfold AO;refine kB (gQ (QB (name:=uW "__next__") hT gU (QN gU hT DR ?_ (DA _))));show δ _ _ (field (.ref z) 2>>=_) _ _ s;refine kB (QW hz rfl (x:=.bool false) rfl ?_);show δ _ _ (field (.ref z) 3>>=_) _ _ s;refine kB (QW hz rfl (x:=.ref p) rfl (kB (uv hp rfl ?_)));show δ _ _ (Qa (.ref z)>>=_) _ _ s;refine kB ?_;unfold Qa;refine kB (QW hz rfl (x:=.none) rfl (kR ?_));simp only[if_true];refine kB (AD (kB (QW hz rfl (x:=.ref q) rfl (kB (gG hz (by simp) λg1 z1 b1=>?_)))))
 replace z1:IsZip g1 z p q .ellipsis:=z1
 refine kB ?_;simp only[FV,Fz,Bj,EA];refine kB (kB (EV ?_));show δ _ _ (QI (.ref i1)>>=_) _ _ _;refine kB (Zo (h1.extBut b1.extBut D.i1z) (t1.extBut b1.extBut D.l1z) hx λg2 j1 b2=>kR ?_);have q2:Uw g2 q a b:=b2.extBut _ _ D.TOi1 (b1.extBut _ _ D.TOz hq);refine kB (uv q2 rfl (kB (EB q2 λg3 q3 b3=>?_)));replace q3:Uw g3 q x b:=q3;refine kB (AF (kR (kB (kB (EV ?_)))));show δ _ _ (QI (.ref i2)>>=_) _ _ _;refine kB (Zo (((h2.extBut b1.extBut D.i2z).extBut b2.extBut D.i12.symm).extBut b3.extBut D.TOi2.symm) (((t2.extBut b1.extBut D.l2z).extBut b2.extBut D.l2i1).extBut b3.extBut D.l2TO) hy λg4 j2 b4=>kR ?_);have q4:Uw g4 q x b:=b4.extBut _ _ D.TOi2 q3;refine kB (uv q4 rfl (kB (EB q4 λg5 q5 b5=>?_)));replace q5:Uw g5 q x y:=q5;refine kB (AF (kR (kR (kB (uv q5 rfl (kB (wpAny_newTuple ?_)))))));have sz:g5.objs.size=s.heap.objs.size:=by rw[b5.1,b4.1,b3.1,b2.1,b1.1]
 have z5:IsZip g5 z p q .ellipsis:=b5.extBut _ _ D.TOz.symm (b4.extBut _ _ D.i2z.symm (b3.extBut _ _ D.TOz.symm (b2.extBut _ _ D.i1z.symm z1)));have k5:∀c o,c≠z->c≠q->c≠i1->c≠i2->s.heap.get? c=some o->g5.get? c=some o:=λc o c1 c2 c3 c4 e=>b5.extBut _ _ c2 (b4.extBut _ _ c4 (b3.extBut _ _ c2 (b2.extBut _ _ c3 (b1.extBut _ _ c1 e))));have u1:g5.IsTupleIter i1 l1 (k1+1):=((j1.extBut b3.extBut D.TOi1.symm).extBut b4.extBut D.i12).extBut b5.extBut D.TOi1.symm;have u2:g5.IsTupleIter i2 l2 (k2+1):=j2.extBut b5.extBut D.TOi2.symm;have zl:z<g5.objs.size:=po z5;show δ _ _ (AQ (.ref z) (.ref g5.objs.size)>>=_) _ _ _;refine kB ?_;unfold AQ;have z6:IsZip (g5.push {cls:=.type "tuple",data:=.seq #[x,y]}) z p q .ellipsis:=kK _ z5;refine kB (gG z6 (by simp) λg7 z7 b7=>?_);replace z7:IsZip g7 z p q (Uq g5.objs.size):=z7
 refine gG z7 (by simp) λg8 z8 b8=>?_;replace z8:IsZip g8 z p q (Uq g5.objs.size):=z8
 have up:∀c o,c≠z->g5.get? c=some o->g8.get? c=some o:=λc o c1 e=>b8.extBut _ _ c1 (b7.extBut _ _ c1 (kK _ e));have w8:Uw g8 g5.objs.size x y:=b8.extBut _ _ (Az zl) (b7.extBut _ _ (Az zl) (ke _ rfl));have s8:g8.objs.size=g5.objs.size+1:=by rw[b8.1,b7.1,Uv]
 rw[sz] at z8 w8 s8;refine kR ⟨_,rfl,kR ?_⟩;show R (some (.ref g5.objs.size)) _;rw[sz];exact hR g8 z8 (up _ _ D.TOz q5) (u1.at λo e=>up _ o D.i1z e) (u2.at λo e=>up _ o D.i2z e) w8 s8 λc o c1 c2 c3 c4 e=>up c o c1 (k5 c o c1 c2 c3 c4 e)
def zbd{z p i1 i2 l1 l2:Addr}{k1:Nat}{a b:kL}(hh:A.handled=none)(D:ZipApart z p q i1 i2 l1 l2)(hz:IsZip s.heap z p q .none)(hp:Uw s.heap p (.ref i1) (.ref i2))(hq:Uw s.heap q a b)
  (h1:s.heap.IsTupleIter i1 l1 k1)(t1:s.heap.IsTuple l1 xs)(hx:xs[k1]?=none)
  (hR:∀g,(∀c o,c≠z->c≠q->c≠i1->c≠i2->s.heap.get? c=some o->g.get? c=some o)->R none {s with heap:=g}):δ (ε prog w) A (AO (.ref z)) R E s:=by
 have hT:s.TypeIs (.ref z) "zip":=⟨_,hz,rfl⟩;unfold AO;refine kB (gQ (QB (name:=uW "__next__") hT gU (QN gU hT DR ?_ (DA _))));show δ _ _ (field (.ref z) 2>>=_) _ _ s;refine kB (QW hz rfl (x:=.bool false) rfl ?_);show δ _ _ (field (.ref z) 3>>=_) _ _ s;refine kB (QW hz rfl (x:=.ref p) rfl (kB (uv hp rfl ?_)));show δ _ _ (Qa (.ref z)>>=_) _ _ s;refine kB ?_;unfold Qa;refine kB (QW hz rfl (x:=.none) rfl (kR ?_));simp only[if_true];refine kB (AD (kB (QW hz rfl (x:=.ref q) rfl (kB (gG hz (by simp) λg1 z1 b1=>?_)))))
 replace z1:IsZip g1 z p q .ellipsis:=z1
 refine kB ?_;simp only[FV,Fz,Bj,EA];refine kB (kB (EV ?_));show δ _ _ (QI (.ref i1)>>=_) _ _ _
 refine kB (zd0 (by first|exact hh|(show A.in1.handled=none;exact hh)) (h1.extBut b1.extBut D.i1z) (t1.extBut b1.extBut D.l1z) hx λg2 e b2 he=>?_)
 obtain⟨oe,RG,ce⟩:=he;have z2:IsZip g2 z p q .ellipsis:=b2 _ _ D.i1z.symm z1;have ez:e≠z:=λy=>by subst y;rw[z2] at RG;cases RG;simp at ce
 refine gG z2 (by simp) λg3 _ b3=>kB (Un (T:="StopIteration") (b:=true) ⟨oe,b3.extBut _ _ ez RG,ce⟩ EC (kR (hR g3 λc o c1 _ c3 _ y=>b3.extBut _ _ c1 (b2 _ _ c3 (b1.extBut _ _ c1 y)))))
end
section
noncomputable def LJ(h:Heap)(l:Addr):Heap:=h.push {cls:=.type "tuple_iterator",data:=.fields #[.ref l,.int 0 0]}
noncomputable def HX(h:Heap)(l m:Addr):Heap:=(LJ h l).push {cls:=.type "tuple_iterator",data:=.fields #[.ref m,.int 0 0]}
noncomputable def HY(h:Heap)(l m:Addr):Heap:=(HX h l m).push {cls:=.type "tuple",data:=.seq #[.ref h.objs.size,.ref (LJ h l).objs.size]}
noncomputable def LK(h:Heap)(l m:Addr):Heap:=(HY h l m).push {cls:=.type "tuple",data:=.seq #[.none,.none]}
noncomputable def mN(h:Heap)(l m:Addr):Heap:=(LK h l m).push {cls:=.type "zip",data:=.fields #[.none,.bool false,.bool false,.ref (HX h l m).objs.size,.ref (HY h l m).objs.size]}
def zd9(l m:Addr)(xs ys:Array kL):Meets (gh.«zip.__new__» ⟨[.type "zip",.ref l,.ref m],[]⟩) (λ_ R s=>s.heap.IsTuple l xs/\s.heap.IsTuple m ys/\R (.ok (.ret (.ref (LK s.heap l m).objs.size))) {s with heap:=mN s.heap l m}):=
 .of_wp λprog w A R s h=>by
  obtain⟨hp,g,d,tk,os⟩:=s;obtain⟨hl1,hl2,h⟩:=h;have NC:=sub_zip;have L1:Gs (HI ⟨hp,g,d,tk,os⟩) l xs:=hl1;have L2:Gs (HI ⟨hp.push {cls:=.type "tuple_iterator",data:=.fields #[.ref l,.int 0 0]},g,d,tk,os⟩) m ys:=Heap.IsTuple.push hl2 _
  wp_walk using CB L1,CB L2
  exact⟨_,rfl,h⟩
end
section
variable{prog:QT}{w:World}{A:QF}{E:kL->kW->Prop}{s:kW}
def zca{l m:Addr}{R:kL->kW->Prop}(t1:s.heap.IsTuple l xs)(t2:s.heap.IsTuple m ys)
  (h:∀g,IsZip g (s.heap.objs.size+4) (s.heap.objs.size+2) (s.heap.objs.size+3) .none->Uw g (s.heap.objs.size+2) (.ref s.heap.objs.size) (.ref (s.heap.objs.size+1))->Uw g (s.heap.objs.size+3) .none .none->
   g.IsTupleIter s.heap.objs.size l 0->g.IsTupleIter (s.heap.objs.size+1) m 0->(∀c o,s.heap.get? c=some o->g.get? c=some o)->R (.ref (s.heap.objs.size+4)) {s with heap:=g}):δ (ε prog w) A (call (.type "zip") [.ref l,.ref m]) R E s:=by
 refine callType_new PySem.F.called_zip (by decide) (PySem.F.typeCall_zip_2 _ _) (PySem.F.newCall_zip_2 _ _) (λmO=>PySem.F.args_object_init_3 mO _ _) PySem.F.entry_zip_new (zd9 l m xs ys) ⟨t1,t2,?_⟩
 have s1:(LJ s.heap l).objs.size=s.heap.objs.size+1:=Uv ..;have s2:(HX s.heap l m).objs.size=s.heap.objs.size+2:=by unfold HX;rw[Uv,s1]
 have s3:(HY s.heap l m).objs.size=s.heap.objs.size+3:=by unfold HY;rw[Uv,s2]
 have s4:(LK s.heap l m).objs.size=s.heap.objs.size+4:=by unfold LK;rw[Uv,s3]
 have up:∀{c o},(LK s.heap l m).get? c=some o->(mN s.heap l m).get? c=some o:=λe=>kK _ e;have HZ:∀{c o},(HY s.heap l m).get? c=some o->(mN s.heap l m).get? c=some o:=λe=>up (kK _ e);have lS:∀{c o},(HX s.heap l m).get? c=some o->(mN s.heap l m).get? c=some o:=λe=>HZ (kK _ e);have up1:∀{c o},(LJ s.heap l).get? c=some o->(mN s.heap l m).get? c=some o:=λe=>lS (kK _ e);have e5:(mN s.heap l m).get? (LK s.heap l m).objs.size=some {cls:=.type "zip",data:=.fields #[.none,.bool false,.bool false,.ref (HX s.heap l m).objs.size,.ref (HY s.heap l m).objs.size]}:=ke _ rfl;have e4:(mN s.heap l m).get? (HY s.heap l m).objs.size=some {cls:=.type "tuple",data:=.seq #[.none,.none]}:=up (ke _ rfl);have e3:(mN s.heap l m).get? (HX s.heap l m).objs.size=some {cls:=.type "tuple",data:=.seq #[.ref s.heap.objs.size,.ref (LJ s.heap l).objs.size]}:=HZ (ke _ rfl);have e2:(mN s.heap l m).get? (LJ s.heap l).objs.size=some {cls:=.type "tuple_iterator",data:=.fields #[.ref m,.int 0 0]}:=lS (ke _ rfl);have e1:(mN s.heap l m).get? s.heap.objs.size=some {cls:=.type "tuple_iterator",data:=.fields #[.ref l,.int 0 0]}:=up1 (ke _ rfl);show _/\_;rw[s2,s3,s4] at e5;rw[s1,s2] at e3;rw[s3] at e4;rw[s1] at e2;rw[s4];exact⟨⟨_,e5,rfl⟩,h _ e5 e3 e4 ⟨_,e1,rfl,rfl⟩ ⟨_,e2,rfl,rfl⟩ λc o x=>up1 (kK _ x)⟩
end
section
variable{prog:QT}{w:World}{A:QF}{R:GM->kW->Prop}{I:Addr}{fp wr:List Addr}{n:Nat}{P:Nat->kL->Prop}{St:Nat->Heap->Prop}
theorem ox(W:Walks prog w A.in1 I fp wr n P St)(bt:Nat->Nat->Bool)(hc:CmpOf prog w A.in1 .Gt P bt)(S:Addr)(nS:S∉fp)(kw:List (Str×kL)):∀(k j:Nat)(s:kW)(vb:kL)(c:Nat),n-(j+1)=k->j+1<=n->St (j+1) s.heap->P (AL bt j) vb->
  s.heap.get? S=some {cls:=.type "list",dict:=none,data:=.seq #[vb,vb] c,slots:=#[]}->(∀v h' tk,P (AL bt (n-1)) v->(∀b o,b∉wr->b≠S->s.heap.get? b=some o->h'.get? b=some o)->R (.ok (.ret v)) {s with heap:=h',toks:=tk})->
  gc (ε prog w) A (.builtin "max.loop" ⟨[.ref I,.none,.ref S],kw⟩) R s:=by
 have nw:S∉wr:=λz=>nS (W.sub _ z);have nm:(ED "max"++ED ".loop":String)="max.loop":=by decide
 intro k
 induction k with
 |zero=>
  intro j s vb c hk hj st hb oS q;have ej:j+1=n:=by lia
  refine Qv BA ?_;rw[Qj QO _];refine kB (m:=Bv (.ref S)) (uv oS rfl (kB (BB (W.done s _ _ (ej▸st) λh' tk kp=>?_))));refine kB (Uh (kp S _ nw oS) rfl (kB (AF (kR ?_))));exact q vb _ tk (by rw[<-ej];exact hb) λb o b1 b2 e=>(pX _ _ (UR b2)).trans (kp b o b1 e)
 |succ k ih=>
  intro j s vb c hk hj st hb oS q;refine Qv BA ?_;rw[Qj QO _];refine kB (m:=Bv (.ref S)) (uv oS rfl (kB (BB (W.item (j+1) s _ _ (by lia) st λv h' tk hP eU kp=>?_))))
  have RH:=kp S _ nw oS;refine kB (kR ?_);refine kB (m:=tryCatch (holding [v,v] (Fm CmpOp.Gt v vb>>=_)) _) (BB (gR (kB (hc (j+1) (AL bt j) v vb _ _ _ hP hb (kB (gR (uj (kB (AF (kR ?_))))))))))
  cases bb:bt (j+1) (AL bt j) with
  |true=>
   simp only[if_true];refine kB (Uh RH rfl (kB (AF ?_)));rw[nm];refine kR ⟨Uk QO _,ih (j+1) _ v _ (by lia) (by lia) (W.frame _ _ _ eU λb hf o e=>(pX _ _ (λz:S=b=>nS (by rw[z];exact hf))).trans e) (by simp only[AL,bb,if_true];exact hP) (uo _ RH rfl) λv' ND lT oy NE=>?_⟩
   exact q v' ND lT oy λb o b1 b2 e=>NE b o b1 b2 ((pX _ _ (UR b2)).trans (kp b o b1 e))
  |false=>
   simp only[ul,if_false];refine kB (AF ?_);rw[nm];exact kR ⟨Uk QO _,ih (j+1) _ vb c (by lia) (by lia) eU (by simp only[AL,bb,ul,if_false];exact hb) RH λv' ND lT oy NE=>q v' ND lT oy λb o b1 b2 e=>NE b o b1 b2 (kp b o b1 e)⟩
theorem zcy(W:Walks prog w A.in1 I fp wr n P St)(bt:Nat->Nat->Bool)(hc:CmpOf prog w A.in1 .Gt P bt)(S:Addr)(nS:S∉fp){k:Str}{d:kL}{s:kW}{c:Nat}(st:St 0 s.heap)
  (oS:s.heap.get? S=some {cls:=.type "list",dict:=none,data:=.seq #[] c,slots:=#[]})
  (q:∀v h' tk,((0<n/\P (AL bt (n-1)) v)\/(n=0/\v=d))->(∀b o,b∉wr->b≠S->s.heap.get? b=some o->h'.get? b=some o)->R (.ok (.ret v)) {s with heap:=h',toks:=tk}):
  gc (ε prog w) A (.builtin "max.loop" ⟨[.ref I,.none,.ref S],[(k,d)]⟩) R s:=by
 have nw:S∉wr:=λz=>nS (W.sub _ z);have nm:(ED "max"++ED ".loop":String)="max.loop":=by decide
 refine Qv BA ?_;rw[Qj QO _]
 by_cases h0:n=0
 ·subst h0;refine kB (m:=Bv (.ref S)) (uv oS rfl (kB (BB (W.done s _ _ st λh' tk kp=>?_))));exact kB (AD (kR (q d h' tk (.inr ⟨rfl,rfl⟩) λb o b1 _ e=>kp b o b1 e)))
 ·refine kB (m:=Bv (.ref S)) (uv oS rfl (kB (BB (W.item 0 s _ _ (by lia) st λv h' tk hP eU kp=>?_))))
  refine kB (kR ?_);refine kB (Uh (kp S _ nw oS) rfl ?_);rw[nm];refine kR ⟨Uk QO _,ox W bt hc S nS _ _ 0 _ v _ rfl (by lia) (W.frame _ _ _ eU λb hf o e=>(pX _ _ (λz:S=b=>nS (by rw[z];exact hf))).trans e) hP (uo _ (kp S _ nw oS) rfl) λv' ND lT oy NE=>?_⟩
  exact q v' ND lT (.inl ⟨by lia,oy⟩) λb o b1 b2 e=>NE b o b1 b2 ((pX _ _ (UR b2)).trans (kp b o b1 e))
end
section
def zc9(a v:kL):GO "max" ⟨[a],[(uW "default",v)]⟩:=by unfold GO;kernel_rfl
theorem Vu(val:Nat->Int):∀k,AL (λi j=>decide (val i>val j)) k<=k/\∀i,i<=k->val i<=val (AL (λi j=>decide (val i>val j)) k)
 |0=>⟨pL _,λi hi=>by rw[Nat.le_zero.mp hi];exact hW _⟩
 |k+1=>by
  obtain⟨h1,h2⟩:=Vu val k;unfold AL
  by_cases c:val (k+1)>val (AL (λi j=>decide (val i>val j)) k)
  ·rw[θ (ζ c)];refine⟨pL _,λi hi=>?_⟩
   by_cases e:i=k+1
   ·rw[e];exact hW _
   ·have:=h2 i (by lia)
    lia
  ·rw[η (by rw[ι c];decide)]
   refine⟨by lia,λi hi=>?_⟩
   by_cases e:i=k+1
   ·rw[e];lia
   ·exact h2 i (by lia)
end
variable{od:Obj}{d:Addr}{es:Array BX}{ep:Nat}
section
variable{prog:QT}{w:World}{A:QF}{E:kL->kW->Prop}{s:kW}
def zda(hd:(d==UN)=false)(ho:s.heap.get? d=some od)(hc:od.cls=.type "dict")(bP:od.data=.dict es ep)
  (q:Q (.ref s.heap.objs.size) {s with heap:=s.heap.push {cls:=.type "dict_keyiterator",data:=.fields #[.ref d,.int 0 0,.int es.size 0,.int ep 0]}}):δ (ε prog w) A (GL (.ref d)) Q E s:=by
 have ty:s.TypeIs (.ref d) "dict":=⟨od,ho,hc⟩;refine Et ty DS (QN DS ty PySem.F.entry_dict_iter ?_ (PySem.F.args_dict_iter_1 _));unfold gh.«dict.__iter__»;refine kB ?_;unfold Builtin.Dict.dictSlotNone;refine kB (Dj ty (kR ?_));refine kB (m:=Dk d) ?_;unfold Dk;rw[η (by rw[hd];decide)]
 refine kR (kB (BC ho bP (kB (Dd ho bP (kB (Qp (kR ⟨_,rfl,"dict_keyiterator",_,⟨_,ke _ rfl,rfl⟩,PySem.F.slot_dict_keyiterator_next.lookup,?_⟩)))))))
 simpa[Uq] using q
variable{Q:Option kL->kW->Prop}
theorem za2{it:Addr}(cg:s.heap.IsKeyIter it d i es.size ep)(ho:s.heap.get? d=some od)(bP:od.data=.dict es ep)(hi:i<es.size)
  (q:∀h',h'.IsKeyIter it d (i+1) es.size ep->Qc it s.heap h'->Q (some es[i].key) {s with heap:=h'}):δ (ε prog w) A (AO (.ref it)) Q E s:=by
 obtain⟨o,tI,hci,oz⟩:=id cg;have own:Bk "dict_keyiterator"=false:=by decide
 unfold AO;refine kB (gQ (QB (name:=uW "__next__") cg.typeIs Qf (QN Qf cg.typeIs AY (kB (kR (kB (kB ?_)))) (AR _))))
 first|refine kB (UJ cg.typeIs (kR (kB (CJ tI oz ?_))))|refine kB (Ul cg.typeIs (kR (kB (CJ tI oz ?_))))
 simp only[own,ul,if_false];show δ _ _ (if(uQ d==QQ)=true then _ else _) _ _ s;have nv:¬((uQ d==QQ)=true):=pb;rw[η nv];refine kB (kR (kB (BC ho bP ?_)));rw[η (by simp)]
 refine kB (kR (kB (Dd ho bP ?_)));rw[η (by simp)]
 refine kR ?_;simp only[show ¬((i:Int)<0) from by lia,if_false,uk,QP hi]
 refine kB ?_
 first|refine kB (UJ cg.typeIs (kR (kB (BO cg.typeIs ?_))))|refine kB (Ul cg.typeIs (kR (kB (BO cg.typeIs ?_))))
 refine kB (m:=setField (.ref it) 1 (Uq ((i:Int)+1))) (Ay tI oz (by simp) ?_)
 have st:(s.heap.update it (EW (·.setIfInBounds 1 (Uq ((i:Int)+1))))).IsKeyIter it d (i+1) es.size ep:=⟨_,uo _ tI (Di (Ai oz _)),(Es ..).trans hci,by rw[Ai oz];simp[Uq]⟩
 refine kB (gR (kB (BO (s:={s with heap:=s.heap.update it (EW (·.setIfInBounds 1 (Uq ((i:Int)+1))))}) st.typeIs ?_)));exact kR (kR ⟨_,rfl,kR (q _ st (QR ..))⟩)
theorem zc4{it:Addr}(hh:A.handled=none)(cg:s.heap.IsKeyIter it d i es.size ep)(ho:s.heap.get? d=some od)(bP:od.data=.dict es ep)(hi:es.size<=i)
  (q:∀h',Fk it s.heap h'->Q none {s with heap:=h'}):δ (ε prog w) A (AO (.ref it)) Q E s:=by
 obtain⟨o,tI,hci,oz⟩:=id cg;have own:Bk "dict_keyiterator"=false:=by decide
 unfold AO;refine kB (gQ (QB (name:=uW "__next__") cg.typeIs Qf (QN Qf cg.typeIs AY (kB (kR (kB (kB ?_)))) (AR _))))
 first|refine kB (UJ cg.typeIs (kR (kB (CJ tI oz ?_))))|refine kB (Ul cg.typeIs (kR (kB (CJ tI oz ?_))))
 simp only[own,ul,if_false];show δ _ _ (if(uQ d==QQ)=true then _ else _) _ _ s;have nv:¬((uQ d==QQ)=true):=pb;rw[η nv];refine kB (kR (kB (BC ho bP ?_)));rw[η (by simp)]
 refine kB (kR (kB (Dd ho bP ?_)));rw[η (by simp)]
 refine kR ?_;simp only[show ¬((i:Int)<0) from by lia,if_false,uk,BD hi]
 refine kB ?_
 first|refine kB (UJ cg.typeIs (kR ?_))|refine kB (Ul cg.typeIs (kR ?_))
 refine kB (m:=setField (.ref it) 0 .none) (Ay tI oz (by simp) ?_)
 refine kB (m:=GN (.type "StopIteration") []) ?_;simp only[GN,newTuple]
 refine kB (Qp (kB (m:=AE _ _) (Cb (a:=QQ) (by first|rfl|(simp only[AE];rfl)) (Qp ?_ (by size_fits)))) (by size_fits))
 simp only[raiseNew];refine kB (EU ?_);rw[show A.in1.handled=none from hh];refine kB (kR (Fl ?_));refine kB (Un (T:="StopIteration") (b:=true) ⟨_,ke _ rfl,rfl⟩ EC (kR ?_));exact q _ (((QR ..).extBut.push _).push _)
end
section
variable{prog:QT}{w:World}{A:QF}{E:kL->kW->Prop}{s:kW}{R:GM->kW->Prop}
def zam(hh:A.handled=none)(I d:Addr)(Px:d≠I)(bP:od.data=.dict es ep):
  Walks prog w A I [I,d] [I] es.size (λi v=>∃e,es[i]?=some e/\v=e.key) (λi h=>h.IsKeyIter I d i es.size ep/\h.get? d=some od) where
 sub:=λb hb=>by simp at hb;simp[hb]
 frame:=λ_ _ _ st hk=>⟨st.1.at λo e=>hk I (by simp) o e,hk d (by simp) _ st.2⟩
 item:=λi s Q E hi st hQ=>by
  refine za2 st.1 st.2 bP hi λh' RI LL=>?_;exact hQ _ h' s.toks ⟨_,QP hi,rfl⟩ ⟨RI,LL.extBut d od Px st.2⟩ λb o hb e=>LL.extBut b o (λh=>hb (by simp[h])) e
 done:=λs Q E st hQ=>zc4 hh st.1 st.2 bP (pL _) λh' he'=>hQ h' s.toks λb o hb e=>he' b o (λh=>hb (by simp[h])) e
 self:=λ_ _ _ _ st hQ=>wpAny_pyIter_keyiter st.1 hQ
def zac(hh:A.handled=none)(hd:(d==UN)=false)(ho:s.heap.get? d=some od)(hc:od.cls=.type "dict")(bP:od.data=.dict es ep)(S:Addr)(res:kL)(RJ:Nat)(hS:s.heap.get? S=some {cls:=.type "list",data:=.seq #[] RJ})
  (hR:∀h' tk bQ c',(∀b o,b≠S->s.heap.get? b=some o->h'.get? b=some o)->h'.get? S=some {cls:=.type "list",dict:=none,data:=.seq bQ c',slots:=#[]}->
   Gu (λi v=>∃e,es[i]?=some e/\v=e.key) bQ es.size->R (.ok (.ret res)) {s with heap:=h',toks:=tk}) (hn:es.size<=ψ):
  δ (ε prog w) A.in1 (Qm (.ref S) (.ref d) res)
   (λfin s'=>match fin with|.done f=>R (.ok f) s'|.again c'=>c'.quiet=true/\gc (ε prog w) A c' R s') (λe s'=>R (.error e) s') s:=by
 have NF:S≠d:=λe=>by rw[e,ho] at hS;cases hS;cases bP
 have hSI:S≠s.heap.objs.size:=ut (po hS);have hdI:d≠s.heap.objs.size:=ut (po ho);have hSf:S∉[s.heap.objs.size,d]:=λhm=>(kT.mp hm).elim hSI λz=>NF (pE.mp z);have ty:s.TypeIs (.ref d) "dict":=⟨od,ho,hc⟩;unfold Qm;refine kB (wpAny_typeOf ty ?_);have h1:Ci (.ref S) (.ref d)=false:=by simp[Ci,NF]
 have h2:(Ua "dict"==Ua "list")=false:=by decide
 have h3:(Ua "dict"==Ua "tuple")=false:=by decide
 simp only[h1,h2,h3,Gc,ul,if_false];refine kB (zda hd ho hc bP ?_);generalize cg:s.heap.push {cls:=.type "dict_keyiterator",data:=.fields #[.ref d,.int 0 0,.int es.size 0,.int ep 0]}=h1;have k1:∀b o,s.heap.get? b=some o->h1.get? b=some o:=λb o e=>by rw[<-cg];exact kK _ e
 have st1:h1.IsKeyIter s.heap.objs.size d 0 es.size ep:=by rw[<-cg];exact⟨_,ke _ rfl,rfl,rfl⟩
 have RL:Ge {s with heap:=h1} (.ref d) "dict":=⟨od,k1 _ _ ho,hc⟩;refine kB (gR ?_);unfold Builtin.List.listLengthHint;refine kB (Db RL PySem.F.slot_dict_len.lookup ?_)
 wp_delta
 refine kB (Un RL (b:=true) (by rw[UI];kernel_rfl) ?_)
 show δ _ _ (Gr (uQ d)>>=_) _ _ _
 refine kB (wpAny_typeOf RL ?_);refine kR ?_;rw[θ (by decide)]
 refine kB (AD ?_);refine kB ?_;show δ _ _ (Go S (·.push .none)>>=λ_=>Go S (·.pop)) _ _ _;have tJ:=k1 _ _ hS;refine kB (Uh tJ rfl ?_);have iA:=uo (pJ (·.push QQ)) tJ rfl;refine Uh (hz:=by seq_fits) iA rfl ?_
 have NG:=uo (pJ (·.pop)) iA rfl;have LM:∀b o,b≠S->h1.get? b=some o->((h1.update S (pJ (·.push QQ))).update S (pJ (·.pop))).get? b=some o:=
  λb o hb e=>(pX _ _ (UR hb)).trans ((pX _ _ (UR hb)).trans e)
 refine kR ⟨Uk PySem.F.plain_extend_loop _,codeAny_extend_loopS (zam (A:=A.in1) hh s.heap.objs.size d hdI bP).toS hn _ hSf _ es.size 0 _ _ _ rfl (ui _) ⟨st1.at λo e=>LM _ o (UR hSI) e,LM _ _ (UR NF) (k1 _ _ ho)⟩ NG (ItemsOf.nil _) λs' bQ c' hm iM du=>?_⟩;rw[Moved.eq_with hm];refine hR s'.heap s'.toks bQ c' (λb ob hb e=>hm.heap b ob (λH0=>?_) (LM b ob hb (k1 _ _ e))) iM du;rcases kT.mp H0 with e'|H0
 ·exact hb e'
 ·exact absurd (po e) (by rw[pE.mp H0];exact EX _)
def zcj(hh:A.handled=none)(hd:(d==UN)=false)(ho:s.heap.get? d=some od)(hc:od.cls=.type "dict")(bP:od.data=.dict es ep)(S:Addr)(hS:s.heap.get? S=some {cls:=.type "list",data:=.seq #[]})
  (hR:∀h' tk bQ c',(∀b o,b≠S->s.heap.get? b=some o->h'.get? b=some o)->h'.get? S=some {cls:=.type "list",dict:=none,data:=.seq bQ c',slots:=#[]}->
   Gu (λi v=>∃e,es[i]?=some e/\v=e.key) bQ es.size->R (.ok (.ret .none)) {s with heap:=h',toks:=tk}) (hn:es.size<=ψ):
  δ (ε prog w) A.in1 (gh.«list.__init__» ⟨[.ref S,.ref d],[]⟩)
   (λfin s'=>match fin with|.done f=>R (.ok f) s'|.again c'=>c'.quiet=true/\gc (ε prog w) A c' R s') (λe s'=>R (.error e) s') s:=by
 have NF:S≠d:=λe=>by rw[e,ho] at hS;cases hS;cases bP
 show δ _ _ (do let mL <-DU (.ref S);Builtin.List.listUpdate (.ref S) (λ_=>#[]);letGo mL.toList.reverse;Qm (.ref S) (.ref d) .none) _ _ s
 refine kB ?_;unfold DU;refine kB (uv hS rfl (kR ?_));show δ _ _ (Go S (λ_=>#[])>>=λ_=>letGo (#[]:Array kL).toList.reverse>>=λ_=>Qm (.ref S) (.ref d) .none) _ _ s;refine kB (Uh hS rfl ?_);have iA:=uo (pJ (λ_=>(#[]:Array kL))) hS rfl;have LM:∀b o,b≠S->s.heap.get? b=some o->(s.heap.update S (pJ (λ_=>(#[]:Array kL)))).get? b=some o:=
  λb o hb e=>(pX _ _ (UR hb)).trans e
 refine kB (AF ?_);refine zac hh hd (LM d _ (UR NF) ho) hc bP S .none _ iA (λh' tk bQ c' hk iM du=>?_) hn;exact hR h' tk bQ c' (λb o hb e=>hk b o hb (LM b o hb e)) iM du
def zba(hh:A.handled=none)(hd:(d==UN)=false)(ho:s.heap.get? d=some od)(hc:od.cls=.type "dict")(bP:od.data=.dict es ep)
  (hQ:∀h' tk bQ c',(∀b o,s.heap.get? b=some o->h'.get? b=some o)->h'.get? s.heap.objs.size=some {cls:=.type "list",dict:=none,data:=.seq bQ c',slots:=#[]}->
   Gu (λi v=>∃e,es[i]?=some e/\v=e.key) bQ es.size->Q (.ref s.heap.objs.size) {s with heap:=h',toks:=tk}) (hn:es.size<=ψ):
  δ (ε prog w) A (call (.type "list") [.ref d]) Q E s:=by
 refine callType_codes (Q₁:=λmO aW=>mO=.ref s.heap.objs.size/\aW={s with heap:=s.heap.push {cls:=.type "list",data:=.seq #[]}}) PySem.F.called_list (PySem.F.typeCall_list_1 _) PySem.F.entry_list_init
  (code_list_new _ ⟨rfl,rfl⟩) λmO aW aX=>?_
 obtain⟨rfl,rfl⟩:=aX;have hS:(s.heap.push {cls:=.type "list",data:=.seq #[]}).get? s.heap.objs.size=some {cls:=.type "list",data:=.seq #[]}:=ke _ rfl;refine⟨⟨_,hS,rfl⟩,PySem.F.args_list_init_2 _ _,zcj (A:=A.in1) hh hd (kK _ ho) hc bP _ hS (λh' tk bQ c' hk iM du=>?_) hn⟩;exact⟨rfl,hQ h' tk bQ c' (λb o e=>hk b o (ut (po e)) (kK _ e)) iM du⟩
end
end L2
namespace L2.RV
open PySem PySem.Spec PyProof.Rows
section
def mro:mroOf (.type "reversed")=pure [.type "reversed",.type "object"]:=by rw[mroOf_type];kernel_rfl
def oA:typeLookup (.type "reversed") "__new__"=pure (some (.builtin "reversed.__new__")):=by rw[De,BP];kernel_rfl
def made:Bind.madeBy (.type "reversed")=pure (some "reversed.__new__"):=madeBy_type mro oA (by decide+kernel)
def notType:(Ua "reversed"==Ua "type")=false:=by decide+kernel
def canCreate:((GP "reversed").bind (·.mro.findSome? λt=>(GP t).bind λb=>if b.noNew then some true else if b.attrs.any (·.1=="__new__") then some false else none)).getD false=false:=by decide+kernel
def typeCall(a:kL):checkTypeCall "reversed" ⟨[a],[]⟩=pure ():=by kernel_rfl
def newCall(a:kL):FW "reversed.__new__" ⟨[.type "reversed",a],[]⟩=pure ():=by kernel_rfl
def entryNew:entryFor table "reversed.__new__"=some gh.«reversed.__new__»:=FX (by kernel_rfl)
def plainNew:plainId "reversed.__new__"=true:=by decide+kernel
def subSelf:Am (.type "reversed") (.type "reversed")=pure true:=by rw[UI];kernel_rfl
def subIt:Am (.type "list_reverseiterator") (.type "reversed")=pure false:=by rw[UI];kernel_rfl
def slotIter:Slot "list_reverseiterator" "__iter__" "list_reverseiterator.__iter__":=
 .of (owner:="list_reverseiterator") (n:="__iter__") (by rw[De,BP];kernel_rfl) (by decide+kernel) (by decide+kernel) (by decide+kernel)
  (by first|exact .inl (by decide+kernel)|exact .inr (by decide+kernel)) (by rw[UI];kernel_rfl)
def slotNext:Slot "list_reverseiterator" "__next__" "list_reverseiterator.__next__":=
 .of (owner:="list_reverseiterator") (n:="__next__") (by rw[De,BP];kernel_rfl) (by decide+kernel) (by decide+kernel) (by decide+kernel)
  (by first|exact .inl (by decide+kernel)|exact .inr (by decide+kernel)) (by rw[UI];kernel_rfl)
def entryIter:entryFor table "list_reverseiterator.__iter__"=some gh.«dict_keyiterator.__iter__»:=
 entryFor_alias (id':="dict_keyiterator.__iter__") (by kernel_rfl) rfl (by decide+kernel) (by kernel_rfl)
def entryNext:entryFor table "list_reverseiterator.__next__"=some gh.«list_reverseiterator.__next__»:=FX (by kernel_rfl)
def owner:Manifest.owners.lookup (String.ofList "list_reverseiterator".toList.reverse.reverse)=some Manifest.sig_list_reverseiterator:=by kernel_rfl
def argsIter(a:kL):GO "list_reverseiterator.__iter__" ⟨[a],[]⟩:=by
 unfold GO;rw[signature?_of (id:="list_reverseiterator.__iter__") (n:="__iter__".toList.reverse) (o:="list_reverseiterator".toList.reverse) (by kernel_rfl) owner];kernel_rfl
def argsNext(a:kL):GO "list_reverseiterator.__next__" ⟨[a],[]⟩:=by
 unfold GO;rw[signature?_of (id:="list_reverseiterator.__next__") (n:="__next__".toList.reverse) (o:="list_reverseiterator".toList.reverse) (by kernel_rfl) owner];kernel_rfl
end
end L2.RV
namespace L2
open PySem PySem.Spec PyProof.Rows
section
abbrev tK(l:Addr)(n:Nat):Obj:={cls:=.type "list_reverseiterator",data:=.fields #[.ref l,Uq ((n:Int)-1)]}
end
variable{items:Array kL}{n:Nat}{Q:kL->kW->Prop}{it:Addr}
section
variable{prog:QT}{w:World}{A:QF}{E:kL->kW->Prop}{s:kW}{R:GM->kW->Prop}
variable{l:Addr}
theorem za6{Q₁:kL->kW->Prop}(hl:s.heap.get? l=some {cls:=.type "list",dict:=none,data:=.seq items n,slots:=#[]})
  (h:Q₁ (.ref s.heap.objs.size) {s with heap:=s.heap.push (tK l items.size)}):
  gc (ε prog w) A (.call (.builtin "reversed.__new__") ⟨[.type "reversed",.ref l],[]⟩) (wants Q₁ E) s:=by
 refine GA ?_;show δ _ A.in1 (do FW "reversed.__new__" ⟨[.type "reversed",.ref l],[]⟩;again (.builtin "reversed.__new__" ⟨[.type "reversed",.ref l],[]⟩)) _ _ s;refine kB (Cb (RV.newCall (.ref l)) (kR ⟨Uk RV.plainNew _,Qv RV.entryNew ?_⟩));rw[Qj RV.plainNew _];unfold gh.«reversed.__new__» Builtin.SmallTypes.newClass;have NC:=RV.subSelf;have hT:s.TypeIs (.ref l) "list":=⟨_,hl,rfl⟩;have hlk:=PySem.F.slot_list_reversed.lookup;have hbi:=PySem.F.slot_list_reversed.bind (.ref l)
 wp_walk
 refine US (codeAny_call_builtin (R:=wants (λmO aW=>mO=.ref s.heap.objs.size/\aW={s with heap:=s.heap.push (tK l items.size)}) E) PySem.F.slot_list_reversed.plain PySem.F.entry_list_reversed (PySem.F.slot_list_reversed.check _ _ _ _ _ _ _ _ hT (PySem.F.args_list_reversed_1 _) (AutoListH.list___reversed___list_0 l items n prog w A.in1 _ s ⟨hl,rfl,rfl⟩))) λr aW hr=>?_
 cases r with
 |error e=>exact hr
 |ok fl=>
  cases fl with
  |ret mO=>
   obtain⟨rfl,rfl⟩:=hr;exact kR h
  |_=>exact hr.elim
theorem zce(hl:s.heap.get? l=some {cls:=.type "list",dict:=none,data:=.seq items n,slots:=#[]})
  (h:Q (.ref s.heap.objs.size) {s with heap:=s.heap.push (tK l items.size)}):
  δ (ε prog w) A (call (.type "reversed") [.ref l]) Q E s:=by
 have hmro:=RV.mro;have hmade:=RV.made;have NC:=RV.subIt;refine CG (GA ?_);show δ _ _ (callAny (.type "reversed") _) _ _ _;refine kR ⟨Ed _ (by decide+kernel),Qv PySem.F.entry_type_call ?_⟩
 rw[Around.under_plain (weight_type_call_type "reversed" [.ref l] []) rfl];have h1:=RV.notType;have h2:=RV.canCreate;have hct:=RV.typeCall (.ref l)
 repeat (any_goals (first|assumption|wp_step))
 refine US (za6 (E:=E) (Q₁:=λmO aW=>mO=.ref s.heap.objs.size/\aW={s with heap:=s.heap.push (tK l items.size)}) hl ⟨rfl,rfl⟩) λr aW hr=>?_
 cases r with
 |error e=>exact hr
 |ok fl=>
  cases fl with
  |ret mO=>
   obtain⟨rfl,rfl⟩:=hr;have hT:Ge {s with heap:=s.heap.push (tK l items.size)} (.ref s.heap.objs.size) "list_reverseiterator":=⟨_,ke _ rfl,rfl⟩
   repeat (any_goals (first|assumption|wp_step))
  |_=>exact hr.elim
def jf(h:Heap)(it l:Addr)(m:Nat):Prop:=h.get? it=some (tK l m)
def Jt{m:Nat}(cg:jf s.heap it l m)(h:Q (.ref it) s):δ (ε prog w) A (GL (.ref it)) Q E s:=by
 have ty:s.TypeIs (.ref it) "list_reverseiterator":=⟨_,cg,rfl⟩;refine Et ty RV.slotIter (QN RV.slotIter ty RV.entryIter ?_ (RV.argsIter _));show δ _ _ (ret (.ref it)) _ _ s;exact kR ⟨_,rfl,"list_reverseiterator",_,ty,RV.slotNext.lookup,h⟩
variable{Q:Option kL->kW->Prop}
theorem zcs{m:Nat}{x:kL}(cg:jf s.heap it l (m+1))(hl:s.heap.IsList l items)(hx:items[m]?=some x)
  (hQ:∀h',jf h' it l m->Qc it s.heap h'->Q (some x) {s with heap:=h'}):δ (ε prog w) A (AO (.ref it)) Q E s:=by
 have ty:s.TypeIs (.ref it) "list_reverseiterator":=⟨_,cg,rfl⟩;obtain⟨ol,hol,_,nl,hdl⟩:=hl;unfold AO;refine kB (gQ (QB (name:=uW "__next__") ty RV.slotNext (QN RV.slotNext ty RV.entryNext ?_ (RV.argsNext _))));show δ _ _ (field (.ref it) 1>>=_) _ _ s;have em:(((m+1:Nat):Int)-1)=(m:Int):=by lia
 refine kB (QW cg rfl (x:=.int (((m+1:Nat):Int)-1) 0) rfl ?_);rw[em];show δ _ _ (if(m:Int)<0 then _ else _) _ _ s;rw[η (by lia)]
 show δ _ _ (field (.ref it) 0>>=_) _ _ s
 refine kB (QW cg rfl (x:=.ref l) rfl ?_);show δ _ _ (Bv (.ref l)>>=_) _ _ s;refine kB (uv hol hdl ?_);simp only[uk,hx];refine kB (Ay cg rfl (by simp) (kR ⟨x,rfl,kR (hQ _ ?_ (QR ..))⟩))
 have z:=uo (EW λfs=>fs.set! 1 (Uq ((m:Int)-1))) cg rfl;exact z
def oB(hh:A.handled=none)(cg:jf s.heap it l 0)
  (hQ:∀h',Fk it s.heap h'->Q none {s with heap:=h'}):δ (ε prog w) A (AO (.ref it)) Q E s:=by
 have ty:s.TypeIs (.ref it) "list_reverseiterator":=⟨_,cg,rfl⟩;unfold AO;refine kB (gQ (QB (name:=uW "__next__") ty RV.slotNext (QN RV.slotNext ty RV.entryNext ?_ (RV.argsNext _))));show δ _ _ (field (.ref it) 1>>=_) _ _ s;refine kB (QW cg rfl (x:=.int (((0:Nat):Int)-1) 0) rfl ?_);show δ _ _ (if(((0:Nat):Int)-1)<0 then _ else _) _ _ s;rw[θ (by decide)]
 refine kB (AD (kB ?_));show δ _ _ (GN (.type "StopIteration") []>>=_) _ _ _;refine kB ?_;simp only[GN,newTuple];refine kB (Qp ?_ (by size_fits))
 refine kB (m:=AE _ _) (Cb (a:=QQ) (by first|rfl|(simp only[AE];rfl)) ?_)
 refine Qp ?_ (by size_fits)
 simp only[raiseNew];refine kB (EU ?_);rw[show A.in1.handled=none from hh];refine kB (kR (Fl ?_));refine kB (Un (T:="StopIteration") (b:=true) ⟨_,ke _ rfl,rfl⟩ EC ?_);exact kR (hQ _ λb o _ e=>kK _ (kK _ e))
end
def PQ(X:Cx)(m:Bool)(tg:Expr)(B:AP)(π:Addr)(Z:En)(ow:Os)(s:kW)(ds:List Dt)(M3:kL)(s2:kW):Prop:=∃it F L tn,M3=.ref it/\Inv X (λa=>B a\/F a) π Z ow s2/\St X.toGx bG s s2/\(∀a,F a->s.heap.get? a=none)/\(m=false->∀a,¬L a)/\(∀a,L a->X.O B ow a/\¬X.T a)/\Wk X tg it F L ds tn/\tn 0 (X.O (λa=>B a\/F a) ow) s2.heap
section
variable{X:Cx}{B:AP}{π:Addr}{Z:En}{ow:Os}{s s1:kW}{m:Bool}{a b e tg:Expr}{es lU:List Expr}{x1:Nat}{f g:En->Option Dt}{ga:En->Option (List Dt)}{p pos iK:Pos}{x:Str}{d:Dt}{ds d1 d2:List Dt}{T:String}{k:List Dt->Option (List Dt)}
def jw{m':Bool}(hg:Gl X x)(hm:X.mg x=none)(hv:uD x=some (.type T))(ha:PA X m' (e::es) ga)(h:∀B π Z ow s s1 as ds us,Inv X B π Z ow s->Sx X B π Z ow s s1->k as=some ds->Uo (RM m' X.toGx (X.O B ow) s1.heap) as us->δ (ε X.P X.w) X.A (call (.type T) us) (λv s2=>δ (ε X.P X.w) X.A (GL v) (PQ X m tg B π Z ow s ds) nE s2) nE s1)
  (hn:x≠"__name__":=by decide)(dZ:(x==("__debug__":Str))=false:=by decide)(he:kh (e::es) X.env=(false,eval e X.env)::kh es X.env:=by rfl)(hpl:(ub pos (kh es X.env)).any (·.1)=false:=by rfl)(hc:eval (.Call (.Name x p) (e::es) [] pos) X.env=(do
     let f <-eval (.Name x p) X.env
     CK pos f [] (ub pos (kh (e::es) X.env)) (Ut pos (Qi [] X.env))):=by rfl):PI X m tg (.Call (.Name x p) (e::es) [] pos) (iC k ga):=λB π Z ow s ds I q=>by
 obtain⟨as,q1,q⟩:=kA.mp q;exact Call_ (xu I hg hm hv (UU (av (ha pos B π Z ow s as I q1) λus s1⟨t,r⟩=>h B π Z ow s s1 as ds us I t q r) he hpl) hn dZ) hc
theorem VO(I:Inv X B π Z ow s)(t:Sx X B π Z ow s s1){lo hi:Int}{t1 t2 t3:Tok}{tk:Nat}(h1: -(2^62)<=lo)(h2:lo<2^62)(h3: -(2^62)<=hi)(h4:hi<2^62)(hz:(hi-lo).toNat<=ψ):
  δ (ε X.P X.w) X.A (GL (.ref s1.heap.objs.size)) (PQ X m tg B π Z ow s ((kN (hi-lo).toNat).map λk:Nat=>.int (lo+k))) nE {s1 with heap:=s1.heap.push {cls:=.type "range",data:=.fields #[.int lo t1,.int hi t2,.int 1 t3]},toks:=tk}:=by
 refine wpAny_pyIter_range (HJ ..) (small_one h1 h2 h3 h4) ?_;refine wR (tk:=tk) I (t.trans (t.1.kept λb o e=>kK _ e)) (Hf hz I.ok.hd) (λb o=>kK _) (λa z=>z▸cP) (λa z=>by subst z;exact⟨_,ke _ rfl⟩) (λ_ _=>_root_.id) (λ_=>UO) λg=>?_
 show IsRangeIter _ _ (lo+((0:Nat):Int)*1) ((((hi-lo).toNat:Nat):Int)-((0:Nat):Int)) 1
 rw[show lo+((0:Nat):Int)*1=lo by simp,show(((hi-lo).toNat:Nat):Int)-((0:Nat):Int)=DB lo hi 1 by rw[rangeSize_one];split<;>lia]
 exact ke _ rfl
theorem oC(hg:Gl X "range")(hm:X.mg "range"=none)(ha:PA X true (e::es) ga)(he:kh (e::es) X.env=(false,eval e X.env)::kh es X.env:=by rfl)(hpl:(ub pos (kh es X.env)).any (·.1)=false:=by rfl)(hc:eval (.Call (.Name "range" p) (e::es) [] pos) X.env=(do
     let f <-eval (.Name "range" p) X.env
     CK pos f [] (ub pos (kh (e::es) X.env)) (Ut pos (Qi [] X.env))):=by rfl):PI X m tg (.Call (.Name "range" p) (e::es) [] pos) (iC bI ga):=jw (he:=he) (hpl:=hpl) (hc:=hc) hg hm bt_range ha λB π Z ow s s1 as ds us I t q r=>by
 unfold bI at q
 split at q
 ·split at q<;>cases q
  have c:=‹_/\_/\_›;obtain⟨u,rfl,r1⟩:=eX r;obtain⟨tk,rfl⟩:=RT.int r1;have:=VO (m:=m) (tg:=tg) (t1:=s1.toks) (t2:=tk) (t3:=s1.toks+1) (tk:=s1.toks+1+1) I t (lo:=0) (by decide) (by decide) c.1 c.2.1 (by simpa using c.2.2)
  simp only[DV,BE] at this;exact call_range_1 this
 ·cases q
theorem oD(hg:Gl X "range")(hm:X.mg "range"=none)(ha:PA X true (e::es) ga)(he:kh (e::es) X.env=(false,eval e X.env)::kh es X.env:=by rfl)(hpl:(ub pos (kh es X.env)).any (·.1)=false:=by rfl)(hc:eval (.Call (.Name "range" p) (e::es) [] pos) X.env=(do
     let f <-eval (.Name "range" p) X.env
     CK pos f [] (ub pos (kh (e::es) X.env)) (Ut pos (Qi [] X.env))):=by rfl):PI X m tg (.Call (.Name "range" p) (e::es) [] pos) (iC dU ga):=jw (he:=he) (hpl:=hpl) (hc:=hc) hg hm bt_range ha λB π Z ow s s1 as ds us I t q r=>by
 unfold dU at q
 split at q
 ·split at q<;>cases q
  have c:=‹_/\_›;obtain⟨u,v,rfl,r1,r2⟩:=M7 r;obtain⟨tk,rfl⟩:=RT.int r1;obtain⟨tk2,rfl⟩:=RT.int r2;exact call_range_2 (VO I t c.1.1 c.1.2.1 c.1.2.2.1 c.1.2.2.2 c.2)
 ·cases q
theorem Jg{IT:Heap->Addr->Addr->Nat->Prop}{SQ:Heap->Addr->Array kL->Prop}{Lq:Nat->Nat->Prop}{z TI TO i1 i2 l1 l2:Addr}(D:ZipApart z TI TO i1 i2 l1 l2)(hq:Lq d1.length d2.length)(hl:d1.length<=ψ)
  (oE:∀{h h':Heap}{i l k},IT h i l k->(∀o,h.get? i=some o->h'.get? i=some o)->IT h' i l k)(itG:∀{h:Heap}{i l k},IT h i l k->∃o,h.get? i=some o)(oF:∀{h h':Heap}{l vs},SQ h l vs->(∀o,h.get? l=some o->h'.get? l=some o)->SQ h' l vs)(sqG:∀{h:Heap}{l vs},SQ h l vs->∃o,h.get? l=some o)
  (item:∀{s:kW}{k xs ys x y a b}{R:Option kL->kW->Prop},IsZip s.heap z TI TO .none->Uw s.heap TI (.ref i1) (.ref i2)->Uw s.heap TO a b->IT s.heap i1 l1 k->IT s.heap i2 l2 k->SQ s.heap l1 xs->SQ s.heap l2 ys->xs[k]?=some x->ys[k]?=some y->
   (∀h',IsZip h' z TI TO (Uq s.heap.objs.size)->Uw h' TO x y->IT h' i1 l1 (k+1)->IT h' i2 l2 (k+1)->Uw h' s.heap.objs.size x y->h'.objs.size=s.heap.objs.size+1->(∀c o,c≠z->c≠TO->c≠i1->c≠i2->s.heap.get? c=some o->h'.get? c=some o)->R (some (.ref s.heap.objs.size)) {s with heap:=h'})->δ (ε X.P X.w) X.A (AO (.ref z)) R nE s)
  (done:∀{s:kW}{k}{xs ys:Array kL}{a b}{R:Option kL->kW->Prop},IsZip s.heap z TI TO .none->Uw s.heap TI (.ref i1) (.ref i2)->Uw s.heap TO a b->IT s.heap i1 l1 k->IT s.heap i2 l2 k->SQ s.heap l1 xs->SQ s.heap l2 ys->Lq xs.size ys.size->k=min xs.size ys.size->
   (∀h',(∀c o,c≠z->c≠TO->c≠i1->c≠i2->s.heap.get? c=some o->h'.get? c=some o)->R none {s with heap:=h'})->δ (ε X.P X.w) X.A (AO (.ref z)) R nE s):
  Wk X (.Tuple lU x1 iK) z (λa=>a=z\/a=TI\/a=TO\/a=i1\/a=i2) bG (AK (λa b=>.tuple [a,b]) d1 d2) (λi O h=>∃a b xs ys,IsZip h z TI TO .none/\Uw h TI (.ref i1) (.ref i2)/\Uw h TO a b/\IT h i1 l1 i/\IT h i2 l2 i/\(¬O l1/\¬O l2)/\SQ h l1 (gC xs)/\SQ h l2 (gC ys)/\Rs X.toGx O h d1 xs/\Rs X.toGx O h d2 ys):=by
 refine⟨by rw[EN];lia,λi O h O' h' w g k=>?_,λi d O s w fO ex hd=>?_,λO s w fO=>?_,λA i O s Q E w q=>DD w.choose_spec.choose_spec.choose_spec.choose_spec.1 q⟩<;>obtain⟨a,b,xs,ys,hz,hI,hO,h1,h2,n,s1,s2,r1,r2⟩:=w
 ·obtain⟨o1,e1⟩:=sqG s1;obtain⟨o2,e2⟩:=sqG s2;exact⟨a,b,xs,ys,k z _ (.inl (.inl rfl)) hz,k TI _ (.inl (.inr (.inl rfl))) hI,k TO _ (.inl (.inr (.inr (.inl rfl)))) hO,oE h1 λo=>k i1 o (.inl (.inr (.inr (.inr (.inl rfl))))),oE h2 λo=>k i2 o (.inl (.inr (.inr (.inr (.inr rfl))))),⟨(g l1 o1 e1 n.1).2,(g l2 o2 e2 n.2).2⟩,oF s1 λo e=>(g l1 o e n.1).1,oF s2 λo e=>(g l2 o e n.2).1,Rs.go g _ _ r1,Rs.go g _ _ r2⟩
 ·rw[gV] at hd
  cases e1:d1[i]? with
  |none=>rw[e1] at hd;cases hd
  |some da=>
   cases e2:d2[i]? with
   |none=>rw[e1,e2] at hd;cases hd
   |some db=>
    rw[e1,e2] at hd;cases hd;obtain⟨u1,RN,RO⟩:=r1.get e1;obtain⟨u2,hu2,ru2⟩:=r2.get e2;refine item hz hI hO h1 h2 s1 s2 (x:=u1) (y:=u2) (by simpa using RN) (by simpa using hu2) λaX z1 t1 j1 j2 pr sz kk=>⟨_,rfl,wpAny_letOwnedTupleGo_zip z1 λcf z2 sb=>?_⟩
    have nz:∀{b:Addr},b≠z->∀{o},aX.get? b=some o->cf.get? b=some o:=λ{b} hb{o} e=>(sb.2 b hb).trans e;have zT:s.heap.objs.size≠z:=Az (po hz);have kp:∀c o,¬(c=z\/c=TI\/c=TO\/c=i1\/c=i2)->s.heap.get? c=some o->cf.get? c=some o:=λc o n e=>nz (λz=>n (.inl z)) (kk c o (λz=>n (.inl z)) (λz=>n (.inr (.inr (.inl z)))) (λz=>n (.inr (.inr (.inr (.inl z))))) (λz=>n (.inr (.inr (.inr (.inr z))))) e);have g:Gd O s.heap O cf:=λa o e n=>⟨kp a o (λz=>n (fO a z)) e,n⟩;have hI2:=nz D.TIz (kk TI _ D.TIz D.TITO D.TIi1 D.TIi2 hI);have oG:=nz D.TOz t1;have k1:=oE j1 λo e=>nz D.i1z e;have k2:=oE j2 λo e=>nz D.i2z e;refine⟨⟨u1,u2,xs,ys,z2,hI2,oG,k1,k2,n,oF s1 λo e=>(g l1 o e n.1).1,oF s2 λo e=>(g l2 o e n.2).1,Rs.go g _ _ r1,Rs.go g _ _ r2⟩,?_,⟨cf,s.toks,rfl,kp⟩,λa z=>?_⟩
    ·rw[R];exact⟨_,[u1,u2],rfl,(λz=>by obtain⟨o,e⟩:=ex _ z;rw[cP] at e;cases e),⟨_,nz zT pr,rfl,_,rfl⟩,(by decide:2<=ψ),.cons (R.go g _ _ RO) (.cons (R.go g _ _ ru2) .nil)⟩
    ·rcases z with rfl|rfl|rfl|rfl|rfl
     ·exact⟨_,z2⟩
     ·exact⟨_,hI2⟩
     ·exact⟨_,oG⟩
     ·exact itG k1
     ·exact itG k2
 ·refine done hz hI hO h1 h2 s1 s2 (by simpa[r1.len,r2.len] using hq) (by simp[r1.len,r2.len]) λaX kk=>⟨rfl,aX,s.toks,rfl,λc o n e=>kk c o (λz=>n (.inl z)) (λz=>n (.inr (.inr (.inl z)))) (λz=>n (.inr (.inr (.inr (.inl z))))) (λz=>n (.inr (.inr (.inr (.inr z))))) e⟩
theorem NH{h:Heap}{a:Addr}{TI TO i1 i2 z:Addr}(e:z=n+4/\TI=n+2/\TO=n+3/\i1=n/\i2=n+1)(hn:h.objs.size=n)(q:a=z\/a=TI\/a=TO\/a=i1\/a=i2):h.get? a=none:=pU (by obtain⟨rfl,rfl,rfl,rfl,rfl⟩:=e;rcases q with rfl|rfl|rfl|rfl|rfl<;>lia)
def H3(hg:Gl X "zip")(hm:X.mg "zip"=none)(ha:PA X false [a,b] ga)(he:kh [a,b] X.env=(false,eval a X.env)::kh [b] X.env:=by rfl)(hpl:(ub pos (kh [b] X.env)).any (·.1)=false:=by rfl)(hc:eval (.Call (.Name "zip" p) [a,b] [] pos) X.env=(do
     let f <-eval (.Name "zip" p) X.env
     CK pos f [] (ub pos (kh [a,b] X.env)) (Ut pos (Qi [] X.env))):=by rfl):PI X m (.Tuple lU x1 iK) (.Call (.Name "zip" p) [a,b] [] pos) (iC lE ga):=jw (he:=he) (hpl:=hpl) (hc:=hc) hg hm bt_zip ha λB π Z ow s s1 as ds us I t q r=>by
 unfold lE at q
 split at q<;>cases q
 obtain⟨u,v,rfl,r1,r2⟩:=M7 r;have r1:R X.toGx (X.O B ow) s1.heap _ u:=r1;have r2:R X.toGx (X.O B ow) s1.heap _ v:=r2;rw[R] at r1 r2;obtain⟨p1,v1,n1,rfl,H4,e1,l1,i8⟩:=r1;obtain⟨p2,v2,n2,rfl,RP,e2,l2,RR⟩:=r2;refine call_zip_2 ⟨_,e1,rfl,n1,rfl⟩ ⟨_,e2,rfl,n2,rfl⟩ λh' hz NI NJ NK NL sz kk=>DD hz ?_;have D:=zipApart_new (n:=s1.heap.objs.size) (po e1) (po e2);refine wR (tk:=s1.toks) I t (Jg (IT:=λh a l i=>h.IsListIter a l i) (SQ:=λh l vs=>h.IsList l vs) (Lq:=λ_ _=>True) D trivial (by rw[i8.len];exact l1) (λh k=>h.at k) (λ⟨o,e,_⟩=>⟨o,e⟩) (λ⟨o,e,r⟩ k=>⟨o,k o e,r⟩) (λ⟨o,e,_⟩=>⟨o,e⟩) (λa b c d e f g h i j=>wpAny_pyNext_zip_item D a b c d e f g h i j) λa b c d e f g _ hk q=>wpAny_pyNext_zip_end I.ok.hd D a b c d e f g ?_ q) kk (λa z=>NH ⟨rfl,rfl,rfl,rfl,rfl⟩ rfl z) (λa z=>?_) (λ_ _=>_root_.id) (λ_=>UO) λg=>⟨_,_,v1,v2,hz,NI,NJ,NK,NL,⟨(g p1 _ e1 H4).2,(g p2 _ e2 RP).2⟩,⟨_,kk _ _ e1,rfl,n1,rfl⟩,⟨_,kk _ _ e2,rfl,n2,rfl⟩,Rs.go g _ _ i8,Rs.go g _ _ RR⟩
 ·rcases Nat.le_total (HN _) (HN _) with c|c
  ·exact .inl (by rw[hk,Nat.min_eq_left c];simp)
  ·exact .inr (by rw[hk,Nat.min_eq_right c];simp)
 ·rcases z with rfl|rfl|rfl|rfl|rfl
  ·exact⟨_,hz⟩
  ·exact⟨_,NI⟩
  ·exact⟨_,NJ⟩
  ·obtain⟨o,e,_⟩:=NK;exact⟨o,e⟩
  ·obtain⟨o,e,_⟩:=NL;exact⟨o,e⟩
theorem oH(hg:Gl X "zip")(hm:X.mg "zip"=none)(ha:PA X false [a,b] ga)(he:kh [a,b] X.env=(false,eval a X.env)::kh [b] X.env:=by rfl)(hpl:(ub pos (kh [b] X.env)).any (·.1)=false:=by rfl)(hc:eval (.Call (.Name "zip" p) [a,b] [] pos) X.env=(do
     let f <-eval (.Name "zip" p) X.env
     CK pos f [] (ub pos (kh [a,b] X.env)) (Ut pos (Qi [] X.env))):=by rfl):PI X m (.Tuple lU x1 iK) (.Call (.Name "zip" p) [a,b] [] pos) (iC fj ga):=jw (he:=he) (hpl:=hpl) (hc:=hc) hg hm bt_zip ha λB π Z ow s s1 as ds us I t q r=>by
 unfold fj at q
 split at q
 ·split at q<;>cases q
  have hq:=‹_=_›;obtain⟨u,v,rfl,r1,r2⟩:=M7 r;obtain⟨p1,v1,rfl,H4,e1,l1,i8⟩:=RT.tup (.inl r1);obtain⟨p2,v2,rfl,RP,e2,l2,RR⟩:=RT.tup (.inl r2);have e1:s1.heap.IsTuple p1 v1.toArray:=e1;have e2:s1.heap.IsTuple p2 v2.toArray:=e2;obtain⟨o1,g1,f1⟩:=_root_.id e1;obtain⟨o2,g2,f2⟩:=_root_.id e2;refine zca e1 e2 λh' hz NI NJ NK NL kk=>DD hz ?_;have D:=zipApart_new (n:=s1.heap.objs.size) (po g1) (po g2);refine wR (tk:=s1.toks) I t (Jg (IT:=λh a l i=>h.IsTupleIter a l i) (SQ:=λh l vs=>h.IsTuple l vs) (Lq:=λa b=>a=b) D hq (by rw[i8.len];exact l1) (λh k=>h.at k) (λ⟨o,e,_⟩=>⟨o,e⟩) (λ⟨o,e,r⟩ k=>⟨o,k o e,r⟩) (λ⟨o,e,_⟩=>⟨o,e⟩) (λa b c d e f g h i j=>ZY D a b c d e f g h i j) λa b c d e f g hl hk q=>zbd I.ok.hd D a b c d f ?_ q) kk (λa z=>NH ⟨rfl,rfl,rfl,rfl,rfl⟩ rfl z) (λa z=>?_) (λ_ _=>_root_.id) (λ_=>UO) λg=>⟨_,_,v1,v2,hz,NI,NJ,NK,NL,⟨(g p1 _ g1 H4).2,(g p2 _ g2 RP).2⟩,⟨o1,kk _ _ g1,f1⟩,⟨o2,kk _ _ g2,f2⟩,Rs.go g _ _ i8,Rs.go g _ _ RR⟩
  ·simp;lia
  ·rcases z with rfl|rfl|rfl|rfl|rfl
   ·exact⟨_,hz⟩
   ·exact⟨_,NI⟩
   ·exact⟨_,NJ⟩
   ·obtain⟨o,e,_⟩:=NK;exact⟨o,e⟩
   ·obtain⟨o,e,_⟩:=NL;exact⟨o,e⟩
 ·cases q
theorem H5{e l:Addr}(ne:e≠it)(hl:ds.length<=ψ)(hd:X.A.handled=none):Wk X (.Tuple lU x1 iK) e (λa=>a=e\/a=it) bG ((kN ds.length).zipWith (λ(k:Nat) x=>.tuple [.int k,x]) ds) (λi O h=>(∃mL,IsEnum h e it (i:Int) mL)/\h.IsListIter it l i/\¬O l/\∃vs n,h.get? l=some (lo vs n)/\Rs X.toGx O h ds vs):=by
 refine⟨by rw[EN];lia,λi O h O' h' w g k=>?_,λi d O s w fO ex iZ=>?_,λO s w fO=>?_,λA i O s Q E w q=>Eu w.1.choose_spec q⟩<;>obtain⟨⟨mL,he⟩,a,b,vs,n,c,r⟩:=w
 ·exact⟨⟨mL,k e _ (.inl (.inl rfl)) he⟩,a.at λo=>k it o (.inl (.inr rfl)),(g l _ c b).2,vs,n,(g l _ c b).1,Rs.go g _ _ r⟩
 ·rw[gV] at iZ
  cases e2:ds[i]? with
  |none=>rw[e2] at iZ;cases mM:(kN ds.length)[i]?<;>rw[mM] at iZ<;>cases iZ
  |some dd=>
   have hi:=(kH.mp e2).1;rw[e2,uA hi] at iZ;cases iZ;obtain⟨u1,RN,RO⟩:=r.get e2;refine wpAny_pyNext_enum_item he a ⟨_,c,rfl,n,rfl⟩ (x:=u1) (by simpa using RN) ne λaX z1 j1 pr sz kk=>⟨_,rfl,wpAny_letOwnedTupleGo_enum z1 λcf z2 sb=>?_⟩
   have nz:∀{b:Addr},b≠e->∀{o},aX.get? b=some o->cf.get? b=some o:=λ{b} hb{o} q=>(sb.2 b hb).trans q;have kp:∀c o,¬(c=e\/c=it)->s.heap.get? c=some o->cf.get? c=some o:=λc o n q=>nz (λz=>n (.inl z)) (kk c o (λz=>n (.inl z)) (λz=>n (.inr z)) q);have g:Gd O s.heap O cf:=λa o e n=>⟨kp a o (λz=>n (fO a z)) e,n⟩;have k1:=j1.at λo q=>nz (UR ne) q;refine⟨⟨⟨u1,z2⟩,k1,b,vs,n,(g l _ c b).1,Rs.go g _ _ r⟩,?_,⟨cf,s.toks+1,rfl,kp⟩,λa z=>?_⟩
   ·rw[R];exact⟨_,[.int i s.toks,u1],rfl,(λz=>by obtain⟨o,e⟩:=ex _ z;rw[cP] at e;cases e),⟨_,nz (Az (po he)) pr,rfl,_,rfl⟩,(by decide:2<=ψ),.cons .int (.cons (R.go g _ _ RO) .nil)⟩
   ·rcases z with rfl|rfl
    ·exact⟨_,z2⟩
    ·obtain⟨o,e,_⟩:=k1;exact⟨o,e⟩
 ·exact wpAny_pyNext_enum_end hd he a ⟨_,c,rfl,n,rfl⟩ (by simp[r.len]) λaX kk=>⟨rfl,aX,s.toks,rfl,λc o n q=>kk c o (λz=>n (.inr z)) q⟩
theorem H6(hg:Gl X "enumerate")(hm:X.mg "enumerate"=none)(ha:PA X false [a] ga)(he:kh [a] X.env=(false,eval a X.env)::kh [] X.env:=by rfl)(hc:eval (.Call (.Name "enumerate" p) [a] [] pos) X.env=(do
     let f <-eval (.Name "enumerate" p) X.env
     CK pos f [] (ub pos (kh [a] X.env)) (Ut pos (Qi [] X.env))):=by rfl):PI X m (.Tuple lU x1 iK) (.Call (.Name "enumerate" p) [a] [] pos) (iC iG ga):=jw (he:=he) (hpl:=rfl) (hc:=hc) hg hm bt_enumerate ha λB π Z ow s s1 as ds us I t q r=>by
 unfold iG at q
 split at q<;>cases q
 obtain⟨u,rfl,r1⟩:=eX r;have r1:R X.toGx (X.O B ow) s1.heap _ u:=r1;rw[R] at r1;obtain⟨p1,v1,n1,rfl,H4,e1,l1,i8⟩:=r1;refine call_enumerate_list ⟨_,e1,rfl,n1,rfl⟩ λh' he hi sz kk=>Eu he (wR (tk:=s1.toks) I t (H5 (l:=p1) (by show s1.heap.objs.size+1≠s1.heap.objs.size;lia) (by rw[i8.len];exact l1) I.ok.hd) kk (λa z=>pU (by rcases z with rfl|rfl<;>lia)) (λa z=>?_) (λ_ _=>_root_.id) (λ_=>UO) λg=>⟨⟨_,he⟩,hi,(g p1 _ e1 H4).2,v1,n1,kk _ _ e1,Rs.go g _ _ i8⟩)
 rcases z with rfl|rfl
 ·exact⟨_,he⟩
 ·obtain⟨o,e,_⟩:=hi;exact⟨o,e⟩
theorem H7{l:Addr}(hl:ds.length<=ψ)(hd:X.A.handled=none):Wk X tg it (one it) bG ds.reverse (λi O h=>jf h it l (ds.length-i)/\¬O l/\∃vs n,h.get? l=some (lo vs n)/\Rs X.toGx O h ds vs):=by
 refine⟨by simpa using hl,λi O h O' h' w g k=>?_,λi d O s w fO ex e=>?_,λO s w fO=>?_,λA i O s Q E t q=>Jt t.1 q⟩<;>obtain⟨a,b,vs,n,c,r⟩:=w
 ·exact⟨k it _ (.inl rfl) a,(g l _ c b).2,vs,n,(g l _ c b).1,Rs.go g _ _ r⟩
 ·have hi:i<ds.length:=by have:=(kH.mp e).1;rw[AS] at this;exact this
  rw[Dl hi] at e;obtain⟨u,hu,ru⟩:=r.get e;rw[show ds.length-i=(ds.length-1-i)+1 by lia] at a
  refine zcs a ⟨_,c,rfl,n,rfl⟩ (x:=u) (by simpa using hu) λh' eU sb=>?_
  have g:Gd O s.heap O h':=λa o e n=>⟨(sb.2 a λz=>n (fO a z)).trans e,n⟩;exact⟨u,rfl,YD (s:={s with heap:=h'}) eU rfl rfl (by decide) ⟨⟨by rw[show ds.length-(i+1)=ds.length-1-i by lia];exact eU,b,vs,n,(g l _ c b).1,Rs.go g _ _ r⟩,R.go g _ _ ru,⟨h',s.toks,rfl,λb o n e=>(sb.2 b n).trans e⟩,λa z=>⟨_,z▸eU⟩⟩⟩
 ·rw[AS,DW] at a;exact oB hd a λh' eb=>⟨rfl,h',s.toks,rfl,λb o n e=>eb b o n e⟩
def H8(hg:Gl X "reversed")(hm:X.mg "reversed"=none)(ha:PA X false [a] ga)(he:kh [a] X.env=(false,eval a X.env)::kh [] X.env:=by rfl)(hc:eval (.Call (.Name "reversed" p) [a] [] pos) X.env=(do
     let f <-eval (.Name "reversed" p) X.env
     CK pos f [] (ub pos (kh [a] X.env)) (Ut pos (Qi [] X.env))):=by rfl):PI X m tg (.Call (.Name "reversed" p) [a] [] pos) (iC lG ga):=jw (he:=he) (hpl:=rfl) (hc:=hc) hg hm bt_reversed ha λB π Z ow s s1 as ds us I t q r=>by
 unfold lG at q
 split at q<;>cases q
 obtain⟨u,rfl,r1⟩:=eX r;have r1:R X.toGx (X.O B ow) s1.heap _ u:=r1;rw[R] at r1;obtain⟨p1,v1,n1,rfl,H4,e1,l1,i8⟩:=r1;have hr:jf (s1.heap.push (tK p1 v1.toArray.size)) s1.heap.objs.size p1 v1.length:=by
  show _=some (tK p1 v1.length)
  rw[ke _ rfl];simp
 exact zce e1 (Jt hr (wR (tk:=s1.toks) I t (H7 (l:=p1) (by rw[i8.len];exact l1) I.ok.hd) (λb o=>kK _) (λa z=>z▸cP) (λa z=>by subst z;exact⟨_,hr⟩) (λ_ _=>_root_.id) (λ_=>UO) λg=>⟨by rw[i8.len];exact hr,(g p1 _ e1 H4).2,v1,n1,kK _ e1,Rs.go g _ _ i8⟩))
end
variable{bs:List Addr}
section
variable{G:Gx}{O:AP}{h:Heap}{d:Dt}{p b:Addr}{zs:List Dt}
variable{vs:List kL}
theorem H9{l:List Int}(x:ItemsAre (EJ G.P G.w) l vs):Rs G O h (l.map .int) vs:=by
 induction x with
 |nil=>exact .nil
 |cons k t ih=>obtain⟨t',rfl⟩:=CT k;exact .cons .int ih
noncomputable def Py(k:KT):Bool:=decide (k.length<=ψ)&&k.all λi=>match i with|.inl _=>true|.inr l=>decide (l.length<=ψ)
theorem NM{k:KT}(x:IT G.P G.w O h k vs)(z:∀i∈k,∀l,i=.inr l->l.length<=ψ):Rs G O h (k.map U1) vs:=by
 induction x with
 |nil=>exact .nil
 |a t ih=>exact .cons .int (ih λi m=>z i (uM _ m))
 |t n k t ih=>
  refine .cons ?_ (ih λi m=>z i (uM _ m));obtain⟨o,aS,m,e,c,dd,it⟩:=k;show R G O h (.tuple _) _;rw[R];have hl:=z _ uN _ rfl;have r:=H9 (G:=G) (O:=O) (h:=h) it;exact⟨_,aS.toList,rfl,n,⟨o,e,c,m,by simpa using dd⟩,by rw[<-r.len,kJ];exact hl,r⟩
def NN{k:KT}(x:IK G.P G.w O h k b)(l:Py k=true):R G O h (Pm k) (.ref b):=by
 obtain⟨n,o,aS,m,e,c,dd,it⟩:=x;obtain⟨l1,l2⟩:=Bool.and_eq_true_iff.mp l;show R G O h (.tuple _) _;rw[R];have r:=NM it λi m l e=>by have:=uS.mp l2 i m;subst e;exact ξ this
 exact⟨_,aS.toList,rfl,n,⟨o,e,c,m,by simpa using dd⟩,by rw[<-r.len,kJ];exact ξ l1,r⟩
theorem NO{ks:List KT}(x:Uo (IK G.P G.w O h) ks bs)(z:(ks.all Py)=true):Rs G O h (ks.map Pm) (bs.map .ref):=by
 induction x with
 |nil=>exact .nil
 |cons r t ih=>rw[Gf,pO] at z;exact .cons (NN r z.1) (ih z.2)
theorem tL:∀{ks:List dh}{vs:List kL}{es:List BX},ks.length=vs.length->Pairs (w9 G.P G.w) es (ks.zip vs)->Rs G O h (ks.map kD) (es.map (·.key))
 |[],vs,es,l,q=>by rw[Ev] at q;cases q;exact .nil
 |k::ks,[],es,l,q=>nomatch l
 |k::ks,v::vs,es,l,q=>by
  rw[UZ] at q
  cases q with
  |cons h1 h2 h3=>exact .cons (by rcases va h1 with⟨i,t,rfl,e⟩|⟨x,t,rfl,e⟩<;>(show R G O h _ (DictEntry.key _);rw[e]);exact .int;exact .str) (tL (by simpa using l) h3)
theorem Top.keys{R:List Dt->List kL->Prop}(t:Top G O h R d p)(q:yD [d]=some (.list zs)):∃o es ep,h.get? p=some o/\o.ExactDict/\o.data=.dict es ep/\(p==UN)=false/\Rs G O h zs (es.toList.map (·.key))/\es.size<=ψ:=by
 cases d with
 |dK ks ds=>
  cases q;obtain⟨vs,⟨l1,l2,sy,o,es,ep,e,ex,dd,_,pr,_⟩,_⟩:=t;have r:=tL (G:=G) (O:=O) (h:=h) l1 pr;have:ks.length=es.size:=by simpa using r.len
  exact⟨o,es,ep,e,ex,dd,sy,r,by lia⟩
 |dT ks ds=>
  obtain⟨vs,⟨bs,l1,l2,l3,sy,nd,pr,o,es,ep,e,ex,dd,z⟩,_⟩:=t
  change (if ks.all Py=true then some (Dt.list (ks.map Pm)) else none)=_ at q
  by_cases hc:ks.all Py=true
  ·rw[θ hc] at q;cases q;have hk:es.toList.map (·.key)=bs.map .ref:=by
    rw[z,uE,show((·.key)∘GK (xl G.P G.w))=(λx:KT×Addr×kL=>uQ x.2.1) from rfl,show(λx:KT×Addr×kL=>uQ x.2.1)=uQ∘pH∘HK from rfl,<-uE,<-uE,BW (by rw[Qd];lia),FP (by lia)]
   have sz:es.size=bs.length:=by simpa using υ CX hk
   exact⟨o,es,ep,e,ex,dd,sy,by rw[hk];exact NO pr hc,by lia⟩
  ·rw[η hc] at q;cases q
 |_=>cases q
end
variable{v:kL}
section
variable{X:Cx}{B:AP}{π:Addr}{Z:En}{ow:Os}{s s1:kW}{m:Bool}{a b e tg:Expr}{es:List Expr}{f g:En->Option Dt}{ga:En->Option (List Dt)}{p pos p' a8:Pos}{d:Dt}{ds:List Dt}
theorem oI:ZF X (.type "list") yD:=λB π Z ow s as d us I q r=>by
 have:∃d0 zs,as=[d0]/\d=.list zs/\(∃kd,(yf d0 kd).isSome=true):=by
  unfold yD at q
  split at q
  ·split at q<;>cases q;exact⟨_,_,rfl,rfl,.tuple [],rfl⟩
  ·cases q;exact⟨_,_,rfl,rfl,.int 0,rfl⟩
  ·cases q
 obtain⟨d0,zs,rfl,rfl,kd,hk⟩:=this;obtain⟨u,rfl,r1⟩:=eX r;obtain⟨p,rfl,top⟩:=r1.top hk;obtain⟨o,en,ep,ho,ex,dd,sy,rs,sz⟩:=top.keys q;refine zba I.ok.hd sy ho ex.1 dd (λh' tk bQ c' kp hS du=>?_) sz;have ea:bQ.toList=en.toList.map (·.key):=by
  refine QU λj=>?_;rw[kY,Qy,Qy];have ha:bQ.size=en.size:=du.1
  by_cases hj:j<en.size
  ·have i9:j<bQ.size:=by lia
   obtain⟨e,e1,e2⟩:=du.2 j bQ[j] (QP i9);rw[QP i9,e1,e2];rfl
  ·rw[BD (by lia),BD (by lia)]
   rfl
 exact I.lnew (t':=tk) (us:=bQ.toList) (by rw[ea];exact rs) (by rw[ea,kJ,Qs];exact sz) kp cP (by simpa using hS)
def lV(hg:Gl X "list")(hm:X.mg "list"=none)(ha:PA X true (e::es) ga)(he:kh (e::es) X.env=(false,eval e X.env)::kh es X.env:=by rfl)(hpl:(ub pos (kh es X.env)).any (·.1)=false:=by rfl):PF X (.Call (.Name "list" p) (e::es) [] pos) (aj yD ga):=Nt oI hg hm bt_list ha (he:=he) (hpl:=hpl)
theorem Rs.rev{G:Gx}{O:AP}{h:Heap}:∀{ds:List Dt}{vs:List kL},Rs G O h ds vs->Rs G O h ds.reverse vs.reverse
 |[],vs,r=>by rw[Rs] at r;subst r;exact .nil
 |d::ds,vs,r=>by
  rw[Rs] at r;obtain⟨v,r,rfl,h1,h2⟩:=r;rw[Ew,Ew];exact h2.rev.app (.cons h1 .nil)
theorem Ia{tp di:Bool}{x y d:Dt}{u:kL}(I:Inv X B π Z ow s)(q:D1 tp di x y=some d)(r1:RT X.toGx (X.O B ow) s.heap x v)(r2:RT X.toGx (X.O B ow) s.heap y u):∃k es as bs,Reads s.heap v k as/\Reads s.heap u (if tp=true then .tuple es else .list es) bs/\k.canLay0=true/\uH es=true/\k.depth<=60/\d=.bool (if di=true then !(es.any λe=>UA e k) else es.any λe=>UA e k):=by
 obtain⟨k,e1,q⟩:=kA.mp q;obtain⟨ds,e2,q⟩:=kA.mp q;obtain⟨es,e3,q⟩:=kA.mp q
 split at q
 ·rename_i c;cases q
  obtain⟨as,ra⟩:=r1.rd e1;have:cB y=some (if tp=true then .tuple es else .list es):=by
   cases tp<;>cases y<;>cases e2<;>(rw[cB,e3];rfl)
  obtain⟨bs,rb⟩:=r2.rd this;exact⟨k,es,as,bs,ra,rb,c.1,c.2.1,c.2.2,rfl⟩
 ·cases q
theorem NP(hu:X.A.units+64<ν):Z2 X (QX .NotIn) (D1 true true):=λB π Z ow s x y d v u I q r1 r2=>by
 obtain⟨k,es,as,bs,ra,rb,c1,c2,c3,rfl⟩:=Ia I q r1 r2;exact SeqAt.notIn_tuple_reads rb ra c2 c1 (by lia) ⟨I.sx,.bl⟩
def Ib(hu:X.A.units+64<ν)(ha:PE X true a f)(hb:PE X true b g)(hm:gP .NotIn b=false:=by rfl):PT X (.Compare a [.NotIn] [b] pos) (dB (d2 (D1 true true) f g)):=iY (NP hu) ha hb hm
end
variable{n0:Nat}{kd:Dt}
section
variable{X:Cx}{B S':AP}{π:Addr}{Z:En}{ow:Os}{s s' s1:kW}{m:Bool}{a b e e' k l o ve:Expr}{es:List Expr}{f g fk fl fv fc:En->Option Dt}{ga:En->Option (List Dt)}{p pos a8 lW xp yp aR aF fy fA:Pos}{x y:Str}{d d0 c c0:Dt}{ds:List Dt}{u v r:kL}{vs:List kL}{q pa:Addr}{qs:List Addr}{i j n:Nat}{io:Bool}{h h':Heap}{t':Nat}{G:Gx}{O O':AP}
def Inv.own2(I:Inv X B π Z ow s)(hN:X.N[i]?=some x)(q:(Z[i]?).bind as2=some (io,d)):∃n0 d0,Z[i]?=some (.ow io n0 d0)/\∃p,cL X s.heap x p/\RW X.toGx (X.O B ow) s.heap (ow i) 2 d p:=by
 obtain⟨sl,e,q⟩:=kA.mp q;unfold as2 at q
 split at q<;>cases q
 ·obtain⟨p,h1,_,h2⟩:=I.hol hN e;exact⟨_,_,e,p,h1,h2⟩
 ·obtain⟨p,h1,_,hS,vs,x,r⟩:=I.hol hN e;rw[Rs] at r;subst r;exact⟨_,_,e,p,h1,[],λa=>by simp[hS a],by simp,[],x,rfl,rfl,λi d q h=>by simp at h⟩
 ·obtain⟨p,h1,_,hS,vs,x,r⟩:=I.hol hN e;rw[Rs] at r;subst r;exact⟨_,_,e,p,h1,[],λa=>by simp[hS a],by simp,[],x,rfl,rfl,λi d q h=>by simp at h⟩
theorem Top.ch{R:List Dt->List kL->Prop}(t:Top G O h R d pa):∃vs,R (yx d) vs:=by
 cases d with
 |list ds=>obtain⟨vs,_,_,_,r⟩:=t;exact⟨vs,r⟩
 |dK ks ds=>obtain⟨vs,_,r⟩:=t;exact⟨vs,r⟩
 |dT ks ds=>obtain⟨vs,_,r⟩:=t;exact⟨vs,r⟩
 |_=>exact t.elim
theorem Top.setCh{R R':List Dt->List kL->Prop}(t:Top G O h R d pa)(g:Gd O h O' h')(k:∀o,h.get? pa=some o->h'.get? pa=some o)(r:∀vs,R (yx d) vs->R' ((yx d).set j c) vs):Top G O' h' R' (setCh d j c) pa:=by
 cases d with
 |list ds=>obtain⟨vs,n,e,l,z⟩:=t;exact⟨vs,n,k _ e,l,r vs z⟩
 |dK ks ds=>obtain⟨vs,x,z⟩:=t;exact⟨vs,x.at k,r vs z⟩
 |dT ks ds=>obtain⟨vs,x,z⟩:=t;exact⟨vs,x.at g k,r vs z⟩
 |_=>exact t.elim
def vN(top:Top G O h (mK G O h qs) d pa)(g:Gd O h O' h')(k:∀a o,h.get? a=some o->(∀z,o.data≠.fields z)->h'.get? a=some o):Top G O' h' (mK G O' h' qs) d pa:=by
 obtain⟨o,e,nf⟩:=top.get;exact top.imp g (λo' e'=>by rw[e] at e';cases e';exact k pa o e nf) λ_ _⟨a,b,c⟩=>⟨a,b,λi d r h1 h2=>by
  have:=c i d r h1 h2;obtain⟨o,e,nf⟩:=this.get;exact this.imp g (λo' e'=>by rw[e] at e';cases e';exact k r o e nf) λ_ _=>Rs.go g _ _⟩
def Pz{S:AP}(hS:∀a,S a->ow i a\/O' a){a:Addr}(z:X.O B (ca ow i S) a):X.O B ow a\/O' a:=by
 rcases z with z|⟨j,⟨_,z⟩|⟨_,z⟩⟩|z
 ·exact .inl (.inl z)
 ·exact(hS a z).imp (λz=>.inr (.inl ⟨i,z⟩)) id
 ·exact .inl (.inr (.inl ⟨j,z⟩))
 ·exact .inl (.inr (.inr z))
def NQ{a:Addr}(z:X.O B (ca ow i (ow i)) a):X.O B ow a:=(Pz (O':=bG) (λa z=>.inl z) z).elim id UO
variable{d0:Dt}
theorem Inv.mut2(I:Inv X B π Z ow s)(M:Nm X i x)(e:Z[i]?=some (.ow io n0 d0))(hp:cL X s.heap x pa)(hS:∀a,ow i a↔a=pa\/a∈qs)(nd:(pa::qs).Nodup)(top:Top X.toGx (X.O B ow) s.heap (mK X.toGx (X.O B ow) s.heap qs) d pa)(hq:qs[j]?=some q)
  (sb:∀a o,a≠q->s.heap.get? a=some o->h'.get? a=some o)(tc:Top X.toGx (X.O B ow) h' (Rs X.toGx (X.O B ow) s.heap) c q):∃aJ,Sq X B π ow s (Z.set i (.ow io 2 (setCh d j c))) aJ {s with heap:=h',toks:=t'}:=by
 have mq:q∈qs:=kg hq;obtain⟨n1,n2⟩:=uU.mp nd;have oq:ow i q:=(hS q).mpr (.inr mq);have np:pa≠q:=λz=>n1 (z▸mq);have gg:Gd (X.O B ow) s.heap (X.O B ow) h':=λa o e n=>⟨sb a o (λz=>n (z▸.inr (.inl ⟨i,oq⟩))) e,n⟩;obtain⟨NR,cv,cl,cc⟩:=top.ch;refine I.mutH (S':=ow i) M e hp (λa o e n=>sb a o (λz=>n (z▸oq)) e) (λ_ z=>z) (λa z=>⟨?_,.inl z⟩) λg=>⟨qs,hS,nd,top.setCh (gg.trans (Gd.less λ_=>NQ)) (λo=>sb pa o np) λvs⟨e1,e2,e3⟩=>⟨e1,by rw[UP];exact e2,λi' d' r' h1 h2=>?_⟩⟩
 ·by_cases z':a=q
  ·subst z';exact tc.get
  ·rcases(hS a).mp z with z2|z2
   ·subst z2;obtain⟨o,eo,nf⟩:=top.get;exact⟨o,sb _ o z' eo,nf⟩
   ·obtain⟨i',hi,er⟩:=pW.mp z2;obtain⟨o,eo,nf⟩:=(cc i' _ a (kC (by lia)) (by rw[<-er];exact kC hi)).get
    exact⟨o,sb _ o z' eo,nf⟩
 ·rw[gY] at h1
  by_cases ej:j=i'
  ·subst ej;rw[hq] at h2;cases h2;rw[θ rfl] at h1
   split at h1<;>cases h1
   exact tc.imp (Gd.less λ_=>NQ) (λ_ e=>e) λ_ _=>Rs.go (gg.trans (Gd.less λ_=>NQ)) _ _
  ·rw[η ej] at h1;have nr:r'≠q:=λz=>by
    subst z;obtain⟨a1,a2⟩:=kH.mp hq;obtain⟨b1,b2⟩:=kH.mp h2;exact ej ((Cu n2).mp (a2.trans b2.symm))
   exact(e3 i' d' r' h1 h2).imp (gg.trans (Gd.less λ_=>NQ)) (λo=>sb r' o nr) λ_ _=>Rs.go (gg.trans (Gd.less λ_=>NQ)) _ _
def Inv.child(I:Inv X B π Z ow s)(top:Top X.toGx (X.O B ow) s.heap (mK X.toGx (X.O B ow) s.heap qs) d pa)(ix:yU d kd=some j)(c0:(yx d)[j]?=some c)(rk:RT X.toGx (X.O B ow) s.heap kd u):∃q,qs[j]?=some q/\Top X.toGx (X.O B ow) s.heap (Rs X.toGx (X.O B ow) s.heap) c q/\((yf d kd).isSome=true->wM X.toGx s.heap pa u (some (.ref q)))/\∀ds,d=.list ds->∃i t vs n,kd=.int i/\u=.int i t/\s.heap.get? pa=some (lo vs n)/\vs.length<=ψ/\ixN vs.length i=some j/\vs[j]?=some (.ref q):=by
 obtain⟨NR,e1,e2,e3⟩:=top.ch;have lj:j<qs.length:=by rw[<-e2];exact(kH.mp c0).1
 have hq:qs[j]?=some qs[j]:=kC lj;refine⟨qs[j],hq,e3 j c _ c0 hq,λhk=>?_,λds ed=>?_⟩
 ·obtain⟨vs,⟨e1,_⟩,_,z⟩:=top.dict hk rk;exact z j _ ix (by rw[e1,kY,hq];rfl)
 ·subst ed
  cases kd<;>first|cases ix|skip
  obtain⟨t,rfl⟩:=rk.int;obtain⟨vs,n,e,l,z1,z2,_⟩:=top;exact⟨_,t,vs,n,rfl,rfl,e,l,by rw[z1,kJ,<-z2];exact ix,by rw[z1,kY,hq];rfl⟩
theorem Ic(ix:yU d kd=some j):(yf d kd).isSome=true\/∃ds,d=.list ds:=by
 cases d with
 |list ds=>exact .inr ⟨ds,rfl⟩
 |dK ks ds=>obtain⟨kk,q,_⟩:=kA.mp ix;exact .inl (by simp[yf,q])
 |dT ks ds=>obtain⟨kk,q,_⟩:=kA.mp ix;exact .inl (by simp[yf,q])
 |_=>cases ix
theorem WD(hu:X.A.units+64<ν)(M:Nm X i x)(I:Inv X B π Z ow s)(q2:(Z[i]?).bind as2=some (io,d))(hk:PE X true k fk)(qk:fk Z=some kd)(ix:yU d kd=some j)(c0:(yx d)[j]?=some c)(hs:∀ov iv,subscripted k false ov iv=operate [ov,iv] (CV ov iv)){Q:kL->kW->Prop}
  (z:∀pa qs q s1,Sx X B π Z ow s s1->cL X s1.heap x pa->(∀a,ow i a↔a=pa\/a∈qs)->(pa::qs).Nodup->Top X.toGx (X.O B ow) s1.heap (mK X.toGx (X.O B ow) s1.heap qs) d pa->qs[j]?=some q->Top X.toGx (X.O B ow) s1.heap (Rs X.toGx (X.O B ow) s1.heap) c q->Q (.ref q) s1):δ (ε X.P X.w) X.A (eval (.Subscript (.Name x xp) k pos) X.env) Q nE s:=by
 obtain⟨n0,d0,e0,pa,hp,_⟩:=I.own2 M.ix q2;have key:δ (ε X.P X.w) X.A (eval (.Name x xp) X.env) (λo aW=>o=.ref pa/\δ (ε X.P X.w) X.A (eval k X.env) (λu bV=>Sx X B π Z ow s bV/\∃qs q,cL X bV.heap x pa/\(∀a,ow i a↔a=pa\/a∈qs)/\(pa::qs).Nodup/\Top X.toGx (X.O B ow) bV.heap (mK X.toGx (X.O B ow) bV.heap qs) d pa/\qs[j]?=some q/\Top X.toGx (X.O B ow) bV.heap (Rs X.toGx (X.O B ow) bV.heap) c q/\RT X.toGx (X.O B ow) bV.heap kd u) nE aW) nE s:=
  wL I M hp ⟨rfl,av (hk B π Z ow s kd I qk) λu s2⟨t,r⟩=>by
   have fX:=hp.sx I t;obtain⟨_,_,_,RS,eh,qs,hS,nd,top⟩:=t.1.own2 M.ix q2;obtain rfl:=fX.uniq eh;obtain⟨q,hq,tc,_⟩:=t.1.child top ix c0 r;exact⟨t,qs,q,fX,hS,nd,top,hq,tc,r⟩⟩
 rcases Ic ix with dH|⟨ds',rfl⟩
 ·refine Nd CR.lookup hs (av key λov s1⟨e,h⟩=>av h λu s2 hw=>?_);obtain⟨t,qs,q,fX,hS,nd,top,hq,tc,r⟩:=hw;subst e;obtain⟨q',Ie,_,g,_⟩:=t.1.child top ix c0 r;rw[hq] at Ie;cases Ie;exact⟨(g dH).ty.1,VY hu (g dH) λtk=>z pa qs q _ (t.trans (t.1.tok tk)) fX hS nd top hq tc⟩
 ·refine By (av key λov s1⟨e,h⟩=>av h λu s2 hw=>?_);obtain⟨t,qs,q,fX,hS,nd,top,hq,tc,r⟩:=hw;subst e;obtain⟨q',Ie,_,_,g⟩:=t.1.child top ix c0 r;rw[hq] at Ie;cases Ie;obtain⟨ii,tk,vs,n,rfl,rfl,el,lz,ixv,hv⟩:=g _ rfl;have hn:=cU;have il:s2.heap.IsList pa vs.toArray:=⟨_,el,rfl,n,rfl⟩;obtain⟨h1,h2,h3,h4⟩:=Xo ixv;have fin:=z pa qs q s2 t fX hS nd top hq tc
  by_cases h0:0<=ii
  ·rw[Du h0 h4] at h1;exact item_listR il h0 (by lia) (by rw[pT h1];simpa using hv) fin (hs _ _)
  ·rw[DJ (by lia) h3] at h1
   exact Ar (x:=.ref q) il.typeIs As.lookup (DL (Q:=λr s'=>r=.ref q/\_) il (by lia) (by rw[pA];lia) (by lia) (by rw[pA,pT h1];simpa using hv) ⟨rfl,fin⟩) (hs _ _)
def lX(i:Nat)(hu:X.A.units+64<ν)(hk:PE X true k fk)(hl:PE X true l fl)(hv:PE X false ve fv)(M:Nm X i x:=by exact⟨yk (by kernel_rfl),rfl,by decide,by decide⟩)(hs:∀ov iv,subscripted k false ov iv=operate [ov,iv] (CV ov iv):=by exact λ_ _=>rfl)(cM:QY ve (some (.Subscript (.Subscript (.Name x xp) k lW) l a8)) pos.line X.env=pure false:=by rfl):PS X (.Assign [.Subscript (.Subscript (.Name x xp) k lW) l a8] ve pos) (qt i fk fl fv):=λB π Z ow s o I q=>by
 obtain⟨v,q1,q⟩:=kA.mp q;obtain⟨kd,q2,q⟩:=kA.mp q;obtain⟨ld,q3,q⟩:=kA.mp q;obtain⟨⟨io,d⟩,q4,q⟩:=kA.mp q;obtain⟨j,q5,q⟩:=kA.mp q;obtain⟨c0,q6,q⟩:=kA.mp q;obtain⟨c,q7,q⟩:=kA.mp q
 cases q;refine gE (av (hv B π Z ow s v I q1) λu s1⟨t1,r1⟩=>WD hu M t1.1 q4 hk q2 q5 q6 hs λpa qs q s2 t2 hp hS nd top hq tc=>av (hl B π Z ow s2 ld t2.1 q3) λw s3 hw=>?_) cM;obtain⟨t3,r3⟩:=hw;obtain⟨n0,d0,e0,RS,eh,qs',iM,NT,lY⟩:=t3.1.own2 M.ix q4;have oq:X.O B ow q:=.inr (.inl ⟨i,(hS q).mpr (.inr (kg hq))⟩);have nT:∀{a o},s2.heap.get? a=some o->(∀z,o.data≠.fields z)->s3.heap.get? a=some o:=λe nf=>t3.2.kp _ _ e id (t2.1.nt e nf);have g3:=t2.1.gd t3.2;have tc3:Top X.toGx (X.O B ow) s3.heap (Rs X.toGx (X.O B ow) s3.heap) c0 q:=by obtain⟨o,e,nf⟩:=tc.get;exact tc.imp g3 (λo' e'=>by rw[e] at e';cases e';exact nT e nf) λ_ _=>Rs.go g3 _ _
 have lZ:=vN top g3 λa o e nf=>nT e nf;refine tF hu oq tc3 q7 r3 (R.go (t1.1.gd (t2.2.then t3.2)) _ _ r1) λh' tk sb nt=>?_;obtain⟨w',kk⟩:=t3.1.mut2 (t':=tk) M e0 (hp.sx t2.1 t3) hS nd lZ hq (λa o n e=>(sb.2 a n).trans e) nt;exact⟨w',((t1.trans t2).trans t3).sq.trans kk⟩
theorem Inv.app_child{cs:List Dt}{yd:Dt}{w:kL}(I:Inv X B π Z ow s)(M:Nm X i x)(e:Z[i]?=some (.ow io n0 d0))(hp:cL X s.heap x pa)(hS:∀a,ow i a↔a=pa\/a∈qs)(nd:(pa::qs).Nodup)(top:Top X.toGx (X.O B ow) s.heap (mK X.toGx (X.O B ow) s.heap qs) d pa)(hq:qs[j]?=some q)(c0:(yx d)[j]?=some (.list cs))(l:cs.length<ψ)(r:R X.toGx (X.O B ow) s.heap yd w):
  δ (ε X.P X.w) X.A (GQ (.builtin "list.append") [.ref q,w]) (λ_ s'=>∃aJ,Sq X B π ow s (Z.set i (.ow io 2 (setCh d j (.list (cs++[yd]))))) aJ s') nE s:=by
 obtain⟨NR,_,_,cc⟩:=top.ch;obtain⟨vs,nn,el,lz,rs⟩:=cc j _ q c0 hq;have hl:=rs.len;refine BV QZ ⟨_,el,rfl⟩ AN (AC _ _) (CY q vs.toArray nn w (by rw[pA];lia)) ⟨el,?_⟩
 have zz:=Cv el (λx=>x.push w);rw[show vs.toArray.push w=(vs++[w]).toArray by simp] at zz
 exact I.mut2 (t':=s.toks) (c:=.list (cs++[yd])) M e hp hS nd top hq (λa o n e=>(pX s.heap _ (UR n)).trans e) ⟨_,_,zz,by rw[kb,uh];lia,rs.app (.cons r .nil)⟩
theorem oJ(i:Nat)(hu:X.A.units+64<ν)(hk:PE X true k fk)(hv:PE X false e fv)(n:NS e:=by intro _ _;rfl)(M:Nm X i x:=by exact⟨yk (by kernel_rfl),rfl,by decide,by decide⟩)(hs:∀ov iv,subscripted k false ov iv=operate [ov,iv] (CV ov iv):=by exact λ_ _=>rfl)(T:Mt X (.Subscript (.Name x xp) k lW) "append" [e] aR aF:=by exact⟨rfl,rfl,rfl,_,_,rfl,rfl⟩)
  (cM:QY (.Call (.Attribute (.Subscript (.Name x xp) k lW) "append" aR) [e] [] aF) none pos.line X.env=pure false:=by rfl):PS X (.Expr (.Call (.Attribute (.Subscript (.Name x xp) k lW) "append" aR) [e] [] aF) pos) (jv i fk fv):=λB π Z ow s o I q=>by
 obtain⟨kd,q2,q⟩:=kA.mp q;obtain⟨v,q1,q⟩:=kA.mp q;obtain⟨⟨io,d⟩,q4,q⟩:=kA.mp q;obtain⟨j,q5,q⟩:=kA.mp q;obtain⟨c0,q6,q⟩:=kA.mp q;obtain⟨c,q7,q⟩:=kA.mp q
 cases q
 cases c0<;>first|cases q7|skip
 rename_i cs
 change (if cs.length<ψ then some (Dt.list (cs++[v])) else none)=_ at q7
 split at q7<;>cases q7
 refine Ax (lN Al QZ AV T (WD hu M I q4 hk q2 q5 q6 hs λpa qs q s2 t2 hp hS nd top hq tc=>?_)) I.quiet cM;obtain⟨NR,n0,e0,_⟩:=_root_.id tc;refine⟨Yq e0,?_⟩;rw[n];refine uI (av (hv B π Z ow s2 v t2.1 q1) λw s3⟨t3,r3⟩=>QD ?_);obtain⟨n1,d1,e1,_⟩:=t3.1.own2 M.ix q4;have nT:∀{a o},s2.heap.get? a=some o->(∀z,o.data≠.fields z)->s3.heap.get? a=some o:=λe nf=>t3.2.kp _ _ e id (t2.1.nt e nf);have g3:=t2.1.gd t3.2;have lZ:=vN top g3 λa o e nf=>nT e nf;exact av (t3.1.app_child M e1 (hp.sx t2.1 t3) hS nd lZ hq q6 ‹_› r3) λ_ s4⟨w',kk⟩=>⟨w',(t2.trans t3).sq.trans kk⟩
def oK(i:Nat)(hu:X.A.units+64<ν)(hi:PE X true k f)(M:Nm X i x:=by exact⟨yk (by kernel_rfl),rfl,by decide,by decide⟩)(h1:gP .NotIn (.Name x xp)=false:=by rfl):PT X (.Compare k [.NotIn] [.Name x xp] pos) (dB (jW true f i)):=λB π Z ow s rb I q=>by
 obtain⟨db,q,e⟩:=kA.mp q;obtain⟨kd,q1,q⟩:=kA.mp q;obtain⟨⟨io,d⟩,q2,q⟩:=kA.mp q;obtain⟨c,q3,q⟩:=kA.mp q
 cases q;cases e;refine gS (av (hi B π Z ow s kd I q1) λu s1 hw=>?_) h1;obtain⟨t,r⟩:=hw;obtain⟨_,_,_,pa,hp,qs,_,_,top⟩:=t.1.own2 M.ix q2;refine wL t.1 M hp ?_;obtain⟨_,_,z,_⟩:=top.dict (k:=kd) (by rw[q3];rfl) r
 obtain⟨ov,g,eo⟩:=z c q3;exact Na hu g λtk=>uj ⟨by rw[eo];rfl,t.trans (t.1.tok tk)⟩
theorem Inv.add2(I:Inv X B π Z ow s)(M:Nm X i x)(e:Z[i]?=some (.ow io n0 d0))(hp:cL X s.heap x pa)(hS:∀a,ow i a↔a=pa\/a∈qs)(nd:(pa::qs).Nodup){ks:List KT}{PB:List KT}{RU:List kL}(cl:ds.length=qs.length)(cc:∀(i:Nat)(d:Dt)(q:Addr),ds[i]?=some d->qs[i]?=some q->Top X.toGx (X.O B ow) s.heap (Rs X.toGx (X.O B ow) s.heap) d q)
  (nq:s.heap.get? q=none)(t:St X.toGx (λa=>a=pa) s s')(ge:DI s'.gens)(lt:∀t∈X.tb,LT (X.O (λa=>B a\/a=q) ow) s'.heap t)(x':DT X.toGx (X.O (λa=>B a\/a=q) ow) s'.heap pa PB RU)(ev:RU=(qs++[q]).map .ref)(tc:Top X.toGx (X.O (λa=>B a\/a=q) ow) s'.heap (Rs X.toGx (X.O (λa=>B a\/a=q) ow) s'.heap) c q):
  ∃aJ,Sq X B π ow s (Z.set i (.ow io 2 (.dT PB (ds++[c])))) aJ s'/\(∀a,aJ i a↔a=pa\/a∈qs++[q])/\(pa::(qs++[q])).Nodup/\Top X.toGx (X.O B aJ) s'.heap (mK X.toGx (X.O B aJ) s'.heap (qs++[q])) (.dT PB (ds++[c])) pa:=by
 obtain⟨n1,n2⟩:=uU.mp nd;have op:ow i pa:=(hS pa).mpr (.inl rfl);have np:q≠pa:=λz=>I.apart nq (z▸.inr (.inl ⟨i,op⟩));have nqs:q∉qs:=λz=>I.apart nq (.inr (.inl ⟨i,(hS q).mpr (.inr z)⟩));have om:∀{a},X.O B (ca ow i λa=>ow i a\/a=q) a->X.O (λa=>B a\/a=q) ow a:=λz=>(Pz (O':=λa=>a=q) (λa z=>z) z).elim (λz=>z.imp .inl id) λz=>.inl (.inr z);have kq:∀{a o},a≠pa->s.heap.get? a=some o->(∀z,o.data≠.fields z)->s'.heap.get? a=some o:=λn e nf=>t.kp _ _ e n (I.nt e nf);have g:Gd (X.O B ow) s.heap (X.O B (ca ow i λa=>ow i a\/a=q)) s'.heap:=λa o e n=>⟨t.kp a o e (λz=>n (z▸.inr (.inl ⟨i,op⟩))) λz=>n (.inl (I.bt a z)),λz=>(Pz (O':=λa=>a=q) (λa z=>z) z).elim n λz=>by rw[z,nq] at e;cases e⟩
 have LN:∀{a},a∈qs->∃o,s.heap.get? a=some o/\∀z,o.data≠.fields z:=λz=>by
  obtain⟨i',hi,er⟩:=pW.mp z;exact(cc i' _ _ (kC (by lia)) (by rw[<-er];exact kC hi)).get
 have NT:(pa::(qs++[q])).Nodup:=by
  rw[<-Qk,QE];exact⟨nd,by simp,λa ha b hb e=>by simp at hb;subst hb;subst e;rcases kT.mp ha with z|z;exact np z;exact nqs z⟩
 have lY:Top X.toGx (X.O B (ca ow i λa=>ow i a\/a=q)) s'.heap (mK X.toGx (X.O B (ca ow i λa=>ow i a\/a=q)) s'.heap (qs++[q])) (.dT PB (ds++[c])) pa:=by
  refine⟨RU,x'.at (Gd.less λ_=>om) (λ_ e=>e),ev,by simp[cl],λi' d' r' h1 h2=>?_⟩
  by_cases hi:i'<qs.length
  ·rw[QH hi] at h2;rw[QH (by lia)] at h1
   have tt:=cc i' d' r' h1 h2;obtain⟨o,e,nf⟩:=tt.get;exact tt.imp g (λo' e'=>by rw[e] at e';cases e';exact kq (λy=>n1 (y▸kg h2)) e nf) λ_ _=>Rs.go g _ _
  ·rw[uJ (by lia)] at h2
   rw[uJ (by lia)] at h1
   have e0:i'-qs.length=0:=by have:=(kH.mp h2).1;simp at this;lia
   rw[e0] at h2;rw[cl,e0] at h1
   cases h1;cases h2;exact tc.imp (Gd.less λ_=>om) (λ_ e=>e) λ_ _=>Rs.go (Gd.less λ_=>om) _ _
 refine⟨_,I.mut (S':=λa=>ow i a\/a=q) M e hp ⟨t.os,λa o e n nt=>t.kp a o e (λz=>n (z▸op)) nt,t.ex,t.tg⟩ ge (λa z=>⟨?_,z.imp id λz=>by rw[z];exact nq⟩) (λt m=>(lt t m).go (λa z=>.inl (om z)) (λ_ _ e _=>e) λ_ e=>e) ⟨qs++[q],λa=>by simp[hS a,or_assoc],NT,lY⟩,λa=>by simp[ca,hS a,or_assoc],NT,lY⟩
 rcases z with z|z
 ·rcases(hS a).mp z with z|z
  ·subst z;obtain⟨o,_,_,e,dd⟩:=x'.get;exact⟨o,e,λz y=>by rw[dd] at y;cases y⟩
  ·obtain⟨o,e,nf⟩:=LN z;exact⟨o,kq (λy=>n1 (y▸z)) e nf,nf⟩
 ·subst z;exact tc.get
end
section
variable{prog:QT}{w:World}{A:QF}{E:kL->kW->Prop}{s:kW}{κ:Type}[DecidableEq κ]{cR:HeapKind prog w κ}
theorem oM{d a:Addr}{xs:List (κ×Addr×kL)}{k:κ}(hu:cR.room A)(fY:cR.is s.heap k a)(hm:s.heap.DictOfH cR d xs)(hz:xs.length<=ψ)(q1:∀p,atKey xs k=some p->Q p.2 {s with toks:=s.toks+cR.draws k})
  (q2:atKey xs k=none->∀h',h'.DictOfH cR d (Ep xs k a v)->Qc d s.heap h'->Q v {s with heap:=h',toks:=s.toks+cR.draws k}):δ (ε prog w) A (EE d (.ref a) v) Q E s:=by
 obtain⟨o,es,ep,ho,hc,hd,he,his,hn⟩:=hm;unfold EE;refine gR (kB (cR.pyHash hu fY (kB (wpAny_dictFind_heap (s:={s with toks:=s.toks+cR.draws k}) hu fY ho hd he his hn (λPC=>?_) λj p hj=>?_))))
 ·have an:=atKey_none_of_get PC;have RX:k∉xs.map (·.1):=not_mem_keys_of_get PC;refine kB (AD (kB (wpAny_updateDictKeys (hz:=by have e:=size_of_entries he;lia) (s:={s with toks:=s.toks+cR.draws k}) ho hd (kR (q2 an _ ⟨_,_,ep+1,uo _ ho (Obj.isFreed_of_dict (EF hd _)),hc.mapDictKeys _,EF hd _,?_,?_,?_⟩ (QR ..))))))
  ·rw[Fo an]
   simp[he,GK]
  ·rw[Fo an];intro x hx;rcases pC.mp hx with y|y
   ·exact cR.keeps (his x y) ho hd (QR ..)
   ·rw[pE.mp y];exact cR.keeps fY ho hd (QR ..)
  ·rw[Fo an,pD,QE];refine⟨hn,by simp,λx hx y hy e=>RX ?_⟩
   have y':y=k:=by simpa using hy
   rw[<-y',<-e];exact hx
 ·refine kB (BC (s:={s with toks:=s.toks+cR.draws k}) ho hd ?_);rw[entry_at he j,hj];exact kB (AD (kR (q1 p (atKey_of_get hn hj))))
def oO{d a:Addr}(hd:(d==UN)=false){xs:List (κ×Addr×kL)}{k:κ}(hu:cR.room A.in1)(fY:cR.is s.heap k a)(hm:s.heap.DictOfH cR d xs)(hz:xs.length<=ψ)(q1:∀p,atKey xs k=some p->Q p.2 {s with toks:=s.toks+cR.draws k})
  (q2:atKey xs k=none->∀h',h'.DictOfH cR d (Ep xs k a v)->Qc d s.heap h'->Q v {s with heap:=h',toks:=s.toks+cR.draws k}):δ (ε prog w) A (call (.builtin "dict.setdefault") [.ref d,.ref a,v]) Q E s:=by
 have M:MeetsIn prog w (gh.«dict.setdefault» ⟨[.ref d,.ref a,v],[]⟩) (λA R s=>cR.room A.in1/\∃k xs,cR.is s.heap k a/\s.heap.DictOfH cR d xs/\xs.length<=ψ/\(∀p,atKey xs k=some p->R (.ok (.ret p.2)) {s with toks:=s.toks+cR.draws k})/\(atKey xs k=none->∀h',h'.DictOfH cR d (Ep xs k a v)->Qc d s.heap h'->R (.ok (.ret v)) {s with heap:=h',toks:=s.toks+cR.draws k})):=
  .of_wp λA R s⟨hu,k,xs,fY,hm,hz,h1,h2⟩=>by
   unfold gh.«dict.setdefault» Builtin.Dict.keyAndDefault;refine kB (kB (Dj hm.typeIs ?_));show δ _ _ (pure (d,uQ a,some v)) _ _ s;refine kR ?_;show δ _ _ (if(d==UN)=true then _ else(EE d (uQ a) v>>=_)) _ _ s;rw[η (by rw[hd];decide)]
   exact kB (oM hu fY hm hz (λp hp=>kR ⟨p.2,rfl,h1 p hp⟩) λhn h' ou LL=>kR ⟨v,rfl,h2 hn h' ou LL⟩)
 exact Er Bl hm.typeIs PySem.F.entry_dict_setdefault (PySem.F.args_dict_setdefault_3 _ _ _) M ⟨hu,k,xs,fY,hm,hz,q1,q2⟩
end
variable{κ:Type}
section
variable{X:Cx}{B:AP}{π:Addr}{Z:En}{ow:Os}{s s' s1:kW}{m:Bool}{e e' k ve:Expr}{es:List Expr}{f g fk fc:En->Option Dt}{ga:En->Option (List Dt)}{p pos a8 xp yp lp aR aF fy fA fZ:Pos}{x y:Str}{d d0 c:Dt}{ds:List Dt}{us:List kL}{q pa:Addr}{qs:List Addr}{i j:Nat}{io:Bool}
def W3(I:Inv X B π Z ow s)(t:St X.toGx bG s s1)(nq:s.heap.get? q=none):Gd (X.O B ow) s.heap (X.O (λa=>B a\/a=q) ow) s1.heap:=λa o e n=>⟨t.kp a o e id λz=>n (.inl (I.bt a z)),λz=>n (z.elim (λz=>z.elim .inl λz=>by rw[z,nq] at e;cases e) .inr)⟩
theorem zc0{d0 c d:Dt}(q:Yu d0 kd c=some d):∃ks ds kk,d0=.dT ks ds/\xQ kd=some kk/\ks.length<ψ/\yR ks kk=false/\d=.dT (ks++[kk]) (ds++[c]):=by
 cases d0 with
 |dT ks ds=>
  obtain⟨kk,q1,q⟩:=kA.mp q
  split at q<;>cases q
  have z:=‹_/\_›;exact⟨ks,ds,kk,rfl,q1,z.1,z.2,rfl⟩
 |_=>cases q
def tM[DecidableEq κ]{ks:List κ}{kk:κ}(h:yR ks kk=false):pK ks kk=ks++[kk]:=η (of_decide_eq_false h)
def tN{α:Type}[DecidableEq κ]{ks:List κ}{vs:List α}{kk:κ}{v:α}(h:yR ks kk=false):pV ks vs kk v=vs++[v]:=η (of_decide_eq_false h)
def l7(i:Nat)(hu:X.A.units+64<ν)(hk:PE X true k fk)(hv:PF X ve fc)(M:Nm X i x:=by exact⟨yk (by kernel_rfl),rfl,by decide,by decide⟩)(hs:QY ve (some (.Subscript (.Name x xp) k a8)) pos.line X.env=pure false:=by rfl):PS X (.Assign [.Subscript (.Name x xp) k a8] ve pos) (YX i fk fc):=λB π Z ow s o I qq=>by
 obtain⟨c,q1,qq⟩:=kA.mp qq;obtain⟨kd,q2,qq⟩:=kA.mp qq;obtain⟨⟨io,d0⟩,q3,qq⟩:=kA.mp qq;obtain⟨d,q4,qq⟩:=kA.mp qq
 cases qq;obtain⟨ks,ds,kk,rfl,h1,h2,h3,rfl⟩:=zc0 q4;obtain⟨n0,dd0,e0,pa,hp,qs,hS,nd,top⟩:=I.own2 M.ix q3;refine gE (av (hv B π Z ow s c I q1) λu s1 hw=>?_) hs;obtain⟨t1,q,eq,nq,tc⟩:=hw;subst eq;have J1:=I.newp (B':=λa=>a=q) t1 (λa z=>z▸nq) λa z=>by subst z;exact tc.get
 refine wL J1 M (hp.sx I t1) (av (hk _ π Z ow s1 kd J1 q2) λiv s2 hw=>?_);obtain⟨t2,r2⟩:=hw;have tO:St X.toGx bG s s2:=t1.2.then t2.2;have nT:∀a o,s.heap.get? a=some o->(∀z,o.data≠.fields z)->s2.heap.get? a=some o:=λa o e nf=>tO.kp a o e id (I.nt e nf);obtain⟨vs,xx,cv,cl,cc⟩:=vN top (W3 I tO nq) nT;obtain⟨b,rfl,hb⟩:=Y8 h1 r2;have op:ow i pa:=(hS pa).mpr (.inl rfl);refine Jc hu (.inr (.inl ⟨i,op⟩)) xx hb h2 λh' tk sb x'=>?_;rw[tM h3,tN h3] at x';have np:q≠pa:=λz=>I.apart nq (z▸.inr (.inl ⟨i,op⟩));obtain⟨NR,_,_,_,RY⟩:=top;have g2:=J1.gd t2.2;have oP:X.O (λa=>B a\/a=q) ow pa:=.inr (.inl ⟨i,op⟩);have g3:Gd (X.O (λa=>B a\/a=q) ow) s2.heap (X.O (λa=>B a\/a=q) ow) h':=λa o e n=>⟨(sb.2 a λz=>n (z▸oP)).trans e,n⟩;have g0:Gd (λa=>X.O B ow a\/a=q) s1.heap (X.O (λa=>B a\/a=q) ow) s1.heap:=Gd.less λa z=>z.elim (λz=>z.elim (λz=>.inl (.inl z)) .inr) λz=>.inl (.inr z);obtain⟨oq,eq,nfq⟩:=tc.get;have PD:=tc.imp ((g0.trans g2).trans g3) (λo e=>by rw[eq] at e;cases e;exact(sb.2 q np).trans (t2.2.kp q oq eq id (J1.nt eq nfq))) λ_ _=>Rs.go ((g0.trans g2).trans g3) _ _
 have NU:¬X.T pa:=by obtain⟨⟨o,e,nf⟩,_⟩:=I.own i pa op;exact I.nt e nf
 obtain⟨aJ,oQ,_⟩:=I.add2 (s':={s2 with heap:=h',toks:=tk}) (ks:=ks) M e0 hp hS nd cl RY nq (tO.up.trans (W':=λa=>a=pa) (W:=λa=>a=pa) ⟨rfl,λa o e n _=>(sb.2 a n).trans e,λa o e=>by
  by_cases z:a=pa
  ·subst z;obtain⟨o',_,_,e',_⟩:=x'.get;exact⟨o',e'⟩
  ·exact⟨o,(sb.2 a z).trans e⟩,λa ps z e=>⟨#[],by rw[show h'.get? a=_ from(sb.2 a λy=>NU (y▸z)).trans e];simp⟩⟩ λa z=>.inl z) t2.1.ge (λt m=>(t2.1.tb t m).go (λa z=>.inl z) (λb o e n=>(sb.2 b λz=>n (z▸oP)).trans e) λo e=>(sb.2 _ λz=>NU ⟨t,m,z⟩).trans e) x' (by rw[cv];simp) PD
 exact⟨aJ,oQ⟩
def NV(i:Nat){k k':Nat}{fa:Addr}{fd:uz}{ps:List Str}{F:Dt->List Dt->Option Dt}{st:Stmt}(ok:Pq X.toGx k fa fd ps F)(T:zh X.K X.mg x st ps fa fd)(hr:zD k' X.A)(ha:PA X false es ga)(hk:k<=k':=by decide)(hg:Gl X x:=by rfl)(dZ:(x==("__debug__":Str))=false:=by decide)(M:Nm X i y:=by exact⟨yk (by kernel_rfl),rfl,by decide,by decide⟩)
  (he:kh (.Name y xp::es) X.env=(false,eval (.Name y xp) X.env)::kh es X.env:=by rfl) (hpl:(ub aF (kh es X.env)).any (·.1)=false:=by rfl) (cM:QY (.Call (.Name x p) (.Name y xp::es) [] aF) none pos.line X.env=pure false:=by rfl):PS X (.Expr (.Call (.Name x p) (.Name y xp::es) [] aF) pos) (D0 i F ga):=λB π Z ow s o I q=>by
 obtain⟨ds,q1,q⟩:=kA.mp q;obtain⟨⟨io,d0⟩,q2,q⟩:=kA.mp q;obtain⟨d,q3,q⟩:=kA.mp q
 cases q;refine Ax (uV (qM I hg T.mg (Ag (h₀:=X.base) I.ok.mod.kin T.kp ?_ he hpl) dZ)) I.quiet cM;rw[he];obtain⟨n0,dd0,e0,pa,hp,_⟩:=I.own2 M.ix q2;show δ _ _ (spliced ((false,eval (.Name y xp) X.env)::ub aF (kh es X.env))) _ _ s;refine uI (wL I M hp (av (ha aF B π Z ow s ds I q1) λus s1⟨t,r⟩=>⟨t.1.kin,?_⟩));obtain⟨n1,dd1,e1,RS,eh,w⟩:=t.1.own2 M.ix q2;obtain rfl:=(hp.sx I t).uniq eh;have RZ:∀{a},(X.O B (ca ow i bG) a\/ow i a)->X.O B ow a:=λz=>z.elim (λz=>(Pz (O':=bG) (λa z=>z.elim) z).elim id UO) λz=>.inr (.inl ⟨i,z⟩);have rs:=Yk r;have hB:=T.bn s1 (.ref pa::us) t.1.kin (by rw[ku,<-rs.len];exact ok.len _ _ _ q3)
 refine CG (US (ok.run X.A (X.O B (ca ow i bG)) (ow i) pa s1 ⟨.ref pa::us,[]⟩ us d0 ds d (hr.mono hk) (t.1.e0.less (λa=>RZ) λa z=>.inl (.inl (I.bt a z))) (λa z=>⟨(t.1.own i a z).1,λy=>?_⟩) hB (w.go (Gd.less λ_=>RZ) λ_ _ _ e=>e) (Rs.go (Gd.less λ_=>RZ) _ _ rs) q3) λrr s2⟨u,S',er,t2,e2,iM,w2⟩=>?_)
 ·obtain⟨_,nb,nl,nc⟩:=t.1.own i a z;rcases y with y|⟨j,⟨_,y⟩|⟨hj,y⟩⟩|y|y
  ·exact nb y
  ·exact y
  ·exact hj (t.1.inj _ _ a y z)
  ·exact nl y
  ·exact nc y
 ·subst er;have om:∀{a},X.O B (ca ow i S') a->X.O B (ca ow i bG) a\/S' a:=λz=>by
   rcases z with z|⟨j,⟨_,z⟩|⟨hj,z⟩⟩|z
   ·exact .inl (.inl z)
   ·exact .inr z
   ·exact .inl (.inr (.inl ⟨j,.inr ⟨hj,z⟩⟩))
   ·exact .inl (.inr (.inr z))
  exact⟨_,t.sq.trans (t.1.mut M e1 eh t2 e2.ge (λa z=>⟨(iM a z).1.1,(iM a z).2⟩) (λtt m=>(e2.tb tt m).go (λa z=>.inl (om z)) (λ_ _ e _=>e) λ_ e=>e) (w2.go (Gd.less λ_=>om) λ_ _ _ e=>e))⟩
end
variable{h:Heap}{ns:List Int}
section
variable{X:Cx}{B:AP}{π:Addr}{Z:En}{ow:Os}{s s' s1:kW}{m:Bool}{e e' k ve:Expr}{es:List Expr}{f g fk fc:En->Option Dt}{ga:En->Option (List Dt)}{p pos a8 xp yp lp aR aF fy fA fZ:Pos}{x y:Str}{d d0 c:Dt}{ds:List Dt}{us:List kL}{q pa:Addr}{qs:List Addr}{i j:Nat}{io:Bool}
variable{vs:List kL}
theorem zbs[DecidableEq κ]{ks:List κ}{kk:κ}(l:bs.length=vs.length):(atKey (ks.zip (bs.zip vs)) kk).map (·.2)=cq ks vs kk:=by
 show(((ks.zip (bs.zip vs)).find? _).map (·.2)).map _=_
 rw[qL,jl,BW (by lia)]
theorem jP{κ:Type}[DecidableEq κ]:∀{ks:List κ}{k:κ},zV ks k=none->yR ks k=false
 |[],k,_=>by simp[yR]
 |k'::ks,k,h=>by
  unfold zV at h
  split at h
  ·cases h
  ·rename_i n
   have:=jP (ks:=ks) (k:=k) (by cases e:zV ks k with|none=>rfl|some j=>rw[e] at h;cases h)
   unfold yR at this⊢;simp only[kT,decide_eq_false_iff_not] at this⊢;exact λz=>z.elim (λz=>n z.symm) this
theorem oR(i j:Nat)(hu:X.A.units+64<ν)(hk:PE X true k fk)(hy:X.N[j]?=some y:=by rfl)(M:Nm X i x:=by exact⟨yk (by kernel_rfl),rfl,by decide,by decide⟩)(n1:NS k:=by intro _ _;rfl)(T:Mt X (.Name x xp) "setdefault" [k,.List [] lp] aR aF:=by exact⟨rfl,rfl,rfl,_,_,rfl,rfl⟩)
  (T2:Mt X (.Call (.Attribute (.Name x xp) "setdefault" aR) [k,.List [] lp] [] aF) "append" [.Name y yp] fy fA:=by exact⟨rfl,rfl,rfl,_,_,rfl,rfl⟩) (cM:QY (.Call (.Attribute (.Call (.Attribute (.Name x xp) "setdefault" aR) [k,.List [] lp] [] aF) "append" fy) [.Name y yp] [] fA) none pos.line X.env=pure false:=by rfl) (yd:(y==("__debug__":Str))=false:=by decide) (yc:(y==("__classdict__":Str))=false:=by decide):
  PS X (.Expr (.Call (.Attribute (.Call (.Attribute (.Name x xp) "setdefault" aR) [k,.List [] lp] [] aF) "append" fy) [.Name y yp] [] fA) pos) (YM i fk j):=λB π Z ow s o I qq=>by
 obtain⟨kd,q1,qq⟩:=kA.mp qq;obtain⟨v,q2,qq⟩:=kA.mp qq;obtain⟨⟨io,d0⟩,q3,qq⟩:=kA.mp qq;obtain⟨d,q4,qq⟩:=kA.mp qq
 cases qq
 obtain⟨ks,ds,rfl⟩:∃ks ds,d0=.dT ks ds:=by cases d0<;>first|cases q4|exact⟨_,_,rfl⟩
 obtain⟨kk,q5,q4⟩:=kA.mp q4
 split at q4
 next lk=>
  obtain⟨n0,dd0,e0,pa,hp,qs,hS,nd,top⟩:=I.own2 M.ix q3;have R0:∀{s2},St X.toGx bG s s2->∀a o,s.heap.get? a=some o->(∀z,o.data≠.fields z)->s2.heap.get? a=some o:=λt a o e nf=>t.kp a o e id (I.nt e nf);have pd:s.TypeIs (.ref pa) "dict"/\∀a,uQ pa=.ref a->∃ob,s.heap.get? a=some ob/\ob.dict=none:=by
   obtain⟨_,⟨_,_,_,_,_,_,_,o,_,_,e,ex,_⟩,_⟩:=top;exact⟨⟨o,e,ex.1⟩,λa z=>by cases z;exact⟨o,e,ex.2.1⟩⟩
  refine Ax (lN Al QZ AV T2 (lN Cy Bl PySem.F.type_dict_setdefault T (wL I M hp ⟨pd,T.sp2 n1 (λ_ _=>rfl) (av (hk B π Z ow s kd I q1) λu s1⟨t1,r1⟩=>av (lH cF B π Z ow s1 (.list []) t1.1 rfl) λw s2 hw=>?_)⟩))) I.quiet cM;obtain⟨t2,q,eq,nq,tc⟩:=hw;subst eq;obtain⟨b,rfl,hb⟩:=Y8 q5 r1;have R1:=t1.2.free nq;have hb2:=hb.go (W3 t1.1 t2.2 nq);have tO:St X.toGx bG s s2:=t1.2.then t2.2;have J2:=t1.1.newp (B':=λa=>a=q) t2 (λa z=>z▸nq) λa z=>by subst z;exact tc.get
  obtain⟨vs,xx,cv,cl,cc⟩:=vN top (W3 I tO R1) (R0 tO);obtain⟨bs,l1,l2,pr,dd⟩:=xx.of;have sy:(pa==UN)=false:=by obtain⟨_,_,_,_,sy,_⟩:=xx;exact sy
  have lz:vs.length<=ψ:=by obtain⟨_,_,_,lz,_⟩:=xx;exact lz
  have op:ow i pa:=(hS pa).mpr (.inl rfl);have az:=zbs (ks:=ks) (kk:=kk) l2;refine oO sy (fx hu) hb2.bare dd (by rw[Qd,Qd];lia) (λp' eh=>?_) λhn h' iO sb=>?_
  ·--it was there
   rw[eh,gK] at az;obtain⟨j',h1,h2⟩:=jj.mp az.symm;rw[h1] at q4;obtain⟨c0,q6,q4⟩:=kA.mp q4;obtain⟨c1,q7,q4⟩:=kA.mp q4
   cases q4;rw[cv,kY] at h2;obtain⟨qj,hq,eq⟩:=uO.mp h2;rw[<-eq]
   cases c0<;>first|cases q7|skip
   rename_i cs
   change (if cs.length<ψ then some (Dt.list (cs++[v])) else none)=_ at q7
   split at q7<;>cases q7
   have t3:=(t1.trans t2).trans (t2.1.tok (s2.toks+(xl X.P X.w).draws kk));have lZ:=vN top (I.gd t3.2) (R0 t3.2);obtain⟨_,_,_,_,cc3⟩:=_root_.id lZ;obtain⟨vv,nn,el,_⟩:=cc3 j' _ qj q6 hq;refine⟨Yq el,uI (av (dv (m:=false) j hy yd yc B π Z ow _ v t3.1 q2) λw s4⟨t4,r4⟩=>QD ?_)⟩;have t5:=t3.trans t4;exact av (t5.1.app_child M e0 (hp.sx I t5) hS nd (vN top (I.gd t5.2) (R0 t5.2)) hq q6 ‹_› r4) λ_ s6⟨w',oQ⟩=>⟨w',t5.sq.trans oQ⟩
  ·--it was not
   rw[hn,Option.map_none] at az;have hpn:zV ks kk=none:=by
    cases e:zV ks kk with
    |none=>rfl
    |some j'=>have:=jj.mpr ⟨j',e,kC (l:=vs) (by have:=ZM e;lia)⟩;rw[<-az] at this;cases this
   rw[hpn] at q4
   cases q4;have h3:=jP hpn;have oP:X.O (λa=>B a\/a=q) ow pa:=.inr (.inl ⟨i,op⟩);have x':=ZO xx oP hb2 lk sb l1 l2 pr iO;rw[tM h3,tN h3] at x';have np:q≠pa:=λz=>I.apart R1 (z▸.inr (.inl ⟨i,op⟩));have g3:Gd (X.O (λa=>B a\/a=q) ow) s2.heap (X.O (λa=>B a\/a=q) ow) h':=λa o e n=>⟨(sb.2 a λz=>n (z▸oP)).trans e,n⟩;have g0:Gd (λa=>X.O B ow a\/a=q) s2.heap (X.O (λa=>B a\/a=q) ow) s2.heap:=Gd.less λa z=>z.elim (λz=>z.elim (λz=>.inl (.inl z)) .inr) λz=>.inl (.inr z);have PD:=tc.imp (g0.trans g3) (λo e=>(sb.2 q np).trans e) λ_ _=>Rs.go (g0.trans g3) _ _;have NU:¬X.T pa:=by obtain⟨⟨o,e,nf⟩,_⟩:=I.own i pa op;exact I.nt e nf
   obtain⟨NR,_,_,_,RY⟩:=top;obtain⟨aJ,oQ,iM,NT,lY⟩:=I.add2 (s':={s2 with heap:=h',toks:=s2.toks+(xl X.P X.w).draws kk}) (ks:=ks) M e0 hp hS nd cl RY R1 (tO.up.trans (W':=λa=>a=pa) (W:=λa=>a=pa) ⟨rfl,λa o e n _=>(sb.2 a n).trans e,λa o e=>by
    by_cases z:a=pa
    ·subst z;obtain⟨o',_,_,e',_⟩:=x'.get;exact⟨o',e'⟩
    ·exact⟨o,(sb.2 a z).trans e⟩,λa ps z e=>⟨#[],by rw[show h'.get? a=_ from(sb.2 a λy=>NU (y▸z)).trans e];simp⟩⟩ λa z=>.inl z) J2.ge (λt m=>(J2.tb t m).go (λa z=>.inl z) (λb o e n=>(sb.2 b λz=>n (z▸oP)).trans e) λo e=>(sb.2 _ λz=>NU ⟨t,m,z⟩).trans e) x' (by rw[cv];simp) PD
   have ji:j≠i:=λz=>by rw[z] at q2;unfold dV at q2;rw[e0] at q2;cases q2
   have q2':dV j (Z.set i (.ow io 2 (.dT (ks++[kk]) (ds++[.list []]))))=some v:=by unfold dV at q2⊢;rw[AG (UR ji)];exact q2
   obtain⟨vq,nn,el,_⟩:=PD;have li:i<Z.length:=(kH.mp e0).1;refine⟨Yq el,uI (av (dv (m:=false) j hy yd yc B π _ aJ _ v oQ.1 q2') λw s4⟨t4,r4⟩=>QD ?_)⟩;have hp3:cL X h' x pa:=by
    refine hp.kp I (W:=λa=>a=pa) (λa o e n nt=>(sb.2 a n).trans (tO.kp a o e id nt)) λa z=>?_;subst z;exact(I.own i a op).2.2
   have hp4:cL X s4.heap x pa:=cL.sx (s:={s2 with heap:=h',toks:=s2.toks+(xl X.P X.w).draws kk}) hp3 oQ.1 t4;refine av (t4.1.app_child (d:=.dT (ks++[kk]) (ds++[.list []])) (j:=qs.length) (q:=q) (cs:=[]) M (BF li) hp4 iM NT (vN lY (oQ.1.gd t4.2) λa o e nf=>t4.2.kp a o e id (oQ.1.nt e nf)) (by simp) (by rw[<-cl];simp[yx]) (by decide) r4) λ_ s6⟨w',k6⟩=>⟨w',?_⟩
   have:=(oQ.trans t4.sq).trans k6;rw[List.set_set,show setCh (.dT (ks++[kk]) (ds++[.list []])) qs.length (.list ([]++[v]))=.dT (ks++[kk]) (ds++[.list [v]]) by rw[<-cl];simp[setCh]] at this
   exact this
 next=>cases q4
theorem jS{G:Gx}{O:AP}{h:Heap}:∀{ds:List Dt}{vs:List kL}{ns:List Int},zn yN ds=some ns->Rs G O h ds vs->gq vs ns
 |[],vs,ns,e,r=>by cases e;rw[Rs] at r;subst r;exact .nil
 |d::ds,vs,ns,e,r=>by
  obtain⟨n,q1,e⟩:=kA.mp e;obtain⟨Ig,q2,e⟩:=kA.mp e
  cases e;cases d<;>cases q1
  rw[Rs] at r;obtain⟨v,r',rfl,h1,h2⟩:=r;rw[R] at h1;obtain⟨t,rfl⟩:=h1;exact .cons _ t (jS q2 h2)
theorem ZH{G:Gx}{O:AP}(x:gq vs ns):Rs G O h (ns.map .int) vs:=by
 induction x with
 |nil=>exact .nil
 |cons _ _ t ih=>exact .cons .int ih
theorem Y6:∀(ns:List Int)(a:Int),a<=ns.foldl max a/\(∀n∈ns,n<=ns.foldl max a)/\(ns.foldl max a=a\/ns.foldl max a∈ns)
 |[],a=>⟨hW _,(λ_ h=>by cases h),.inl rfl⟩
 |n::ns,a=>by
  obtain⟨h1,h2,h3⟩:=Y6 ns (max a n);have e:(n::ns).foldl max a=ns.foldl max (max a n):=rfl;rw[e];refine⟨by lia,λk hk=>?_,?_⟩
  ·rcases kT.mp hk with rfl|hk
   ·lia
   ·exact h2 k hk
  ·rcases h3 with h3|h3
   ·rw[h3];rcases Gw a n with c|c
    ·exact .inr (by rw[Int.max_eq_right c];simp)
    ·exact .inl (Int.max_eq_left c)
   ·exact .inr (uM _ h3)
theorem Jd{d g:Int}(h:∀n∈ns,n<=g)(k:g∈ns\/(ns=[]/\g=d)):g=iJ ns d:=by
 cases ns with
 |nil=>exact k.elim (λz=>nomatch z) (·.2)
 |cons n ns=>
  have k:=k.resolve_right λz=>nomatch z.1;obtain⟨h1,h2,h3⟩:=Y6 ns n;have a:ns.foldl max n<=g:=h3.elim (λz=>by rw[z];exact h n (by simp)) λz=>h _ (by simp[z])
  have b:g<=ns.foldl max n:=(kT.mp k).elim (λz=>by rw[z];exact h1) λz=>h2 g z
  exact Df b a
theorem za3{A:QF}{l:Addr}{z:Int}{t:Tok}(hd:A.handled=none)(el:s.heap.get? l=some (lo vs n))(ia:gq vs ns)(q:∀h' tk t,(∀b o,s.heap.get? b=some o->h'.get? b=some o)->Q (.int (iJ ns z) t) {s with heap:=h',toks:=tk}):δ (ε X.P X.w) A (call (.builtin "max") [.ref l] [(uW "default",.int z t)]) Q nE s:=by
 have il:s.heap.IsList l vs.toArray:=⟨_,el,rfl,n,rfl⟩;have len:=ia.length;have ne:l≠s.heap.objs.size:=ut (po el);have nm:(ED "max"++ED ".loop":String)="max.loop":=by decide
 refine kmk_tree PySem.F.kind_max PySem.F.plain_max PySem.F.entry_max (zc9 _ _) ?_;refine kB (m:=Bq "max" ["key","default"] 0 ⟨[],[(uW "default",.int z t)]⟩) (Cb (show Bq "max" ["key","default"] 0 ⟨[],[(uW "default",.int z t)]⟩=pure [none,some (.int z t)] from rfl) (kB (kR (kB (gZ il (kB (Cj ?_ (ui _))))))));rw[nm];have W:=GR (prog:=X.P) (w:=X.w) (A:=A.in1) (show A.in1.handled=none from hd) s.heap.objs.size l ne vs.toArray;have it:∀i v,vs.toArray[i]?=some v->∃t,v=HQ (ns.getD i 0) t:=λi v hv=>IntsAre.int_at ia i v (by simpa using hv)
 have sz:(s.heap.push {cls:=.type "list_iterator",data:=.fields #[.ref l,.int 0 0]}).objs.size=s.heap.objs.size+1:=by rw[Uv]
 refine kR ⟨Uk QO _,zcy W (λi j=>decide (ns.getD i 0>ns.getD j 0)) (CmpOf.ints_gt (λi=>ns.getD i 0) it) _ (λz=>?_) (W.frame 0 _ _ ⟨⟨_,ke _ rfl,rfl,rfl⟩,il.push _⟩ λb _ o e=>kK _ e) (ke _ rfl) λv h' tk hv kp=>?_⟩
 ·rw[sz] at z;have l2:=po el;rcases kT.mp z with z|z
  ·exact absurd z (Az (BU _))
  ·exact absurd (pE.mp z) (Az (Ex l2))
 ·have keep:∀b o,s.heap.get? b=some o->h'.get? b=some o:=λb o e=>by
   have lt:=po e;refine kp b o (λz=>?_) (λz=>?_) (kK _ (kK _ e))
   ·exact absurd (show b=s.heap.objs.size by simpa using z) (ut lt)
   ·rw[sz] at z;exact absurd z (ut (Ex lt))
  obtain⟨b1,b2⟩:=Vu (λi=>ns.getD i 0) (vs.toArray.size-1);rcases hv with⟨h0,hv⟩|⟨h0,rfl⟩
  ·obtain⟨t',rfl⟩:=it _ _ hv;have h0:0<vs.length:=by simpa using h0
   rw[show vs.toArray.size=vs.length from rfl] at b1 b2⊢;have hb:AL (λi j=>decide (ns.getD i 0>ns.getD j 0)) (vs.length-1)<ns.length:=by lia
   have:=q h' tk t' keep;have em:ns.getD (AL (λi j=>decide (ns.getD i 0>ns.getD j 0)) (vs.length-1)) 0=iJ ns z:=by
    refine Jd (λn hn=>?_) (.inl ?_)
    ·obtain⟨i,hi,e⟩:=pW.mp hn;have:=b2 i (by lia)
     rw[show ns.getD i 0=n by simp[hi,e]] at this
     exact this
    ·rw[kE,kC hb];exact pi _
   rw[<-em] at this;exact this
  ·have h0:vs.length=0:=by simpa using h0
   obtain rfl:ns=[]:=QV (by lia)
   exact q h' tk t keep
def oT{nm:Option Str}(hg:Gl X "max")(hm:X.mg "max"=none)(h1:PE X true e f)(h2:PE X true e' g)(n1:NS e:=by intro _ _;rfl)(hks:(Ut pos (Qi [⟨nm,e',fZ⟩] X.env)).filterMap (·.1)=[uW "default"]:=by rfl)(he:ub pos (kh [e] X.env)=(false,eval e X.env)::ub pos (kh [] X.env):=by rfl)(hpl:(ub pos (kh [e] X.env)).any (·.1)=false:=by rfl)
  (Ih:(Ut pos (Qi [⟨nm,e',fZ⟩] X.env)).all (·.1.isSome)=true:=by rfl) (PC:(Ut pos (Qi [⟨nm,e',fZ⟩] X.env)).any (·.1.isNone)=false:=by rfl):PE X m (.Call (.Name "max" p) [e] [⟨nm,e',fZ⟩] pos) (nh f g):=λB π Z ow s d I q=>by
 obtain⟨d0,q1,q⟩:=kA.mp q;obtain⟨ds,q2,q⟩:=kA.mp q;obtain⟨ns,q3,q⟩:=kA.mp q;obtain⟨y,q4,q⟩:=kA.mp q;obtain⟨yi,q5,q⟩:=kA.mp q
 cases q
 cases d0<;>cases q2
 cases y<;>cases q5
 refine uV (xu I hg hm bt_max (callWith_kw ?_ he hpl Ih PC));rw[n1];refine uI (av (h1 B π Z ow s _ I q1) λv s1⟨t1,r1⟩=>QD ?_);show δ _ _ (evalAll ((do let v <-eval e' X.env;standAt pos;pure v)::(Ut pos (Qi [] X.env)).map (·.2))) _ _ s1;refine Ee (kB (av (h2 B π Z ow s1 _ t1.1 q4) λw s2⟨t2,r2⟩=>kB (Cf (kR (Ey ?_)))));obtain⟨l,vs,n,rfl,el,_,rs⟩:=(RT.st r1 t1.1 t2.2).lst;obtain⟨t,rfl⟩:=RT.int r2;rw[hks];exact za3 I.ok.hd el (jS q3 rs) λh' tk t' kp=>⟨(t1.trans t2).trans (t2.1.kept kp),.of .int⟩
theorem Vs(i:Int):∀l,(vR i l).Perm (i::l)
 |[]=>.refl _
 |j::r=>by
  unfold vR
  split
  ·exact .refl _
  ·exact((Vs i r).cons j).trans (.swap i j r)
theorem Vd:∀l,(jJ l).Perm l
 |[]=>.refl _
 |i::r=>(Vs i _).trans ((Vd r).cons i)
theorem Jz(i:Int):∀l:List Int,l.Pairwise (·<=·)->(vR i l).Pairwise (·<=·)
 |[],_=>by simp[vR]
 |j::r,h=>by
  unfold vR;obtain⟨h1,h2⟩:=uK.mp h
  split
  ·rename_i c
   exact uK.mpr ⟨λx hx=>(kT.mp hx).elim (λe=>e▸c) λhx=>Ez c (h1 x hx),h⟩
  ·rename_i c
   refine uK.mpr ⟨λx hx=>?_,Jz i r h2⟩;rcases kT.mp ((Vs i r).mem_iff.mp hx) with e|e
   ·subst e;lia
   ·exact h1 x e
theorem XC:∀l:List Int,(jJ l).Pairwise (·<=·)
 |[]=>.nil
 |i::r=>Jz i _ (XC r)
theorem WW:∀{a b:List Int},a.Perm b->a.Pairwise (·<=·)->b.Pairwise (·<=·)->a=b
 |[],b,h,_,_=>h.nil_eq
 |x::a,[],h,_,_=>by have:=h.length_eq;cases this
 |x::a,y::b,h,ha,hb=>by
  obtain⟨a1,a2⟩:=uK.mp ha;obtain⟨b1,b2⟩:=uK.mp hb;have e:x=y:=by
   rcases kT.mp (h.mem_iff.mp (uN (a:=x) (l:=a))) with e|e
   ·exact e
   ·rcases kT.mp (h.mem_iff.mpr (uN (a:=y) (l:=b))) with e'|e'
    ·exact e'.symm
    ·exact Df (a1 y e') (b1 x e)
  subst e;rw[WW h.cons_inv a2 b2]
def Keeps(g h:Heap):Prop:=∀b o,g.get? b=some o->h.get? b=some o
def Keeps.push{g:Heap}(k:Keeps g h)(o:Obj):Keeps g (h.push o):=λb x e=>kK _ (k b x e)
def Keeps.upd{g:Heap}{a:Addr}{f:Obj->Obj}(k:Keeps g h)(ha:g.objs.size<=a):Keeps g (h.update a f):=λb x e=>by
 rw[EO _ _ _ _ (ut (Qg (po e) ha))];exact k b x e
theorem oU:ZF X (.builtin "sorted") wC:=λB π Z ow s as d us I q r=>by
 obtain⟨d0,rfl⟩:∃d0,as=[d0]:=by
  unfold wC at q
  split at q
  ·exact⟨_,rfl⟩
  ·cases q
 ·obtain⟨ds,q1,q⟩:=kA.mp q;obtain⟨ns,q2,q⟩:=kA.mp q
  split at q<;>cases q
  have l64:=‹_<64›;obtain⟨u,rfl,r1⟩:=eX r
  cases d0<;>cases q1
  obtain⟨l,vs,n,rfl,el,lz,rs⟩:=r1.lst;have ia:=jS q2 rs;have len:=ia.length;refine sorted_ints ⟨_,el,rfl,n,rfl⟩ ia (by lia) λfW ms a1 a2 a3=>?_
  have k0:L2.Keeps s.heap s.heap:=λ_ _ e=>e;have k2:=((k0.push (uX "list" #[] 0)).upd (a:=s.heap.objs.size) (f:=pJ (·++vs.toArray)) (pL _)).push (uX "list" vs.toArray 0);have z2:((s.heap.push (uX "list" #[] 0)).update s.heap.objs.size (pJ (·++vs.toArray))).objs.size=s.heap.objs.size+1:=by
   rw[FY,size_push']
  have o2:(((s.heap.push (uX "list" #[] 0)).update s.heap.objs.size (pJ (·++vs.toArray))).push (uX "list" vs.toArray 0)).get? (s.heap.objs.size+1)=some (uX "list" vs.toArray 0):=
   z2▸ke _ rfl
  have o3:=Ad o2 λ_=>(#[]:Array kL);have o5:=Ad (kK (uX "list" #[] 0) (kK (uX "tuple" vs.toArray 0) o3)) λ_=>fW;have k5:L2.Keeps s.heap (sortedAll s.heap vs fW):=(((k2.upd (a:=s.heap.objs.size+1) (f:=pJ λ_=>(#[]:Array kL)) (Fp _)).push (uX "tuple" vs.toArray 0)).push (uX "list" #[] 0)).upd (a:=s.heap.objs.size+1) (f:=pJ λ_=>fW) (Fp _);have em:ms=jJ ns:=WW (a2.trans (Vd ns).symm) a3 (XC ns);subst em;have la:=a1.length;exact I.lnew (t':=s.toks) (us:=fW.toList) (ZH a1) (by have:=a2.length_eq;have:(64:Nat)<=ψ:=(by decide);lia) k5 (pU (Fp _)) o5
def l8(hg:Gl X "sorted")(hm:X.mg "sorted"=none)(ha:PA X true (e::es) ga)(he:kh (e::es) X.env=(false,eval e X.env)::kh es X.env:=by rfl)(hpl:(ub pos (kh es X.env)).any (·.1)=false:=by rfl):PF X (.Call (.Name "sorted" p) (e::es) [] pos) (aj wC ga):=RF oU hg hm bt_sorted ha (he:=he) (hpl:=hpl)
end
open PySem.W (kla_fn kla_obj envX tabObj CodeHd)
structure Ii(G:Gx)(P:Addr)(pos:Pos)(q:Str):Prop where
 mem:(P,pos,q)∈G.tb
 one:∀t∈G.tb,t.1=P->t=(P,pos,q)
structure xV(x:Str)(ys:List Str)(sc:Scope):Prop where
 kind:sc.kind=.function
 co:sc.isCoroutine=false
 gen:sc.isGenerator=false
 nocell:∀y∈sc.names,y.2≠AX
 par:sc.names.lookup x=some .local
 free:∀y∈sc.names,y.2=uZ->y.1∈ys
 cap:∀y∈ys,sc.names.lookup y=some .free
noncomputable def wZ(G:Gx)(x:Str)(ys:List Str)(qual:Str)(sc:Scope)(f:Addr)(cd:kL)(clos:List (Str×Addr))(A:QF)(a:Addr)(rb:AP):Cx where
 toGx:=G
 A:=A.deeper (envX qual sc a f cd clos)
 N:=x::ys
 env:=envX qual sc a f cd clos
 fn:=false
 rb:=rb
section
variable{X:Cx}{B:AP}{π:Addr}{Z:En}{ow:Os}{s s1:kW}{params:EL}{body:Expr}{sc:Scope}{pos:Pos}{c0 P:Addr}{clos:List (Str×Addr)}
def Jr(I:Inv X B π Z ow s)(dI:X.env.code=.ref c0)(C:CodeHd X.base c0 P)(hB:X.base.BuiltinsAt X.mg P)(Ps:DP sc X.env=pure clos)(l9:GS params X.env=([],[]))(L:Ii X.toGx P pos (X.env.qual++"<lambda>"))
  (q:∀(fa c':Addr)(dJ:kL)(s':kW),Sx X B π Z ow s s'->s.heap.get? fa=none->s'.heap.get? fa=some (kla_obj "<lambda>" (X.env.qual++"<lambda>") params body sc clos ((X.mg "__name__").getD .none) c' dJ)->s'.heap.CodeRec (.ref c') (X.env.qual++"<lambda>")->¬X.O B ow c'->Q (.ref fa) s'):δ (ε X.P X.w) X.A (eval (.Lambda params body sc pos) X.env) Q nE s:=by
 obtain⟨ps,LO,tr,alt⟩:=I.tb _ L.mem;have LO:s.heap.get? P=some (tabObj ps):=LO;have TP:X.T P:=⟨_,L.mem,rfl⟩;have hg:s.heap.Ns pZ X.mg:=I.ok.mod.glob.keeps I.base;have Cs:=C.keeps I.base;have Bs:s.heap.BuiltinsAt X.mg P:=by
  obtain⟨bm,o,b1,b2,b3,b4,b5,b6⟩:=hB;exact⟨bm,o,b1,b2,b3,b4,I.base _ _ b5,b6⟩
 have neG:pZ≠P:=λz=>by
  obtain⟨o,es,ep,e,hd,_⟩:=hg;rw[z,LO] at e;cases e;cases hd
 refine PySem.W.kla_eval l9 ?_;rcases alt with hn|⟨c',hf,G5,nc⟩
 ·refine PySem.W.kla_makeFunction Ps I.ok.glob hg dI Cs LO tr hn neG Bs λc' dJ h' tk hx hge fK R2 htb=>?_;generalize PH:kla_obj "<lambda>" (X.env.qual++"<lambda>") params body sc clos ((X.mg "__name__").getD .none) c' dJ=ob;have keep:∀b o,b≠P->s.heap.get? b=some o->(h'.push ob).get? b=some o:=λb o n e=>kK _ (hx b o n e);have oy:(h'.push ob).get? P=some (tabObj (ps++#[Uq pos.line,Uq pos.col,.ref c'])):=kK _ htb;have LQ:=R2.push ob;have nc:¬X.O B ow c':=I.apart (pU hge);have t:St X.toGx bG s {s with heap:=h'.push ob,toks:=tk}:=⟨rfl,λa o e _ nt=>keep a o (λz=>nt (z▸TP)) e,λa o e=>by
   by_cases z:a=P
   ·exact⟨_,z▸oy⟩
   ·exact⟨o,keep a o z e⟩,λa qs z e=>by
   by_cases y:a=P
   ·subst y;rw[LO] at e;cases e;exact⟨_,oy⟩
   ·exact⟨#[],by rw[show(h'.push ob).get? a=_ from keep a _ y e];simp⟩⟩
  have J:Inv X B π Z ow {s with heap:=h'.push ob,toks:=tk}:=I.st t I.ge λt' m=>by
   by_cases y:t'.1=P
   ·obtain rfl:=L.one t' m y;exact⟨_,oy,by rw[EP];exact TriplesOk_snoc _ _ _ _ tr,.inr ⟨c',by rw[EP];exact codeAmong_snoc _ tr hn,LQ,nc⟩⟩
   ·exact(I.tb t' m).go (λa z=>.inl z) (λb o e n=>keep b o (λz=>n (z▸.inl (I.bt P TP))) e) λo e=>keep _ o y e
  exact q h'.objs.size c' dJ _ ⟨J,t⟩ (pU (uR hge (gD fK))) (by rw[PH];exact ke _ (by rw[<-PH];rfl)) LQ nc
 ·refine PySem.W.kla_makeFunctionHit Ps I.ok.glob hg dI Cs LO tr hf Bs λdJ h' tk hk hsz=>?_;have t:=I.kept (t':=tk) λb o e=>kK {cls:=.type "function",data:=.func (kla_fn "<lambda>" (X.env.qual++"<lambda>") params body sc clos ((X.mg "__name__").getD .none) (.ref c') dJ)} (hk b o e);refine q h'.objs.size c' dJ _ t (pU hsz) (ke _ rfl) ?_ nc;obtain⟨c3,R3,PJ,t3,e3,R4,hd3,hv3⟩:=G5
  cases e3;exact⟨_,R3,PJ,t3,rfl,kK _ (hk _ _ R4),hd3,hv3⟩
end
open PySem.W (kla_fn kla_obj envX tabObj CodeHd)
structure eB(X:Cx)(clos:List (Str×Addr))(js:List Nat):Prop where
 len:clos.length=js.length
 ix:∀(i:Nat)(y:Str)(c:Addr)(j:Nat),clos[i]?=some (y,c)->js[i]?=some j->X.N[j]?=some y/\(X.env.scope.names.lookup y=some .cell\/X.env.scope.names.lookup y=some .free)/\X.env.cells.lookup y=some c
 sub:∀y c,clos.lookup y=some c->X.env.cells.lookup y=some c
 has:∀(i:Nat)(y:Str)(c:Addr),clos[i]?=some (y,c)->clos.lookup y=some c
theorem XK{α β:Type}{f:α->Option β}:∀{as:List α}{bs:List β}{i:Nat}{b:β},zn f as=some bs->bs[i]?=some b->∃a,as[i]?=some a/\f a=some b
 |[],bs,i,b,q,e=>by cases q;simp at e
 |a::as,bs,i,b,q,e=>by
  obtain⟨b0,q1,q⟩:=kA.mp q;obtain⟨bs',q2,q⟩:=kA.mp q
  cases q
  cases i with
  |zero=>cases e;exact⟨a,rfl,q1⟩
  |succ i=>obtain⟨a',h1,h2⟩:=XK q2 (i:=i) e;exact⟨a',h1,h2⟩
theorem YU{α β:Type}{f:α->Option β}:∀{as:List α}{bs:List β},zn f as=some bs->bs.length=as.length
 |[],bs,q=>by cases q;rfl
 |a::as,bs,q=>by
  obtain⟨b0,q1,q⟩:=kA.mp q;obtain⟨bs',q2,q⟩:=kA.mp q
  cases q;rw[ku,ku,YU q2]
section
variable{X:Cx}{B:AP}{π:Addr}{Z:En}{ow:Os}{s s1:kW}{params:EL}{body:Expr}{sc:Scope}{clos:List (Str×Addr)}{x name qual:Str}{js:List Nat}{ss:List Sl}{A:QF}{fa c':Addr}{pm dJ u:kL}{d k:Dt}{f:En->Option Dt}
theorem oV{cd:kL}{aX:Heap}{tk:Nat}(I:Inv X B π Z ow s)(S:xV x (clos.map pH) sc)(hc:eB X clos js)(hA:A.handled=none)(ru:R X.toGx (X.O B ow) s.heap d u)(iP:xX js Z=some ss)
  (md:aX.Ns s.heap.objs.size (λz=>([(x,u)]:List (Str×kL)).reverse.lookup z))(hk:∀b o,s.heap.get? b=some o->aX.get? b=some o):
  Inv (wZ X.toGx x (clos.map pH) qual sc fa cd clos A s.heap.objs.size λa=>dW ow a\/X.rb a) (X.O B ow) π (.fz d::ss) i7 {s with heap:=aX,toks:=tk}:=by
 have NW:∀{a},(wZ X.toGx x (clos.map pH) qual sc fa cd clos A s.heap.objs.size λa=>dW ow a\/X.rb a).cel a->X.cel a:=λ⟨y,z⟩=>⟨y,hc.sub y _ z⟩;have oi:∀{a},(wZ X.toGx x (clos.map pH) qual sc fa cd clos A s.heap.objs.size λa=>dW ow a\/X.rb a).O (X.O B ow) i7 a->X.O B ow a\/s.heap.get? a=none:=λz=>by
  rcases z with z|⟨_,z⟩|z|z
  ·exact .inl z
  ·exact z.elim
  ·exact .inr (by rw[show _=s.heap.objs.size from z];exact cP)
  ·exact .inl (.inr (.inr (.inr (NW z))))
 have g:Gd (X.O B ow) s.heap ((wZ X.toGx x (clos.map pH) qual sc fa cd clos A s.heap.objs.size λa=>dW ow a\/X.rb a).O (X.O B ow) i7) aX:=λa o e n=>⟨hk a o e,λz=>(oi z).elim n λz=>by rw[z] at e;cases e⟩
 have nw:∀{a o},s.heap.get? a=some o->a≠s.heap.objs.size:=λe z=>by rw[z,cP] at e;cases e
 obtain⟨mm,hmm,sk⟩:=I.loc;have ls:=YU iP;refine⟨⟨I.ok.mod,S.kind,rfl,rfl,λy z c h1 h2=>I.ok.inj y z c (hc.sub _ _ h1) (hc.sub _ _ h2),λy hy=>?_,hA⟩,I.ge,λb o e=>hk b o (I.base b o e),λa z=>(oi z).elim (I.bo a) λz=>?_,λa z=>.inl (I.bt a z),λt m=>(I.tb t m).go (λa z=>(oi z).imp id λz o e=>by rw[z] at e;cases e) (λb o e _=>hk b o e) λo e=>hk _ o e,λa z=>let⟨o,e⟩:=I.ex z;⟨o,hk a o e⟩,λa z=>?_,⟨_,md,λi y sl h1 h2=>?_⟩,λy c h=>let⟨v,o,e,q⟩:=I.cell y c (hc.sub y c h);⟨v,o,hk _ o e,q⟩,?_,λ_ _ _ z=>z.elim,λ_ _ z=>z.elim⟩
 ·have hy:sc.names.lookup y=some .cell\/sc.names.lookup y=some .free:=hy;rcases hy with hy|hy
  ·exact absurd rfl (S.nocell _ (pg hy))
  ·obtain⟨⟨y',c⟩,m,e⟩:=ki.mp (S.free _ (pg hy) rfl);obtain⟨i,hi,ei⟩:=pW.mp m;have e:y'=y:=e;subst e;exact⟨c,hc.has i y' c (by rw[<-ei];exact kC hi)⟩
 ·cases q:X.base.get? a with
  |none=>exact q
  |some o=>rw[I.base a o q] at z;cases z
 ·have:X.O B ow a/\¬X.cel a:=by
   rcases z with⟨j,z⟩|z
   ·exact⟨.inr (.inl ⟨j,z⟩),(I.own j a z).2.2.2⟩
   ·exact⟨.inl (I.rb a z).1,(I.rb a z).2.2⟩
  obtain⟨o,e⟩:=I.ex this.1;exact⟨this.1,nw e,λz=>this.2 (NW z)⟩
 ·cases i with
  |zero=>
   cases h1;cases h2;exact⟨u,.inl ⟨S.par,by show([(x,u)]:List (Str×kL)).reverse.lookup x=some u;simp⟩,R.go g _ _ ru⟩
  |succ i=>
   have h1:(clos.map pH)[i]?=some y:=h1;rw[kY] at h1;obtain⟨⟨y',c⟩,h3,e⟩:=uO.mp h1;have e:y'=y:=e;subst e;obtain⟨j,hj,NX⟩:=XK iP (i:=i) (b:=sl) h2;obtain⟨s0,e0,NX⟩:=kA.mp NX;obtain⟨_,_,NX⟩:=kA.mp NX;obtain⟨a1,a2,a3⟩:=hc.ix i y' c j h3 hj;have lk:∀{v},zX X.env s.heap mm y' v->zX (envX qual sc s.heap.objs.size fa cd clos) aX (λz=>([(x,u)]:List (Str×kL)).reverse.lookup z) y' v:=λ{v} l=>by
    refine .inr ⟨.inr (S.cap y' (ki.mpr ⟨_,kg h3,rfl⟩)),c,hc.has i y' c h3,?_⟩;rcases l with⟨k,_⟩|⟨_,c2,ec,o,e,dd⟩
    ·have k':X.env.scope.names.lookup y'=some .local:=k;rcases a2 with z|z<;>(rw[k'] at z;cases z)
    ·rw[a3] at ec;cases ec;exact⟨o,hk _ _ e,dd⟩
   cases NX;have k:=sk j y' s0 a1 e0
   cases s0 with
   |un=>trivial
   |fz d=>obtain⟨u,l,r⟩:=k;exact⟨u,lk l,R.go g _ _ r⟩
   |rd d=>obtain⟨u,l,r,n⟩:=k;exact⟨u,lk l,r.go g λ_ o _ e=>hk _ o e,λp e z=>.inr (n p e ((oi z).elim id λz=>by obtain⟨o,q⟩:=r.ex e;rw[z] at q;cases q))⟩
   |ow io n d=>
    show Sk _ _ _ _ _ _ _ _ (if n=1 then Sl.rd d else .un)
    split
    ·subst ‹n=1›;obtain⟨p,l,_,hS,r⟩:=k;exact⟨_,lk l,.inr ⟨p,rfl,r.imp g (λo e=>hk _ o e) λ_ _=>Rs.go g _ _⟩,λp' e z=>by cases e;exact .inl ⟨j,(hS p).mpr rfl⟩⟩
    ·trivial
 ·show(Sl.fz d::ss).length=(x::clos.map pH).length
  rw[ku,ku,kJ,ls,hc.len]
def ZI(I:Inv X B π Z ow s)(hA:A.handled=none)(hdp:A.depth<CC)(S:xV x (clos.map pH) sc)(hc:eB X clos js)(ho:s.heap.get? fa=some (kla_obj name qual params body sc clos pm c' dJ))(cE:s.heap.CodeRec (.ref c') qual)(hb:AT (kla_fn name qual params body sc clos pm (.ref c') dJ) ⟨[u],[]⟩=pure [(x,u)])(ru:R X.toGx (X.O B ow) s.heap d u)
  (cW:PE (wZ X.toGx x (clos.map pH) qual sc fa (.ref c') clos A s.heap.objs.size λa=>dW ow a\/X.rb a) false body f)(iP:xX js Z=some ss)(q:f (.fz d::ss)=some k):δ (ε X.P X.w) A (call (.ref fa) [u]) (λv s'=>Sx X B π Z ow s s'/\R X.toGx (X.O B ow) s'.heap k v) nE s:=by
 refine CG (PySem.W.kla_callFunE hdp ho rfl S.co S.gen rfl cE ?_);rw[hb];have Hi:s.heap.NoLimit:=I.ok.mod.nolimit.keeps I.base;refine kR (Dz S.nocell (λz hz=>?_) (λaX md hsb=>⟨Hi.fresh _ hsb,?_⟩) S.kind)
 ·rw[pE] at hz;rw[hz];exact S.par
 ·show gc _ _ (.expr body (envX qual sc s.heap.objs.size fa (.ref c') clos)) _ _
  have kp:∀d u,s.heap.get? d=some u->aX.get? d=some u:=λd u z=>hsb.extBut d u (ut (po z)) (kK _ z);have J:=oV (tk:=s.toks+1) (fa:=fa) (qual:=qual) (cd:=.ref c') I S hc hA ru iP md kp;refine PySem.W.kla_codeExpr (Qe (cW _ π _ _ _ k J q) (λr s' hw=>?_) λe s' hs=>hs.elim);obtain⟨t,r'⟩:=hw;have t2:St X.toGx bG s s':=(St.keep (t':=s.toks+1) kp).then t.2;exact⟨⟨I.st t2 t.1.ge λtt m=>(t.1.tb tt m).go (λa z=>.inl (.inl z)) (λ_ _ e _=>e) λ_ e=>e,t2⟩,R.go (Gd.less λa z=>.inl z) _ _ r'⟩
end
structure vt(G:Gx)(c0 P:Addr)(pos:Pos)(q:Str):Prop where
 hd:CodeHd G.base c0 P
 bl:G.base.BuiltinsAt G.mg P
 lm:Ii G P pos q
section
variable{α:Type}{an:α->α->Bool}{f:Nat->α}{m q k l lo a:Nat}
structure fC(an:α->α->Bool):Prop where
 irr:∀i,an i i=false
 tr:∀i j k,an i j=true->an j k=true->an i k=true
 cut:∀i j k,an i j=false->an j k=false->an i k=false
theorem fC.asymm(T:fC an){a b:α}(h:an a b=true):an b a=false:=by
 cases e:an b a with
 |false=>rfl
 |true=>have:=T.tr _ _ _ h e;rw[T.irr] at this;cases this
def fC.flip(T:fC an):fC λx y=>an y x:=⟨T.irr,λ_ _ _ h g=>T.tr _ _ _ g h,λ_ _ _ h g=>T.cut _ _ _ g h⟩
theorem fC.of(T:fC an){x y z:α}(h:an x z=true)(g:an y z=false):an x y=true:=by
 cases e:an x y with
 |true=>rfl
 |false=>rw[T.cut _ _ _ e g] at h;cases h
def dj(an:α->α->Bool)(f:Nat->α)(m:Nat):Prop:=∀i j,i<j->j<m->an (f j) (f i)=false
abbrev mP(an:α->α->Bool)(f:Nat->α)(m:Nat):Prop:=dj (λx y=>an y x) f m
def tP(an:α->α->Bool)(f:Nat->α)(m q:Nat):Prop:=∀i j,m<=i+q+1->i<m->m<=j+q+1->j<m->an (f i) (f j)=false
noncomputable def xA(f:Nat->α)(a m k:Nat):α:=if a<=k/\k<m then f (a+m-1-k) else f k
noncomputable def oW(f:Nat->α)(l k j:Nat):α:=if j=l then f k else if l<j/\j<=k then f (j-1) else f j
variable{i:Nat}
def dj.le(T:fC an)(u:dj an f m){j:Nat}(h:i<=j)(hj:j<m):an (f j) (f i)=false:=by
 rcases Aj h with z|z
 ·exact u i j z hj
 ·rw[z];exact T.irr _
theorem dj.step(T:fC an)(u:dj an f m)(h:1<=m->an (f m) (f (m-1))=false):dj an f (m+1):=λi j mR hj=>by
 by_cases e:j=m
 ·subst e;exact T.cut _ _ _ (h (by lia)) (u.le T (by lia) (by lia))
 ·exact u i j mR (by lia)
theorem VH(d:mP an f m)(e:tP an f m q):mP an (xA f (m-(q+1)) m) m:=λi j mR hj=>by
 show an (xA _ _ _ i) _=_
 unfold xA
 split
 ·rw[θ (by lia)]
  exact e _ _ (by lia) (by lia) (by lia) (by lia)
 ·split<;>exact d _ _ (by lia) (by lia)
theorem Ij(d:mP an f m):dj an (xA f 0 m) m:=λi j mR hj=>by
 unfold xA;rw[θ (by lia),θ (by lia)]
 exact d _ _ (by lia) (by lia)
theorem ZD(T:fC an)(h1:q+1<=m)(d:mP an f m)(e:tP an f m q)(c:an (f m) (f (m-1))=true):mP an (xA f (m-(q+1)) m) (m+1):=
 (VH d e).step T.flip λ_=>by
  unfold xA;rw[θ (by lia),η (by lia)]
  exact T.asymm (T.of c (e _ _ (by lia) (by lia) (by lia) (by lia)))
theorem Xu(T:fC an)(m:Nat):tP an f (m+1) 0:=λi j a b a' b'=>by
 have e:i=j:=by lia
 rw[e];exact T.irr _
theorem oX(T:fC an)(h1:1<=m)(e:tP an f m q)(c:an (f m) (f (m-1))=false)(y:an (f (m-1)) (f m)=false):tP an f (m+1) (q+1):=λi j i1 i2 j1 j2=>by
 by_cases ei:i=m
 ·subst ei
  by_cases ej:j=i
  ·rw[ej];exact T.irr _
  ·exact T.cut _ _ _ c (e (i-1) j (by lia) (by lia) (by lia) (by lia))
 ·by_cases ej:j=m
  ·subst ej;exact T.cut _ _ _ (e i (j-1) (by lia) (by lia) (by lia) (by lia)) y
  ·exact e i j (by lia) (by lia) (by lia) (by lia)
theorem Ik(T:fC an)(u:dj an f m)(h1:1<=m)(c:an (f 0) (f (m-1))=false)(y:an (f m) (f (m-1))=true):mP an (xA f 0 m) (m+1):=by
 have al:tP an f m (m-1):=λi j _ hi _ hj=>T.cut _ _ _ (T.cut _ _ _ (u.le T (ui i) hi) c) (u.le T (by lia) (by lia))
 have:=ZD T (by lia) (λi j mR hj=>al i j (by lia) (by lia) (by lia) hj) al y
 rw[show m-(m-1+1)=0 by lia] at this
 exact this
theorem Il(T:fC an)(hl:l<=k)(u:dj an f k)(h1:∀i,i<l->an (f k) (f i)=false)(h2:∀i,l<=i->i<k->an (f k) (f i)=true):dj an (oW f l k) (k+1):=λi j mR hj=>by
 unfold oW
 by_cases a1:j=l
 ·rw[θ a1,η (by lia),η (by lia)]
  exact h1 i (by lia)
 rw[η a1]
 by_cases a2:l<j/\j<=k
 ·rw[θ a2]
  split
  ·exact T.asymm (h2 (j-1) (by lia) (by lia))
  ·split<;>exact u _ (j-1) (by lia) (by lia)
 ·rw[η a2,η (by lia),η (by lia)]
  exact u i j mR (by lia)
def NY(T:fC an)(u:dj an f k){x:α}(h:an x (f l)=true)(hi:l<=i)(hk:i<k):an x (f i)=true:=T.of h (u.le T hi hk)
def NZ(T:fC an)(u:dj an f k){x:α}(h:an x (f l)=false)(hl:l<k)(hi:i<=l):an x (f i)=false:=T.cut _ _ _ h (u.le T hi hl)
theorem Im{d:α}{xs:Array α}{g:Nat->Nat}{j:Nat}(hg:∀k,g k=lo+k)(hi:i=lo+a)(hj:j=lo+m)(hm:lo+m<=xs.size):(λk=>(mirror xs i j ((j-i)/2)).getD (g k) d)=xA (λk=>xs.getD (g k) d) a m:=by
 funext k
 subst hi hj;unfold xA;simp only[UV,getElem?_mirror_all hm,hg]
 split
 ·rw[θ (by lia)]
  congr 2
  lia
 ·rw[η (by lia)]
theorem Io{d:α}{xs:Array α}{g:Nat->Nat}(hg:∀k,g k=lo+k)(hk:lo+k<xs.size)(hl:l<=k):(λj=>(bubble xs (lo+k) (lo+k-(lo+l))).getD (g j) d)=oW (λj=>xs.getD (g j) d) l k:=by
 funext j
 unfold oW;simp only[UV,getElem?_bubble hk _ (show lo+k-(lo+l)<=lo+k by lia),hg]
 by_cases c1:j=l
 ·rw[θ c1,θ (by lia)]
 ·rw[η c1,η (by lia)]
  by_cases c2:l<j/\j<=k
  ·rw[θ c2,θ (by lia)]
   congr 2
   lia
  ·rw[η c2,η (by lia)]
end
open PySem.W (KasT kas_asc kas_desc kas_rev kas_tail3 kas_descPart kas_count kas_place kas_bin kas_sort kas_ask kas_item)
noncomputable def bh{α:Type}(aN:Nat->Nat->Bool):KasT α->α
 |.ret a=>a
 |.ask i j k=>bh aN (k (aN i j))
def zK{α:Type}(n:Nat)(R:α->Prop):KasT α->Prop
 |.ret a=>R a
 |.ask i j k=>i<n/\j<n/\∀b,zK n R (k b)
theorem zK.bind{α β:Type}{n:Nat}{R:α->Prop}{S:β->Prop}{f:α->KasT β}:∀{t:KasT α},zK n R t->(∀a,R a->zK n S (f a))->zK n S (t.bind f)
 |.ret a,h,k=>k a h
 |.ask i j g,h,k=>⟨h.1,h.2.1,λb=>zK.bind (h.2.2 b) k⟩
theorem zK.ends{α:Type}{n:Nat}{R:α->Prop}{aN:Nat->Nat->Bool}:∀{t:KasT α},zK n R t->R (bh aN t)
 |.ret _,h=>h
 |.ask i j g,h=>zK.ends (n:=n) (t:=g (aN i j)) (h.2.2 (aN i j))
theorem zK.wp{α:Type}{n:Nat}{R:α->Prop}{aN:Nat->Nat->Bool}{cmp:Nat->Nat->(Bool->kW->Prop)->kW->Prop}{s:kW}{Q:α->kW->Prop}(hc:∀i j C,i<n->j<n->C (aN i j) s->cmp i j C s):
  ∀{t:KasT α},zK n R t->Q (bh aN t) s->t.kasWp cmp Q s
 |.ret _,_,q=>q
 |.ask i j g,h,q=>hc i j _ h.1 h.2.1 (zK.wp (n:=n) (t:=g (aN i j)) hc (h.2.2 (aN i j)) q)
def Ord(n:Nat)(p:Array Nat):Prop:=p.toList.Perm (kN n)
variable{p:Array Nat}
def Ord.get(h:Ord n p)(hn:0<n)(i:Nat):p.getD i 0<n:=by
 by_cases hi:i<p.size
 ·have e:p.getD i 0=p[i]:=by simp[GT,hi]
  rw[e];exact kn.mp (h.mem_iff.mp (by simp))
 ·have e:p.getD i 0=0:=by simp[GT,hi]
  rw[e];exact hn
def Ord.of{q:Array Nat}(h:Ord n p)(e:q.Perm p):Ord n q:=(Array.perm_iff_toList_perm.mp e).trans h
def Ord.rev(h:Ord n p)(i j:Nat):Ord n (kas_rev p i j):=h.of (mirror_perm _ _ _ _)
theorem Wv{n:Nat}{p:Array Nat}(h:Ord n p)(hn:0<n):∀(f m:Nat),zK n (λ_=>True) (kas_asc p f m)
 |0,_=>trivial
 |f+1,m=>⟨h.get hn _,h.get hn _,λb=>by
  cases b with
  |true=>dsimp only;rw[θ rfl];trivial
  |false=>dsimp only;rw[η (by decide)];exact Wv h hn f (m+1)⟩
theorem Yo{n:Nat}(hn:0<n):∀(f:Nat){p:Array Nat}(m q:Nat),Ord n p->zK n (λr=>Ord n r.1) (kas_desc f p m q)
 |0,_,_,_,h=>h
 |f+1,p,m,q,h=>⟨h.get hn _,h.get hn _,λb=>by
  cases b with
  |true=>
   dsimp only;rw[θ rfl]
   by_cases z:q>0
   ·rw[θ z];exact Yo hn f _ _ (h.rev _ _)
   ·rw[η z];exact Yo hn f _ _ h
  |false=>
   dsimp only;rw[η (by decide)]
   refine⟨h.get hn _,h.get hn _,λd=>?_⟩
   cases d with
   |true=>dsimp only;rw[θ rfl];exact h
   |false=>dsimp only;rw[η (by decide)];exact Yo hn f _ _ h⟩
variable{b:Nat}
def Zi{a:Nat}(hn:0<n)(h:Ord n p):zK n (λr=>Ord n r.2) (kas_tail3 a b p):=
 zK.bind (Wv (h.rev _ _) hn _ _) λ_ _=>h.rev _ _
def ZJ{a:Nat}(hn:0<n)(h:Ord n p):zK n (λr=>Ord n r.2) (kas_descPart a b p):=
 zK.bind (Yo hn _ _ _ h) λr hr=>by
  by_cases z:r.2.2>0
  ·rw[θ z];exact Zi hn (hr.rev _ _)
  ·rw[η z];exact Zi hn hr
theorem zbo(hn:0<n)(h:Ord n p):zK n (λr=>Ord n r.2) (kas_count b p):=
 zK.bind (Wv h hn _ _) λm _=>by
  by_cases z:(m==b)=true
  ·rw[θ z];exact h
  ·rw[η z]
   by_cases y:m>1
   ·rw[θ y];refine⟨h.get hn _,h.get hn _,λc=>?_⟩
    cases c with
    |true=>dsimp only;rw[θ rfl];exact h
    |false=>dsimp only;rw[η (by decide)];exact ZJ hn (h.rev _ _)
   ·rw[η y];exact ZJ hn h
theorem WN{n:Nat}{p:Array Nat}(hn:0<n)(h:Ord n p)(k:Nat):∀(f l r:Nat),zK n (λ_=>True) (kas_place p k f l r)
 |0,_,_=>trivial
 |f+1,l,r=>by
  unfold kas_place
  by_cases z:l>=r
  ·rw[θ z];trivial
  ·rw[η z];refine⟨h.get hn _,h.get hn _,λc=>?_⟩
   cases c with
   |true=>dsimp only;rw[θ rfl];exact WN hn h k f _ _
   |false=>dsimp only;rw[η (by decide)];exact WN hn h k f _ _
theorem Zy{n:Nat}(hn:0<n):∀(f:Nat){p:Array Nat}(k:Nat),Ord n p->zK n (Ord n) (kas_bin f p k)
 |0,_,_,h=>h
 |f+1,p,k,h=>zK.bind (WN hn h k _ _ _) λl _=>Zy hn f (k+1) (h.of (bubble_perm _ _ _))
def Vo(hn:0<n):zK n (Ord n) (kas_sort n):=
 zK.bind (zbo hn (by unfold Ord;simp)) λr hr=>by
  by_cases z:r.1<n
  ·rw[θ z];exact Zy hn _ _ hr
  ·rw[η z];exact hr
def Z4(vs:List kL):((kN vs.length).map λi=>vs.getD i QQ)=vs:=by
 refine FZ (by simp) λi h1 h2=>?_
 have hi:i<vs.length:=h2
 simp[hi]
section
variable{prog:QT}{w:World}{A:QF}{E:kL->kW->Prop}{s:kW}{vs ks:List kL}{g:Heap}{a kS:Addr}{e e1:Nat}{f:kL}
theorem ZS{st:SortSt}{ys:List kL}{P:Bw->kW->Prop}(hs:(arrOf st).map (·.2)=ys.toArray)(hf:failedOf st=none)(hz:ys.length=vs.length)(zl:vs.length<=ψ)(hkl:ks.length<=ψ)(oY:a≠kS)
  (hk:s.heap.get? kS=some (uX "list" ks.toArray e))(ha:s.heap.get? a=some (uX "list" #[] e1))
  (q:P (.done (.ret .none)) {s with heap:=(s.heap.update kS (pJ λ_=>(#[]:Array kL))).update a (pJ λ_=>ys.toArray)}):
  δ (ε prog w) A (ksk_tail a false e1 (.ref kS) st) P E s:=by
 have ha2:(s.heap.update kS (pJ λ_=>(#[]:Array kL))).get? a=some (uX "list" #[] e1):=by rw[EO _ _ _ _ oY];exact ha
 unfold ksk_tail;dsimp only;rw[hs];refine kB (Ck hk rfl ?_ (by rw[pA];exact hkl) (ui _))
 refine kB (AF ?_);refine kB (seqEpoch_at ha2 rfl ?_);refine kB (Ck ha2 rfl ?_ (ui _) (by simp only[ul,if_false];rw[pA,hz];lia))
 rw[hf];simp only[bne_self_eq_false,ul,if_false];exact kR q
structure YC(prog:QT)(w:World)(A:QF)(a kS:Addr)(e1:Nat)(f:kL)(vs:List kL)(P:Bw->kW->Prop)(J:Nat->List kL->Nat->kW->Prop):Prop where
 store:∀i ks e s,J i ks e s->s.heap.get? kS=some (uX "list" ks.toArray e)/\ks.length=i
 turn:∀i x ks e s,vs[i]?=some x->J i ks e s->δ (ε prog w) A (call f [x]) (λk s'=>s'.heap.get? kS=some (uX "list" ks.toArray e)/\
  ∀c,(s'.heap.update kS (pJ (·.push k))).get? kS=some (uX "list" (ks++[k]).toArray c)->J (i+1) (ks++[k]) c {s' with heap:=s'.heap.update kS (pJ (·.push k))}) (λ_ _=>False) s
 fin:∀ks e s,J vs.length ks e s->δ (ε prog w) A (Gy a false vs.toArray e1 (.ref kS) ks.toArray) P (λ_ _=>False) s
theorem Jo{P:Bw->kW->Prop}{J:Nat->List kL->Nat->kW->Prop}{body:kL->PUnit->Sem (ForInStep PUnit)}(R:YC prog w A a kS e1 f vs P J)
  (hb:∀i x ks e(s:kW),vs[i]?=some x->J i ks e s->δ (ε prog w) A (body x ⟨⟩) (λr s'=>r=.yield ⟨⟩/\∃k c,J (i+1) (ks++[k]) c s') E s):
  ∀(r:List kL)(i:Nat)(ks:List kL)(e:Nat)(s:kW),i<=vs.length->vs.drop i=r->J i ks e s->δ (ε prog w) A (forIn r PUnit.unit body) (λ_ s'=>∃ks e,J vs.length ks e s') E s
 |[],i,ks,e,s,hi,hr,h=>by
  rw[EA];have e0:i=vs.length:=Nat.le_antisymm hi (EG.mp hr);subst e0;exact kR ⟨ks,e,h⟩
 |x::r,i,ks,e,s,hi,hr,h=>by
  rw[Bj];have hx:vs[i]?=some x:=by
   have z:=υ (λl=>l[0]?) hr
   simpa[Ub] using z
  have LQ:vs.drop (i+1)=r:=by
   have z:=υ (List.drop 1) hr
   simpa[GU,Nat.add_comm] using z
  refine kB (Qe (hb i x ks e s hx h) (λq s' hq=>?_) λ_ _ z=>z);obtain⟨rfl,k,c,h2⟩:=hq;exact Jo R hb r (i+1) (ks++[k]) c s' (kH.mp hx).1 LQ h2
variable{P:Bw->kW->Prop}
theorem zai{J:Nat->List kL->Nat->kW->Prop}(R:YC prog w A a kS e1 f vs P J)(zl:vs.length<=ψ)(oY:a≠kS)(h0:J 0 [] 0 s):
  δ (ε prog w) A (ksk_rest a f false vs.toArray e1 (.ref kS)) P E s:=by
 unfold ksk_rest;refine kB (AD ?_);rw[List.forIn_toArray];refine kB (Qe (Jo R (λi x ks e s' hx hJ=>?_) vs 0 [] 0 s (ui _) GV h0) (λ_ s' hd=>?_) λ_ _ z=>z)
 ·have hi:=(kH.mp hx).1;have hl:=(R.store i ks e s' hJ).2;refine kB (gQ (Qe (R.turn i x ks e s' hx hJ) (λk e8 hk=>?_) λ_ _ hF=>hF.elim));obtain⟨R5,mT⟩:=hk;have pk:(gC ks).push k=gC (ks++[k]):=by rw[List.push_toArray]
  obtain⟨c2,Hz⟩:∃c2,(e8.heap.update kS (pJ (·.push k))).get? kS=some (uX "list" (gC (ks++[k])) c2):=⟨_,by rw[<-pk];exact Ad R5 (·.push k)⟩
  try dsimp only
  refine kB (Ck R5 rfl ?_ (by rw[pA];lia) (uR (Nat.le_of_eq (Array.size_push ..)) (by rw[pA];lia)))
  exact kR ⟨rfl,k,c2,mT c2 Hz⟩
 ·obtain⟨ks,e,hJ⟩:=hd;obtain⟨hk,hl⟩:=R.store _ _ _ _ hJ
  try dsimp only
  refine kB (Qr hk rfl ?_);exact Qe (R.fin ks e s' hJ) (λ_ _ z=>z) λ_ _ z=>z.elim
def zab(hg:Keeps g s.heap)(ga:g.objs.size<=a)(ho:s.heap.get? a=some (uX "list" vs.toArray n))(zl:vs.length<=ψ)
  (h:∀kS e1 h',Keeps g h'->a<kS->h'.get? a=some (uX "list" #[] e1)->h'.get? kS=some (uX "list" #[] 0)->∃J,YC prog w A a kS e1 f vs P J/\J 0 [] 0 {s with heap:=h'}):
  δ (ε prog w) A (ksk_tree a f false) P E s:=by
 have k1:Keeps g (s.heap.update a (pJ λ_=>(#[]:Array kL))):=hg.upd ga;obtain⟨c1,o1⟩:∃c1,(s.heap.update a (pJ λ_=>(#[]:Array kL))).get? a=some (uX "list" #[] c1):=⟨_,Ad ho _⟩;have k3:=(k1.push (uX "tuple" vs.toArray 0)).push (uX "list" #[] 0);have o3:=kK (uX "list" #[] 0) (kK (uX "tuple" vs.toArray 0) o1);have lt:a<((s.heap.update a (pJ λ_=>(#[]:Array kL))).push (uX "tuple" vs.toArray 0)).objs.size:=po (kK _ o1);obtain⟨J,R,h0⟩:=h _ c1 _ k3 lt o3 (ke _ rfl);unfold ksk_tree;refine kB (Qr ho rfl (kB (Ck ho rfl (kB (seqEpoch_at o1 rfl (kB (wpAny_newTuple (kB (Cj (gR ?_) (ui _))) zl)))) zl (ui _))));exact zai (s:={s with heap:=((s.heap.update a (pJ λ_=>(#[]:Array kL))).push (uX "tuple" vs.toArray 0)).push (uX "list" #[] 0)}) R zl (ut lt) h0
def zcg{fa:Addr}{C:List kL->Heap->Prop}(R6:∀Q':List kL->kW->Prop,(∀vs h' tk,Keeps s.heap h'->s.heap.objs.size<=h'.objs.size->vs.length<=ψ->C vs h'->Q' vs {s with heap:=h',toks:=tk})->δ (ε prog w) A.in1 (collect v) Q' E s)
  (h:∀vs h1 D kS e1 h' tk,C vs h1->Keeps h1 h'->vs.length<=ψ->s.heap.objs.size<=D->Keeps s.heap h'->D<kS->h'.get? D=some (uX "list" #[] e1)->h'.get? kS=some (uX "list" #[] 0)->∃J,YC prog w A.in1.in1 D kS e1 (.ref fa) vs (λr s'=>r=.done (.ret .none)/\Q (.ref D) s') J/\J 0 [] 0 {s with heap:=h',toks:=tk}):
  δ (ε prog w) A (call (.builtin "sorted") [v] [(uW "key",.ref fa)]) Q E s:=by
 refine call_function_entry_kw kind_sorted plain_sorted entry_sorted (ksk_s1 _ _) ?_;unfold gh.«sorted»;refine kB (m:=checkCount _ _ _ _) (kR (kB (R6 _ λvs h1 tk k1 sz zl c=>?_)));refine kB (Cj ?_ zl);have o2:(h1.push (uX "list" vs.toArray 0)).get? h1.objs.size=some (uX "list" vs.toArray 0):=ke _ rfl;refine kB (gR (wpAny_call_entry_kw slot_list_sort ⟨_,o2,rfl⟩ entry_list_sort ?body (ksk_l1 _ _)))
 case body=>
  show δ (ε prog w) A.in1.in1 (gh.«list.sort» ⟨[.ref h1.objs.size],[(uW "key",.ref fa)]⟩) _ _ _
  rw[ksk_t1];have k2:Keeps h1 (h1.push (uX "list" vs.toArray 0)):=λb o=>kK _;refine Qe (zab (s:={s with heap:=h1.push (uX "list" vs.toArray 0),toks:=tk}) (P:=λr s'=>r=.done (.ret .none)/\Q (.ref h1.objs.size) s') k2 (pL _) o2 zl λkS e1 h' kk lt ha hk=>?_) (λr s' hq=>?_) λ_ _ z=>z
  ·exact h vs h1 h1.objs.size kS e1 h' tk c kk zl sz (λb o e=>kk b o (k1 b o e)) lt ha hk
  ·obtain⟨rfl,hq⟩:=hq;exact⟨_,rfl,kR ⟨_,rfl,hq⟩⟩
noncomputable def yJ(n:Nat)(lt:Nat->Nat->Bool):List Nat:=if 2<=n then(bh lt (kas_sort n)).toList else kN n
theorem qA{lt:Nat->Nat->Bool}:(yJ n lt).Perm (kN n):=by
 unfold yJ
 split
 ·exact zK.ends (Vo (by lia))
 ·exact .refl _
theorem N0{κ:Bf}{aN:Nat->Nat->Bool}(hl:ks.length=vs.length)(PK:vs.length<64)(oY:a≠kS)(hk:s.heap.get? kS=some (uX "list" ks.toArray e))(ha:s.heap.get? a=some (uX "list" #[] e1))
  (fu:2<=vs.length->∀Q':Bf->kW->Prop,Q' κ s->δ (ε prog w) A (FA ks.toArray) Q' (λ_ _=>False) s)(R7:2<=vs.length->∀i j,i<ks.length->j<ks.length->∀C,C (aN i j) s->δ (ε prog w) A (Gz κ (ks.getD i .none) (ks.getD j .none)) C (λ_ _=>False) s)
  (q:P (.done (.ret .none)) {s with heap:=(s.heap.update kS (pJ λ_=>(#[]:Array kL))).update a (pJ λ_=>((yJ vs.length aN).map λi=>vs.getD i .none).toArray)}):
  δ (ε prog w) A (Gy a false vs.toArray e1 (.ref kS) ks.toArray) P E s:=by
 have z0:vs.toArray.size=vs.length:=rfl;have zl:vs.length<=ψ:=uR (gD PK) (by decide)
 have ol:((yJ vs.length aN).map λi=>vs.getD i .none).length=vs.length:=by rw[kJ,qA.length_eq,pM]
 unfold Gy;dsimp only;simp only[ul,if_false]
 by_cases h2:vs.length<2
 ·rw[z0,θ h2,θ h2,pure_bind];rw[StateT.run_pure];refine kB (kR ?_);refine ZS ?_ rfl ol zl (by lia) oY hk ha q
  show(ks.toArray.zip vs.toArray).map (·.2)=_
  unfold yJ;rw[η (by lia),Z4]
  apply Array.toList_inj.mp
  simp[BW,hl]
 ·have N1:2<=vs.length:=by lia
  rw[z0,η h2,η h2];refine kB (Qe (fu N1 (λR8 s'=>R8=κ/\s'=s) ⟨rfl,rfl⟩) (λR8 s' hs=>?_) λ_ _ z=>z.elim);obtain⟨rfl,rfl⟩:=hs;have run:=zK.wp (R:=Ord vs.length) (cmp:=kas_ask prog w A R8 ks) (Q:=λp e8=>e8=s'/\p=bh aN (kas_sort vs.length)) (λi j C hi hj c=>R7 N1 i j (by lia) (by lia) C c) (Vo (by lia)) ⟨rfl,rfl⟩
  refine kB (Qe (PySem.W.kat_run (E:=E) (ks:=ks) (vs:=vs) (Q:=λst e8=>∃p:Array Nat,p.size=vs.length/\arrOf st=p.map (kas_item (ks.toArray.zip vs.toArray))/\failedOf st=none/\e8=s'/\p=bh aN (kas_sort vs.length)) hl N1 PK (λp st e8 b1 b2 b3 b4=>⟨p,b1,b2,b3,b4⟩) run) ?_ λ_ _ z=>z);rintro⟨⟨⟩,st⟩ e8 ⟨p,hp,har,hf,rfl,ep⟩;have hs:=PySem.W.kat_snds hl har;rw[show p.toList=yJ vs.length aN by unfold yJ;rw[θ N1,ep]] at hs
  exact ZS hs hf ol zl (by lia) oY hk ha q
end
open PySem.W (KasT kas_asc kas_desc kas_rev kas_tail3 kas_descPart kas_count kas_place kas_bin kas_sort kla_fn kla_obj envX tabObj CodeHd kas_ask kas_item)
section
variable{A:QF}{s:kW}{prog:QT}{w:World}{E:kL->kW->Prop}{a₀:Array Keyed}{κ:Bf}{an:Keyed->Keyed->Bool}{M:Model}{vs ks:List kL}{g:Heap}{a kS:Addr}{e e1:Nat}{f:kL}
abbrev k7(aN:Nat->Nat->Bool):Prop:=fC aN
open Classical in
noncomputable def kIdx(ks:List kL)(u:kL):Nat:=if h:∃i,i<ks.length/\ks[i]?=some u then Classical.choose h else 0
end
section
noncomputable def oZ(g h:Heap)(L:Addr):List (Addr×Obj):=(kN h.objs.size).filterMap λa=>if a=L\/(g.get? a).isSome=true then none else(h.get? a).map λo=>(a,o)
noncomputable def bz(g h:Heap)(L d:Addr):List (Addr×Obj):=(oZ g h L).filter λp=>decide (p.1≠d)
end
end L2
namespace HT
open PySem PyProof.Rows
section
noncomputable def lexLt:List Int->List Int->Bool
 |[],[]=>false
 |[],_::_=>true
 |_::_,[]=>false
 |x::xs,y::ys=>if x=y then lexLt xs ys else decide (x<y)
def lexLt_cons(x y:Int)(xs ys:List Int):lexLt (x::xs) (y::ys)=if x=y then lexLt xs ys else decide (x<y):=rfl
def lexLt_nil_nil:lexLt [] []=false:=rfl
def eqAt_int(A:QF)(s:kW)(a:Int)(t:Tok)(c:Int)(u:Tok):∃e,SeqAt.EqAt A s (.int a t) (.int c u) e/\(e=true↔a=c):=
 ⟨(a==c),SeqAt.EqAt.int_int a t c u,by simp⟩
end
end HT
namespace L2
open PySem PySem.Spec PyProof.Rows
open PySem.SeqAt
open PySem.AutoSeq1 (wpAny_loadPart')
open PySem.MeetsSeq PySem.MeetsSeq2 PySem.MeetsSeq3
open PySem.W (KasT kas_sort kas_ask kla_fn kla_obj envX tabObj CodeHd kas_asc kas_desc kas_rev kas_tail3 kas_descPart kas_count kas_place kas_bin)
variable{ns:List Int}{ms:List (Int×Int)}{t:Tok}{Q:Bf->kW->Prop}{β:Type}
section
variable{prog:QT}{w:World}{A:QF}{E:kL->kW->Prop}{s:kW}{C:Bool->kW->Prop}
def rcI(ng:Bool)(A:QF)(s:kW)(a c:Int)(t u:Tok)(prog:QT)(w:World)(E:kL->kW->Prop)(Q:kL->kW->Prop)(h:Q (.bool (ng^^decide (a<c))) s):δ (ε prog w) A (Fm (cond ng .GtE .Lt) (.int a t) (.int c u)) Q E s:=by
 cases ng
 ·exact(Ct (by simpa using h):δ (ε prog w) A (QX .Lt (.int a t) (.int c u)) Q E s)
 ·exact(PyProof.Rows.ge_int (by rw[show decide (c<=a)=(true^^decide (a<c)) by rw[QL];simp];exact h):δ (ε prog w) A (QX .GtE (.int a t) (.int c u)) Q E s)
theorem JO(ng:Bool)(l b:Addr)(items bO:Array kL)(n n2:Nat)(dd LG:Option Addr)(sl LH:Array (Option kL))(ns ms:List Int)(bW:ns.length=ms.length)(hi:gq items.toList ns)(hj:gq bO.toList ms):
  Meets (cond ng gh.«tuple.__ge__» gh.«tuple.__lt__» ⟨[.ref l,.ref b],[]⟩)
   (λ_ R s=>s.heap.get? l=some {cls:=.type "tuple",dict:=dd,data:=.seq items n,slots:=sl}/\s.heap.get? b=some {cls:=.type "tuple",dict:=LG,data:=.seq bO n2,slots:=LH}/\R (.ok (.ret (.bool (ng^^HT.lexLt ns ms)))) s):=by
 have rc:=rcI ng;obtain⟨m,hm⟩:∃m,m=ng:=⟨_,rfl⟩
 cases ng<;>dsimp only[cond] at rc⊢<;>refine .of_wp λprog w A R s h=>?_
 all_goals
  obtain⟨hp,g,d,tk,os⟩:=s;obtain⟨hl,hb,h⟩:=h;have f2:=AutoSeq1.sub_tuple_tuple;have z:items.size=bO.size:=by rw[<-Qs,hi.length,bW,<-hj.length,Qs]
  wp_walk using gJ hl,gJ hb,Cr _ (λbz b s'=>b.1=none/\s'=⟨hp,g,d,tk,os⟩/\∃(vs ws:List kL)(Ig LR:List Int),bz=vs.zip ws/\gq vs Ig/\gq ws LR/\Ig.length=LR.length/\R (.ok (.ret (.bool (m^^HT.lexLt Ig LR)))) ⟨hp,g,d,tk,os⟩) _
  case turn=>
   rintro⟨y,x⟩ bz b s' ⟨LU,rfl,vs,ws,Ig,LR,hz,R9,PM,PN,hR⟩
   cases R9 with
   |nil=>rw[Ev] at hz;cases hz
   |cons a t hv=>
    cases PM with
    |nil=>rw[List.zip_nil_right] at hz;cases hz
    |cons c u hw=>
     rw[UZ] at hz
     injection hz with q1 q2
     injection q1 with q3 q4
     subst q3 q4;rw[HT.lexLt_cons] at hR;simp only[ku] at PN;obtain⟨e,he,N2⟩:=HT.eqAt_int A.in1 ⟨hp,g,d,tk,os⟩ a t c u;refine kB (he prog w _ _ ?_)
     cases e with
     |true=>
      rw[θ (N2.mp rfl)] at hR
      wp_walk
      exact⟨rfl,rfl,_,_,_,_,q2,hv,hw,by lia,hR⟩
     |false=>
      rw[η (λq=>absurd (N2.mpr q) pb)] at hR;have hri:=rc A.in1 ⟨hp,g,d,tk,os⟩ a c t u prog w
      wp_walk using hri
      exact⟨_,rfl,by simpa[hm] using hR⟩
  case fin=>
   rintro⟨b1,b2⟩ s' ⟨LU,rfl,vs,ws,Ig,LR,hz,R9,PM,PN,hR⟩
   cases LU;have hv:HT.lexLt Ig LR=false:=by
    cases R9 with
    |nil=>
     cases PM with
     |nil=>rfl
     |cons c u hw=>cases PN
    |cons a t hv=>
     cases PM with
     |nil=>cases PN
     |cons c u hw=>rw[UZ] at hz;cases hz
   rw[hv] at hR
   wp_walk
   exact⟨_,rfl,by simpa[Builtin.Tuple.tupleCompareSizes,z,hm] using hR⟩
  case h=>
   exact⟨rfl,rfl,items.toList,bO.toList,ns,ms,rfl,hi,hj,bW,by rw[hm];exact h⟩
def yq(h:Heap)(v:kL)(ns:List Int):Prop:=∃(a:Addr)(aS:Array kL)(n:Nat)(dd:Option Addr)(sl:Array (Option kL)),v=.ref a/\h.get? a=some {cls:=.type "tuple",dict:=dd,data:=.seq aS n,slots:=sl}/\gq aS.toList ns
theorem zbg{h:Heap}{us:List kL}(x:gq us ns):∃as,GJ h us (ns.map gH) as:=by
 induction x with
 |nil=>exact⟨_,.nil⟩
 |cons n t r ih=>obtain⟨_,q⟩:=ih;exact⟨_,.cons (.int n t) q⟩
def yq.reads{h:Heap}{v:kL}(t:yq h v ns):∃as,Reads h v (.tuple (ns.map gH)) as:=by
 obtain⟨a,aS,n,dd,sl,rfl,o,i⟩:=t;obtain⟨as,r⟩:=zbg (h:=h) i;exact⟨_,reads_tuple_at o rfl rfl (by simpa using r)⟩
theorem VQ:∀ns:List Int,uH (ns.map gH)=true
 |[]=>rfl
 |n::ns=>by simp only[kZ,uH,VQ ns,uu,Bool.and_self]
def Zn(ns:List Int):uu (.tuple (ns.map gH))=true:=by
 simp only[uu,VQ ns]
theorem Vy:∀ns:List Int,ud (ns.map gH)<=1
 |[]=>by simp[ud]
 |n::ns=>by
  have:=Vy ns;simp only[kZ,ud,QJ];lia
theorem Jk:∀{ns ms:List Int},UG (ns.map gH) (ms.map gH)=decide (ns=ms)
 |[],[]=>rfl
 |[],m::ms=>rfl
 |n::ns,[]=>rfl
 |n::ns,m::ms=>by
  simp only[kZ,UG,UA,Jk]
  by_cases h1:n=m<;>by_cases h2:ns=ms<;>simp[h1,h2]
variable{x y:kL}
theorem o6{ms:List Int}(hx:yq s.heap x ns)(hy:yq s.heap y ms)(hu:A.units+64<ν)(q:C (decide (ns=ms)) s):δ (ε prog w) A (eqBool x y) C E s:=by
 obtain⟨as,ra⟩:=hx.reads;obtain⟨bs,rb⟩:=hy.reads;refine CL prog w A E s x y _ _ as bs C ra rb (Zn ns) (Zn ms) ?_ ?_
 ·have:=Vy ns;have:(FE (ns.map gH)).depth<=2:=by simp only[QJ];lia
  have:=GB (FE (ns.map gH)).depth (FE (ms.map gH)).depth;lia
 ·simp only[UA];rw[Jk];exact q
noncomputable def fD(a b:Int×Int):Bool:=if a.1=b.1 then(if a.2=b.2 then false else decide (a.2<b.2)) else decide (a.1<b.1)
theorem tQ{a b:Int}{u:Tok}(hu:A.units+64<ν)(q:C (decide (a=b)) s):δ (ε prog w) A (eqBool (.int a t) (.int b u)) C E s:=by
 refine CL prog w A E s _ _ (.int a) (.int b) _ _ C (.int a t) (.int b u) rfl rfl ?_ ?_
 ·have:QJ (.int a)<=1:=by simp[QJ]
  have:=GB (QJ (.int a)) (QJ (.int b));lia
 ·simp only[UA]
  by_cases h:a=b
  ·rw[ζ h] at q
   simpa[h] using q
  ·rw[ι h] at q;have:(a==b)=false:=beq_eq_false_iff_ne.mpr h;rw[this];exact q
theorem zcm{a b:Int×Int}(hx:yq s.heap x [a.1,a.2])(hy:yq s.heap y [b.1,b.2])(hu:A.units+64<ν)(q:C (fD a b) s):δ (ε prog w) A (Gz (tuples' true) x y) C E s:=by
 obtain⟨p,aS,n,dd,sl,rfl,o,i⟩:=hx;obtain⟨p',dw,n',iO,cV,rfl,o',i'⟩:=hy;obtain⟨u1,u2,e,t1,t2⟩:∃u1 u2,aS.toList=[u1,u2]/\(∃t,u1=.int a.1 t)/\∃t,u2=.int a.2 t:=by
  revert i
  generalize aS.toList=l;intro i
  cases i with
  |cons k t r=>
   cases r with
   |cons k2 t2 r2=>
    cases r2;exact⟨_,_,rfl,⟨_,rfl⟩,⟨_,rfl⟩⟩
 obtain⟨u1',u2',e',t1',t2'⟩:∃u1 u2,dw.toList=[u1,u2]/\(∃t,u1=.int b.1 t)/\∃t,u2=.int b.2 t:=by
  revert i'
  generalize dw.toList=l;intro i
  cases i with
  |cons k t r=>
   cases r with
   |cons k2 t2 r2=>
    cases r2;exact⟨_,_,rfl,⟨_,rfl⟩,⟨_,rfl⟩⟩
 obtain⟨t1,rfl⟩:=t1;obtain⟨t2,rfl⟩:=t2;obtain⟨t1',rfl⟩:=t1';obtain⟨t2',rfl⟩:=t2';have z:aS.size=2:=by rw[<-Qs,e];rfl
 have z':dw.size=2:=by rw[<-Qs,e'];rfl
 refine PySem.W.kat_lt o rfl o' rfl ?_;rw[e,e',z,z',ι (by lia)]
 unfold fD at q;refine Fa (tQ hu ?_)
 by_cases c:a.1=b.1
 ·rw[θ c] at q;rw[ζ c];refine GC (Fa (tQ hu ?_))
  by_cases c2:a.2=b.2
  ·rw[θ c2] at q;rw[ζ c2];exact GC (PySem.W.kat_nil q)
  ·rw[η c2] at q;rw[ι c2];exact GW (PySem.W.kat_one _ _ (Ct q))
 ·rw[η c] at q;rw[ι c];exact GW (oneLt_int q)
open PySem.W (KatTups) in
theorem JY{h:Heap}:∀vs:List kL,(∀v,v∈vs->∃a:Int×Int,yq h v [a.1,a.2])->∃fs,fs.length=vs.length/\KatTups h vs fs/\∀f,f∈fs->∃n t,f=.int n t
 |[],_=>⟨[],rfl,.nil,λf hf=>by cases hf⟩
 |v::vs,hv=>by
  obtain⟨fs,l,t,r⟩:=JY vs λu hu=>hv u (uM _ hu);obtain⟨a,p,aS,n,dd,sl,rfl,o,i⟩:=hv v (uN ..);obtain⟨u1,t1,e⟩:∃u1 t,aS[0]?=some u1/\u1=.int a.1 t:=by
   rw[<-Qy]
   revert i
   generalize aS.toList=l;intro i
   cases i with
   |cons k t r=>exact⟨_,t,rfl,rfl⟩
  refine⟨u1::fs,by simp[l],.cons o rfl rfl e.1 t,λf hf=>?_⟩
  rcases kT.mp hf with rfl|hf
  ·exact⟨_,t1,e.2⟩
  ·exact r f hf
variable{vs:List kL}
theorem zby{M:Model}{A:QF}{E:kL->kW->Prop}{s:kW}(hn:0<vs.length)(hv:∀v,v∈vs->∃a:Int×Int,yq s.heap v [a.1,a.2])(q:Q (tuples' true) s):δ M A (FA vs.toArray) Q E s:=by
 obtain⟨fs,l,t,r⟩:=JY vs hv;refine PySem.W.kat_kind (T:=.type "int") t (by lia) (λf hf=>?_) (by decide) ?_
 ·obtain⟨n,t,rfl⟩:=r f hf;exact .now
 ·rw[show(Ua "int"!=Ua "tuple")=true from by decide]
  exact q
noncomputable def cu:List (Int×Int)->List (Int×Int)->Bool
 |[],ys=>decide (0<ys.length)
 |_::_,[]=>false
 |x::xs,y::ys=>if x=y then cu xs ys else HT.lexLt [x.1,x.2] [y.1,y.2]
def jE(h:Heap)(v:kL)(ns:List (Int×Int)):Prop:=∃(a:Addr)(aS:List kL)(n:Nat),v=.ref a/\h.get? a=some (uX "list" aS.toArray n)/\aS.length=ns.length/\∀(i:Nat)(u:kL)(k:Int×Int),aS[i]?=some u->ns[i]?=some k->yq h u [k.1,k.2]
variable{ns:List (Int×Int)}
section
variable{R:GM->kW->Prop}
theorem o7{k l:Int×Int}{Q:kL->kW->Prop}(hx:yq s.heap x [k.1,k.2])(hy:yq s.heap y [l.1,l.2])(hu:A.units+64<ν)(q:Q (.bool (HT.lexLt [k.1,k.2] [l.1,l.2])) s):δ (ε prog w) A (Fm .Lt x y) Q E s:=by
 obtain⟨a,aS,n,dd,sl,rfl,o,i⟩:=hx;obtain⟨b,Sa,n2,LG,LH,rfl,o2,i2⟩:=hy;exact DX (op:=.Lt) ⟨_,o,rfl⟩ ⟨_,o2,rfl⟩ PySem.F.slot_tuple_lt PySem.F.entry_tuple_lt (PySem.F.args_tuple_lt_2 _ _) (JO false a b aS Sa n n2 dd LG sl LH [k.1,k.2] [l.1,l.2] rfl i i2) ⟨o,o2,(λz=>nomatch z),by rw[BG];exact q⟩ (by lia)
theorem o8{a b:Addr}{xs ys:List kL}{n m:Nat}(hu:A.units+70<ν)(ha:s.heap.get? a=some (uX "list" xs.toArray n))(hb:s.heap.get? b=some (uX "list" ys.toArray m))(lx:xs.length=ns.length)(ly:ys.length=ms.length)
  (tx:∀(i:Nat)(u:kL)(k:Int×Int),xs[i]?=some u->ns[i]?=some k->yq s.heap u [k.1,k.2])(ty:∀(i:Nat)(u:kL)(k:Int×Int),ys[i]?=some u->ms[i]?=some k->yq s.heap u [k.1,k.2]):
  ∀(f i:Nat),ns.length-i=f->i<=ns.length->i<=ms.length->R (.ok (.ret (.bool (cu (ns.drop i) (ms.drop i))))) s->gc (ε prog w) A (.builtin "list.__eq__.loop" ⟨[.ref a,.ref b,Uq (i:Int),Uq 0],[]⟩) R s:=by
 have fin:∀i:Nat,i<=ns.length->i<=ms.length->(ns.length=i\/ms.length=i)->cu (ns.drop i) (ms.drop i)=decide (xs.length<ys.length):=λi h1 h2 h3=>by
  rcases h3 with h3|h3
  ·rw[BH (by lia),cu,UC]
   exact ω.mpr (by lia)
  ·rw[BH (l:=ms) (by lia)]
   cases e:ns.drop i with
   |nil=>
    have:=EG.mp e;rw[cu];exact ω.mpr (by simp;lia)
   |cons k r=>
    rw[cu];have:i<ns.length:=by
     rcases Nat.lt_or_ge i ns.length with z|z
     ·exact z
     ·rw[BH z] at e;cases e
    exact(ι (by lia)).symm
 intro f
 induction f with
 |zero=>
  intro i hf h1 h2 q;have e:ns.length=i:=by lia
  refine Qv DE ?_;rw[Qj Ux _];rw[fin i h1 h2 (.inl e)] at q;have gx:xs[i]?=none:=pR (by lia)
  refine kB (Qr ha rfl (kB (Qr hb rfl ?_)));simp only[Uq,uk,gW,gx];exact kB (Qr ha rfl (kB (Qr hb rfl (kR q))))
 |succ f ih=>
  intro i hf h1 h2 q;refine Qv DE ?_;rw[Qj Ux _];have li:i<xs.length:=by lia
  have gx:xs[i]?=some xs[i]:=kC li;refine kB (Qr ha rfl (kB (Qr hb rfl ?_)))
  by_cases hy:ms.length=i
  ·rw[fin i h1 h2 (.inr hy)] at q;have gy:ys[i]?=none:=pR (by lia)
   simp only[Uq,uk,gW,gx,gy];exact kB (Qr ha rfl (kB (Qr hb rfl (kR q))))
  ·have lj:i<ys.length:=by lia
   have gy:ys[i]?=some ys[i]:=kC lj;have gn:ns[i]?=some ns[i]:=kC (by lia)
   have gm:ms[i]?=some ms[i]:=kC (by lia)
   have dx:ns.drop i=ns[i]::ns.drop (i+1):=Qw (by lia)
   have dy:ms.drop i=ms[i]::ms.drop (i+1):=Qw (by lia)
   rw[dx,dy,cu] at q;have t1:=tx i _ _ gx gn;have t2:=ty i _ _ gy gm;simp only[Uq,uk,gW,gx,gy];refine kB (o6 t1 t2 (by show A.units+1+64<_;lia) ?_)
   by_cases e:ns[i]=ms[i]
   ·rw[θ e] at q;rw[ζ (by rw[e])]
    simp only[if_true];have z:=ih (i+1) (by lia) (by lia) (by lia) q
    exact kR ⟨Uk Ux _,by simpa[Uq] using z⟩
   ·rw[η e] at q;have ne:¬[ns[i].1,ns[i].2]=[ms[i].1,ms[i].2]:=λz=>by
     simp only[List.cons.injEq,and_true] at z;exact e (Uy z.1 z.2)
    rw[ι ne];simp only[ul,if_false];refine kB (Qr ha rfl (kB (Qr hb rfl ?_)));simp only[gW,gx,gy];exact kB (o7 t1 t2 (by show A.units+1+64<_;lia) (kR q))
end
def Ip(a b:Addr):Meets (gh.«list.__lt__» ⟨[.ref a,.ref b],[]⟩) (λA R s=>A.units+70<ν/\∃(xs ys:List kL)(n m:Nat)(ns ms:List (Int×Int)),s.heap.get? a=some (uX "list" xs.toArray n)/\s.heap.get? b=some (uX "list" ys.toArray m)/\xs.length=ns.length/\ys.length=ms.length/\
  (∀(i:Nat)(u:kL)(k:Int×Int),xs[i]?=some u->ns[i]?=some k->yq s.heap u [k.1,k.2])/\(∀(i:Nat)(u:kL)(k:Int×Int),ys[i]?=some u->ms[i]?=some k->yq s.heap u [k.1,k.2])/\R (.ok (.ret (.bool (cu ns ms)))) s):=by
 intro prog w A R s h;obtain⟨hu,xs,ys,n,m,ns,ms,ha,hb,lx,ly,tx,ty,q⟩:=h;refine kB (m:=isInstance (.ref b) (.type "list")) (Un (T:="list") (b:=true) ⟨_,hb,rfl⟩ DN ?_);exact kR ⟨Uk Ux _,o8 (i:=0) hu ha hb lx ly tx ty _ rfl (ui _) (ui _) q⟩
theorem Iq(hx:jE s.heap x ns)(hy:jE s.heap y ms)(hu:A.units+70<ν)(q:C (cu ns ms) s):δ (ε prog w) A (Gz oneType' x y) C E s:=by
 obtain⟨a,xs,n,rfl,ha,lx,tx⟩:=hx;obtain⟨b,ys,m,rfl,hb,ly,ty⟩:=hy;rw[keyLt'_oneType,oneLt'_eq];simp only[if_true];refine kB (wpAny_cRoomFor (by lia) (kB (wpAny_callSpecialIfBound?_slot ⟨_,ha,rfl⟩ EH (BV EH ⟨_,ha,rfl⟩ PySem.F.entry_list_lt (PySem.F.args_list_lt_2 _ _) (Ip a b) ⟨hu,xs,ys,n,m,ns,ms,ha,hb,lx,ly,tx,ty,?_⟩))))
 exact uj q
def zbz{M:Model}(h2:2<=vs.length)(hv:∀v,v∈vs->∃ns,jE s.heap v ns)(q:Q oneType' s):δ M A (FA vs.toArray) Q E s:=by
 refine PySem.W.kas_kind (T:=.type "list") h2 (λv h=>?_) (by decide) (by decide) q
 obtain⟨ns,a,aS,n,rfl,o,_⟩:=hv v h;exact(PySem.W.Looks.ld o).andThen .now
structure k9{α:Type}(lt:α->α->Bool):Prop where
 irr:∀a,lt a a=false
 tr:∀a b c,lt a b=true->lt b c=true->lt a c=true
 tot:∀a b,a≠b->lt a b=true\/lt b a=true
noncomputable def lexB{α:Type}[DecidableEq α](r:α->α->Bool)(s:β->β->Bool)(a b:α×β):Bool:=if a.1=b.1 then s a.2 b.2 else r a.1 b.1
def k9.lex{α:Type}[DecidableEq α]{r:α->α->Bool}{s:β->β->Bool}(R:k9 r)(S:k9 s):k9 (lexB r s) where
 irr a:=by unfold lexB;rw[θ rfl];exact S.irr _
 tr a b c h1 h2:=by
  unfold lexB at*
  by_cases e1:a.1=b.1
  ·rw[θ e1] at h1
   by_cases e2:b.1=c.1
   ·rw[θ e2] at h2;rw[θ (e1.trans e2)];exact S.tr _ _ _ h1 h2
   ·rw[η e2] at h2;rw[η (λz=>e2 (e1.symm.trans z)),e1];exact h2
  ·rw[η e1] at h1
   by_cases e2:b.1=c.1
   ·rw[η (λz=>e1 (z.trans e2.symm)),<-e2];exact h1
   ·rw[η e2] at h2;have n:a.1≠c.1:=λz=>by
     rw[<-z] at h2;have:=R.tr _ _ _ h1 h2;rw[R.irr] at this
     cases this
    rw[η n];exact R.tr _ _ _ h1 h2
 tot a b h:=by
  unfold lexB
  by_cases e:a.1=b.1
  ·rw[θ e,θ e.symm];exact S.tot _ _ λz=>h (Uy e z)
  ·rw[η e,η λz=>e z.symm];exact R.tot _ _ e
theorem k9.int:k9 (λa b:Int=>decide (a<b)) where
 irr a:=ι (by lia)
 tr a b c h1 h2:=ζ (by have:=ξ h1;have:=ξ h2;lia)
 tot a b h:=by
  rcases Int.lt_or_gt_of_ne h with h|h
  ·exact .inl (ζ h)
  ·exact .inr (ζ h)
abbrev lt2:Int×Int->Int×Int->Bool:=lexB (λa b=>decide (a<b)) (λa b=>decide (a<b))
def dA:k9 lt2:=k9.int.lex k9.int
theorem Sb(a b:Int):HT.lexLt [a] [b]=decide (a<b):=by
 rw[HT.lexLt_cons,HT.lexLt_nil_nil]
 by_cases e:a=b
 ·rw[θ e];exact(ι (by lia)).symm
 ·rw[η e]
def N3(a b c d:Int):HT.lexLt [a,b] [c,d]=lt2 (a,b) (c,d):=by
 rw[HT.lexLt_cons,Sb];rfl
section
variable{n:Nat}{aN:Nat->Nat->Bool}
theorem k7.of{lt:β->β->Bool}(S:k9 lt)(r:Nat->β):k7 λi j=>lt (r i) (r j) where
 irr i:=S.irr _
 tr i j k:=S.tr _ _ _
 cut i j k h1 h2:=by
  cases z:lt (r i) (r k) with
  |false=>rfl
  |true=>
   by_cases e1:r i=r j
   ·rw[e1] at z;rw[z] at h2;cases h2
   ·rcases S.tot _ _ e1 with y|y
    ·rw[y] at h1;cases h1
    ·have:=S.tr _ _ _ y z;rw[this] at h2;cases h2
end
theorem N4:k9 fD:=by
 have e:fD=lt2:=by
  funext a b
  unfold fD lt2 lexB
  by_cases h:a.1=b.1
  ·rw[θ h,θ h]
   by_cases h2:a.2=b.2
   ·rw[θ h2];exact(ι (by lia)).symm
   ·rw[η h2]
  ·rw[η h,η h]
 rw[e];exact dA
def jX(x y:Int×Int)(xs ys:List (Int×Int)):cu (x::xs) (y::ys)=if x=y then cu xs ys else lt2 x y:=by rw[cu,N3]
theorem Zm:∀(a b c:List (Int×Int)),cu a b=true->cu b c=true->cu a c=true
 |[],[],[],_,h2=>h2
 |[],_::_,[],_,h2=>by rw[cu] at h2;cases h2
 |[],_,_::_,_,_=>by rw[cu];exact ζ (BI _)
 |_::_,[],_,h1,_=>by rw[cu] at h1;cases h1
 |_::_,_::_,[],_,h2=>by rw[cu] at h2;cases h2
 |x::xs,y::ys,z::zs,h1,h2=>by
  rw[jX] at*
  by_cases e1:x=y
  ·rw[θ e1] at h1
   by_cases e2:y=z
   ·rw[θ e2] at h2;rw[θ (e1.trans e2)];exact Zm xs ys zs h1 h2
   ·rw[η e2] at h2;rw[e1,η e2];exact h2
  ·rw[η e1] at h1
   by_cases e2:y=z
   ·rw[<-e2,η e1];exact h1
   ·rw[η e2] at h2;have t:=dA.tr _ _ _ h1 h2;rw[η (λe=>by rw[e,dA.irr] at t;cases t)]
    exact t
theorem Jl:∀(a b:List (Int×Int)),a≠b->cu a b=true\/cu b a=true
 |[],[],n=>absurd rfl n
 |[],_::_,_=>.inl (by rw[cu];exact ζ (BI _))
 |_::_,[],_=>.inr (by rw[cu];exact ζ (BI _))
 |x::xs,y::ys,n=>by
  rw[jX,jX]
  by_cases e:x=y
  ·rw[θ e,θ e.symm];exact Jl xs ys λz=>n (by rw[e,z])
  ·rw[η e,η (λz=>e z.symm)];exact dA.tot _ _ e
theorem ZP:∀a:List (Int×Int),cu a a=false
 |[]=>rfl
 |x::xs=>by rw[jX,θ rfl];exact ZP xs
end
open PySem.W (kla_fn kla_obj envX tabObj CodeHd)
structure N5(X:Cx){κ:Type}(of:Dt->Option κ)(lt:κ->κ->Bool):Prop where
 sto:k9 lt
 kd:∃K:Bf,(∀(s:kW)(O:AP)(ks:List kL),2<=ks.length->(∀v∈ks,∃d k,of d=some k/\R X.toGx O s.heap d v)->∀Q':Bf->kW->Prop,Q' K s->δ (ε X.P X.w) X.A.in1.in1 (FA ks.toArray) Q' nE s)/\
  ∀(s:kW)(O:AP)(d d':Dt)(k k':κ)(v v':kL)(C:Bool->kW->Prop),of d=some k->of d'=some k'->R X.toGx O s.heap d v->R X.toGx O s.heap d' v'->C (lt k k') s->δ (ε X.P X.w) X.A.in1.in1 (Gz K v v') C nE s
 inj:∀{O h d d' k k' v},of d=some k->of d'=some k'->R X.toGx O h d v->R X.toGx O h d' v->k=k'
section
variable{X:Cx}{G:Gx}{O:AP}{h:Heap}{d:Dt}{v:kL}{k:Int×Int}
def vK(e:iy d=some k)(r:R G O h d v):yq h v [k.1,k.2]:=by
 unfold iy at e
 split at e<;>cases e
 obtain⟨p,vs,rfl,_,⟨⟨cls,dd,data,sl⟩,e,hc,n,hd⟩,_,rs⟩:=RT.tup (.inl r)
 simp only at hc hd
 subst hc hd;exact⟨p,_,n,dd,sl,rfl,e,by simpa using jS (ns:=[_,_]) rfl rs⟩
theorem Zs{vs:List kL}{ms:List Int}(a:gq vs ns)(b:gq vs ms):ns=ms:=by
 induction a generalizing ms with
 |nil=>cases b;rfl
 |cons n t _ ih=>cases b with|cons m u z=>rw[ih z]
theorem kyP(hu:X.A.units+80<ν):N5 X iy fD:=⟨N4,⟨tuples' true,λs O ks h2 hv Q' q=>zby (by lia) (λv m=>let⟨d,k,e,r⟩:=hv v m;⟨k,vK e r⟩) q,λs O d d' k k' v v' C e e' r r' c=>zcm (vK e r) (vK e' r') (by show X.A.units+1+1+64<_;lia) c⟩,λ{O h d d' k k' v} e e' r r'=>by
 obtain⟨a,aS,n,dd,sl,rfl,o,i⟩:=vK e r;obtain⟨a',dw,n',iO,cV,e2,o',i'⟩:=vK e' r'
 cases e2;rw[o] at o';cases o';have:=Zs i i'
 simp at this
 exact Uy this.1 this.2⟩
end
theorem Zb{α:Type}{R:α->α->Prop}:∀{a b:List α},(∀x∈a,∀y∈a,R x y->R y x->x=y)->a.Perm b->a.Pairwise R->b.Pairwise R->a=b
 |[],b,_,h,_,_=>h.nil_eq
 |x::a,[],_,h,_,_=>by have:=h.length_eq;cases this
 |x::a,y::b,an,h,ha,hb=>by
  obtain⟨a1,a2⟩:=uK.mp ha;obtain⟨b1,b2⟩:=uK.mp hb;have e:x=y:=by
   rcases kT.mp (h.mem_iff.mp (uN (a:=x) (l:=a))) with e|e
   ·exact e
   ·rcases kT.mp (h.mem_iff.mpr (uN (a:=y) (l:=b))) with e'|e'
    ·exact e'.symm
    ·exact an x (by simp) y (by simp[e']) (a1 y e') (b1 x e)
  subst e;rw[Zb (λx hx y hy=>an x (by simp[hx]) y (by simp[hy])) h.cons_inv a2 b2]
theorem WV(lt:Nat->Nat->Bool)(i:Nat):∀l,(jx lt i l).Perm (i::l)
 |[]=>.refl _
 |j::r=>by
  unfold jx
  split
  ·exact((WV lt i r).cons j).trans (.swap i j r)
  ·exact .refl _
theorem Ys(lt:Nat->Nat->Bool):∀l,(xq lt l).Perm l
 |[]=>.refl _
 |i::r=>(WV lt i _).trans ((Ys lt r).cons i)
theorem Jx{lt:Nat->Nat->Bool}:∀{l:List Nat},vO lt l=true->l.Pairwise λi j=>lt i j=true/\lt j i=false
 |[],_=>.nil
 |i::r,h=>by
  unfold vO at h;rw[pO] at h;refine uK.mpr ⟨λj hj=>?_,Jx h.2⟩;have:=uS.mp h.1 j hj
  simpa using this
noncomputable def PP(n:Nat)(lt:Nat->Nat->Bool):Option (List Nat):=if vO lt (xq lt (kN n))=true then some (xq lt (kN n)) else none
theorem JQ{n:Nat}{r:List Nat}{lt:Nat->Nat->Bool}(h:PP n lt=some r):r.Perm (kN n)/\∀{p:List Nat},p.Perm (kN n)->p.Pairwise (λi j=>lt j i=false)->p=r:=by
 unfold PP at h
 split at h
 ·rename_i c
  cases h;have pw:=Jx c;have pm:=Ys lt (kN n);refine⟨pm,λ{p} hp hs=>(Zb (R:=λi j=>lt j i=false) (a:=xq lt (kN n)) (b:=p) ?_ (pm.trans hp.symm) (pw.imp λh=>h.2) hs).symm⟩;intro x hx y hy r1 r2
  by_cases e:x=y
  ·exact e
  ·exfalso
   obtain⟨i,hi,ei⟩:=pW.mp hx;obtain⟨j,hj,ej⟩:=pW.mp hy;rcases gu i j with l|l|l
   ·have:=(pI.mp pw i j hi hj l).1;rw[ei,ej,r2] at this;cases this
   ·subst l;exact e (ei.symm.trans ej)
   ·have:=(pI.mp pw j i hj hi l).1;rw[ei,ej,r1] at this;cases this
 ·cases h
theorem V4{G:Gx}{O:AP}{h:Heap}{ds:List Dt}{vs:List kL}(r:Rs G O h ds vs):∀{p:List Nat},(∀i,i∈p->i<ds.length)->Rs G O h (p.map λi=>ds.getD i .none) (p.map λi=>vs.getD i .none)
 |[],_=>.nil
 |i::p,hh=>by
  have hi:=hh i uN;obtain⟨u,hu,ru⟩:=r.get (kC hi);refine .cons ?_ (V4 r λj hj=>hh j (uM _ hj));show R G O h (ds.getD i .none) (vs.getD i .none);rw[kE,kC hi,kE,hu];exact ru
structure Ir(X:Cx){κ:Type}(of:Dt->Option κ)(lt:κ->κ->Bool)(df:κ)(pk:Nat->(Nat->Nat->Bool)->Option (List Nat)):Prop where
 perm:∀{n l p},pk n l=some p->p.Perm (kN n)
 run:∀{O:AP}{vs ks:List kL}{dr:List Dt}{kl:List κ}{p:List Nat}{s:kW}{a kS:Addr}{e e1:Nat}{P:Bw->kW->Prop},ks.length=vs.length->vs.length<=ψ->a≠kS->s.heap.get? kS=some (uX "list" ks.toArray e)->s.heap.get? a=some (uX "list" #[] e1)->Rs X.toGx O s.heap dr ks->zn of dr=some kl->pk vs.length (λi j=>lt (kl.getD i df) (kl.getD j df))=some p->
  P (.done (.ret .none)) {s with heap:=(s.heap.update kS (pJ λ_=>(#[]:Array kL))).update a (pJ λ_=>(p.map λi=>vs.getD i .none).toArray)}->δ (ε X.P X.w) X.A.in1.in1 (Gy a false vs.toArray e1 (.ref kS) ks.toArray) P nE s
def PL(X:Cx)(e:Expr)(g:En->Option (List Dt)):Prop:=∀B π Z ow s ds,Inv X B π Z ow s->g Z=some ds->δ (ε X.P X.w) X.A (eval e X.env) (λv s1=>Sx X B π Z ow s s1/\∀s2,Sx X B π Z ow s1 s2->∀Q,(∀vs h' tk,Keeps s2.heap h'->s2.heap.objs.size<=h'.objs.size->vs.length<=ψ->Rs X.toGx (X.O B ow) s1.heap ds vs->Q vs {s2 with heap:=h',toks:=tk})->δ (ε X.P X.w) X.A.in1 (collect v) Q nE s2) nE s
noncomputable def qy{κ:Type}(pk:Nat->(Nat->Nat->Bool)->Option (List Nat))(of:Dt->Option κ)(lt:κ->κ->Bool)(df:κ)(js:List Nat)(f:En->Option Dt)(g:En->Option (List Dt)):En->Option Dt:=λZ=>(g Z).bind λds=>(xX js Z).bind λss=>(zn (λd=>f (.fz d::ss)) ds).bind λdr=>(zn of dr).bind λks=>(pk ds.length λi j=>lt (ks.getD i df) (ks.getD j df)).bind λp=>some (.list (p.map λi=>ds.getD i .none))
section
variable{X:Cx}{κ:Type}{of:Dt->Option κ}{lt:κ->κ->Bool}{df:κ}{pk:Nat->(Nat->Nat->Bool)->Option (List Nat)}{i0:Nat}{js:List Nat}{f g:En->Option Dt}{ga:En->Option (List Dt)}{e a body:Expr}{params:EL}{sc:Scope}{x y:Str}{c c0 P:Addr}{clos:List (Str×Addr)}{p pos fE fZ:Pos}
theorem Wt{α β:Type}{f:α->Option β}:∀{as:List α}{bs:List β}{i:Nat}{a:α},zn f as=some bs->as[i]?=some a->∃b,f a=some b/\bs[i]?=some b
 |[],_,i,a,_,e=>by simp at e
 |a'::as,_,i,a,h,e=>by
  obtain⟨b,q0,h⟩:=kA.mp h;obtain⟨bs,q,h⟩:=kA.mp h
  cases h
  cases i with
  |zero=>cases e;exact⟨b,q0,rfl⟩
  |succ i=>exact Wt (as:=as) (i:=i) (a:=a) q (by simpa using e)
def WJ{O:AP}{h:Heap}{ks:List kL}{dr:List Dt}{kl:List κ}(rk:Rs X.toGx O h dr ks)(q6:zn of dr=some kl){i:Nat}(hi:i<ks.length):∃v kd,ks[i]?=some v/\of kd=some (kl.getD i df)/\R X.toGx O h kd v:=by
 have fL:i<dr.length:=by rw[rk.len];exact hi
 obtain⟨v,hv,rv⟩:=rk.get (kC fL);obtain⟨k',h1,h2⟩:=Wt q6 (kC fL);exact⟨v,_,hv,by rw[kE,h2];exact h1,rv⟩
section
variable{O:AP}{s:kW}{ks:List kL}{dr:List Dt}{kl:List κ}(ky:N5 X of lt)(rk:Rs X.toGx O s.heap dr ks)(q6:zn of dr=some kl)
include ky rk q6
theorem It:∃K:Bf,(2<=ks.length->∀Q':Bf->kW->Prop,Q' K s->δ (ε X.P X.w) X.A.in1.in1 (FA ks.toArray) Q' nE s)/\(∀i j,i<ks.length->j<ks.length->∀C:Bool->kW->Prop,C (lt (kl.getD i df) (kl.getD j df)) s->δ (ε X.P X.w) X.A.in1.in1 (Gz K (ks.getD i .none) (ks.getD j .none)) C nE s):=by
 obtain⟨K,kd1,kd2⟩:=ky.kd;refine⟨K,λh2 Q' q'=>kd1 s O ks h2 (λv m=>?_) Q' q',λi j hi hj C' cc=>?_⟩
 ·obtain⟨i,hi,ei⟩:=pW.mp m;obtain⟨v',kd,a1,a2,a3⟩:=WJ (df:=df) rk q6 hi;rw[kC hi,ei] at a1;cases a1;exact⟨_,_,a2,a3⟩
 ·obtain⟨v,kd,a1,a2,a3⟩:=WJ (df:=df) rk q6 hi;obtain⟨v',kd',b1,b2,b3⟩:=WJ (df:=df) rk q6 hj;rw[kE,a1,kE,b1];exact kd2 s _ _ _ _ _ _ _ _ a2 b2 a3 b3 cc
end
noncomputable def iQ(n:Nat)(lt:Nat->Nat->Bool):Option (List Nat):=if n<64 then some (yJ n lt) else none
theorem tR(ky:N5 X of lt):Ir X of lt df iQ:=⟨λ{n l p} h=>by unfold iQ at h;split at h<;>cases h;exact qA,λ{O vs ks dr kl p s a kS e e1 P} hl zl oY hk ha rk q6 hp hP=>by
 obtain⟨K,k1,k2⟩:=It (df:=df) ky rk q6;unfold iQ at hp
 split at hp<;>cases hp
 exact N0 hl ‹_› oY hk ha (λh2=>k1 (by lia)) (λ_=>k2) hP⟩
theorem vm(he:PE X true e f):PL X e (iL f):=λB π Z ow s ds I q=>by
 obtain⟨d,q1,q2⟩:=kA.mp q;refine av (he B π Z ow s d I q1) λv s1⟨t,r⟩=>⟨t,λs2 t2 Q q=>?_⟩
 cases d<;>cases q2
 obtain⟨l,vs,n,rfl,LV,lz,rs⟩:=RT.lst r;have el:=t2.2.kp l _ LV id (t.1.nt LV λz h=>nomatch h);have k:Keeps s2.heap ((s2.heap.push (uX "list" #[] 0)).update s2.heap.objs.size (pJ (·++vs.toArray))):=(Keeps.push (λ_ _ e=>e) _).upd (pL _);exact collect_list ⟨_,el,rfl,n,rfl⟩ (q vs _ s2.toks k (by rw[FY,size_push'];lia) lz rs) lz
theorem zao{prog:QT}{w:World}{A:QF}{E:kL->kW->Prop}{s:kW}(hh:A.handled=none){r:Addr}{b:Int}{u v:Tok}{n:Nat}(hr:IsRange s.heap r 0 b 1 t u v)(Iu:Builtin.Range.small 0 b 1=true)(hn:DB 0 b 1=n)(bW:n<=2^24){Q:List kL->kW->Prop}
  (h:∀vs h' tk,vs.length=n->(∀(i:Nat) v,vs[i]?=some v->∃t,v=.int i t)->Keeps s.heap h'->s.heap.objs.size<=h'.objs.size->Q vs {s with heap:=h',toks:=tk}):δ (ε prog w) A (collect (.ref r)) Q E s:=by
 unfold collect;refine kB (wpAny_runValue (US (Qv (R:=wants (λv s'=>∃h' tk cX c',v=.ref s.heap.objs.size/\s'={s with heap:=h',toks:=tk}/\Keeps s.heap h'/\h'.get? s.heap.objs.size=some {cls:=.type "list",dict:=none,data:=.seq cX c',slots:=#[]}/\Gu (λi v=>∃t,v=.int (0+i*1) t) cX n) E) entry_proto_collect' ?_) λr s1 hr=>?_))
 rotate_left
 ·cases r with
  |error e=>exact hr
  |ok fl=>
   cases fl with
   |ret v=>
    obtain⟨h',tk,cX,c',rfl,rfl,k,hS,ea⟩:=hr;show δ (ε prog w) A (load s.heap.objs.size>>=_) Q E _;refine kB (wpAny_load hS ?_);dsimp only;exact kR (h cX.toList h' tk (by rw[Qs];exact ea.1) (λi v hv=>by obtain⟨t,e⟩:=ea.2 i v (by rw[<-Qy];exact hv);exact⟨t,by simpa using e⟩) k (gD (po hS)))
   |_=>exact hr.elim
 show δ _ _ (do again (.builtin "list.__iadd__" ⟨[<-newList [],.ref r],[]⟩)) _ _ s
 refine kB (Cj (kR ⟨Ed _ (by decide+kernel),Qv entry_list_iadd' ?_⟩))
 show δ _ _ (Qm (.ref s.heap.objs.size) (.ref r) (.ref s.heap.objs.size)) _ _ {s with heap:=s.heap.push (uX "list" #[] 0)}
 rw[Qj (by decide+kernel) _]
 have hS0:(s.heap.push (uX "list" #[] 0)).get? s.heap.objs.size=some {cls:=.type "list",data:=.seq #[] 0}:=ke _ rfl;refine wpAny_extend_range (s:={s with heap:=s.heap.push (uX "list" #[] 0)}) hh (kK _ hr) Iu hn bW _ _ 0 hS0 (λh' tk cX c' kp hS du=>?_);have k:Keeps s.heap h':=λb o e=>kp b o (ut (po e)) (kK _ e);exact⟨h',tk,cX,c',rfl,rfl,k,hS,du⟩
theorem o9{as ds:List Dt}(q:bI as=some ds):∃j,as=[.int j]/\(-(2^62)<=j/\j<2^62/\j.toNat<=ψ)/\ds=(kN j.toNat).map λk:Nat=>.int k:=by
 unfold bI at q
 split at q
 ·split at q<;>cases q
  exact⟨_,rfl,‹_›,rfl⟩
 ·cases q
theorem Iw(hg:Gl X "range")(hm:X.mg "range"=none)(ha:PA X true [a] ga)(he:kh [a] X.env=(false,eval a X.env)::kh [] X.env:=by rfl)(hpl:(ub pos (kh [] X.env)).any (·.1)=false:=by rfl)(hc:eval (.Call (.Name "range" p) [a] [] pos) X.env=(do
     let f <-eval (.Name "range" p) X.env
     CK pos f [] (ub pos (kh [a] X.env)) (Ut pos (Qi [] X.env))):=by rfl):PL X (.Call (.Name "range" p) [a] [] pos) (iC bI ga):=λB π Z ow s ds I q=>by
 obtain⟨as,q1,q⟩:=kA.mp q;refine Call_ (xu I hg hm bt_range (UU (av (ha pos B π Z ow s as I q1) λus s1 hw=>?_) he hpl)) hc;obtain⟨t,r⟩:=hw;obtain⟨j,rfl,c,rfl⟩:=o9 q
 ·obtain⟨u,rfl,r1⟩:=eX r;obtain⟨tk,rfl⟩:=RT.int r1;have t1:=t.1.kept (t':=s1.toks+1+1) λb o e=>kK {cls:=.type "range",data:=.fields #[.int 0 s1.toks,.int j tk,.int 1 (s1.toks+1)]} e;refine call_range_1 ⟨t.trans t1,λs2 t2 Q q=>?_⟩;have ho:=t2.2.kp _ _ (HJ ..) id λz=>t.1.fresh (.inl (t.1.bt _ z));refine zao (A:=X.A.in1) (n:=j.toNat) (show X.A.in1.handled=none from I.ok.hd) ho (small_one (by decide) (by decide) c.1 c.2.1) (by rw[rangeSize_one];split<;>lia) c.2.2 λvs h' tk ln hv k sz=>q vs h' tk k sz (by rw[ln];exact c.2.2) (Rs.of (by simp[ln]) λi d v e1 e2=>?_)
  obtain⟨t,rfl⟩:=hv i v e2;rw[kY,uA (by rw[<-ln];exact(kH.mp e2).1)] at e1
  cases e1;exact .int
theorem WS(sr:Ir X of lt df pk)(mM:X.A.depth<CC)(hg:Gl X "sorted")(hm:X.mg "sorted"=none)(he0:PL X e ga)(S:xV x (clos.map pH) sc)(CA:eB X clos js)(me:DP sc X.env=pure clos)(l9:GS params X.env=([],[]))(dI:X.env.code=.ref c0)
  (fF:∀(pm cd dJ u:kL),AT (kla_fn "<lambda>" (X.env.qual++"<lambda>") params body sc clos pm cd dJ) ⟨[u],[]⟩=pure [(x,u)])(cW:∀fa c' a rb,PE (wZ X.toGx x (clos.map pH) (X.env.qual++"<lambda>") sc fa (.ref c') clos X.A.in1.in1 a rb) false body f)(LA:vt X.toGx c0 P fE (X.env.qual++"<lambda>"))(n0:NS e:=by intro _ _;rfl)
  (he:ub pos (kh [e] X.env)=(false,eval e X.env)::ub pos (kh [] X.env):=by rfl) (hpl:(ub pos (kh [e] X.env)).any (·.1)=false:=by rfl):PF X (.Call (.Name "sorted" p) [e] [⟨some "key",.Lambda params body sc fE,fZ⟩] pos) (qy pk of lt df js f ga):=λB π Z ow s dd I q=>by
 obtain⟨ds,q1,q⟩:=kA.mp q;obtain⟨ss,iP,q⟩:=kA.mp q;obtain⟨dr,q5,q⟩:=kA.mp q;obtain⟨kl,q6,q⟩:=kA.mp q;obtain⟨pp,q7,q⟩:=kA.mp q
 cases q;refine uV (xu I hg hm bt_sorted (callWith_kw ?_ he hpl rfl rfl));rw[n0];refine uI (av (he0 B π Z ow s _ I q1) λv s1⟨t1,col⟩=>QD ?_);show δ _ _ (evalAll ((do let v <-eval (.Lambda params body sc fE) X.env;standAt pos;pure v)::(Ut pos (Qi [] X.env)).map (·.2))) _ _ s1;refine Ee (kB (Jr t1.1 dI LA.hd LA.bl me l9 LA.lm λfa c' dJ s2 t2 Sd iR cE Se=>kB (Cf (kR (Ey ?_)))));have lk:=YU q5;refine zcg (C:=λvs _=>Rs X.toGx (X.O B ow) s1.heap ds vs) (col s2 t2) λvs h1 D kS e1 h' tk rs _ zl szD kk ltD hD hkS=>?_;have lv:=rs.len;have t3:Sx X B π Z ow s1 {s2 with heap:=h',toks:=tk}:=t2.trans (t2.1.kept kk);have nD:s2.heap.get? D=none:=pU szD;have nK:s2.heap.get? kS=none:=pU (by lia)
 have faD:fa≠D:=λz=>by rw[z,nD] at iR;cases iR
 have faK:fa≠kS:=λz=>by rw[z,nK] at iR;cases iR
 have DK:D≠kS:=ut ltD;have nB:∀a,(a=fa\/a=D\/a=kS)->s1.heap.get? a=none:=λa z=>by rcases z with rfl|rfl|rfl;exact Sd;exact t2.2.free nD;exact t2.2.free nK
 have K0:=t1.1.newp (B':=λa=>a=fa\/a=D\/a=kS) t3 nB λa z=>by
  rcases z with rfl|rfl|rfl
  ·exact⟨_,kk _ _ iR,λz h=>nomatch h⟩
  ·exact⟨_,hD,λz h=>nomatch h⟩
  ·exact⟨_,hkS,λz h=>nomatch h⟩
 have N6:=t1.1.nf (F:=λa=>a=fa\/a=D\/a=kS) nB;generalize N7:(λa=>B a\/(a=fa\/a=D\/a=kS))=B1 at K0;have bb:∀a,(a=fa\/a=D\/a=kS)->B1 a:=λa z=>by rw[<-N7];exact .inr z
 have rsB:=Rs.go (λa o e n=>⟨t3.2.kp a o e id λz=>n (.inl (t1.1.bt a z)),λz=>n (z.imp (λz=>by rw[<-N7] at z;exact z.elim id λz=>by rw[nB a z] at e;cases e) id)⟩:Gd (X.O B ow) s1.heap (X.O B1 ow) h') _ _ rs
 have Sf:¬X.O B1 ow c':=λz=>by
  obtain⟨c2,oc,vf,tk,e2,e3,e4⟩:=_root_.id cE
  cases e2;refine Se (z.imp (λz=>?_) id);rw[<-N7] at z;rcases z with z|rfl|rfl|rfl
  ·exact z
  ·rw[iR] at e3;cases e3;cases e4.1
  ·rw[nD] at e3;cases e3
  ·rw[nK] at e3;cases e3
 refine⟨λi ks ep s'=>Inv X B1 π Z ow s'/\St X.toGx bG s1 s'/\s'.heap.get? fa=some (kla_obj "<lambda>" (X.env.qual++"<lambda>") params body sc clos ((X.mg "__name__").getD .none) c' dJ)/\s'.heap.CodeRec (.ref c') (X.env.qual++"<lambda>")/\s'.heap.get? D=some (uX "list" #[] e1)/\s'.heap.get? kS=some (uX "list" ks.toArray ep)/\ks.length=i/\Rs X.toGx (X.O B1 ow) s'.heap (dr.take i) ks/\Rs X.toGx (X.O B1 ow) s'.heap ds vs,
  ⟨λi ks ep s' J=>⟨J.2.2.2.2.2.1,J.2.2.2.2.2.2.1⟩,λi u ks ep s' hu⟨J,t,o1,Sg,o2,o3,hl,rk,rv⟩=>?_,λks ep s'⟨J,t,o1,Sg,o2,o3,hl,rk,rv⟩=>?_⟩,K0,t3.2,kk _ _ iR,?_,hD,hkS,rfl,by rw[Uc];exact .nil,rsB⟩
 ·have hi:i<ds.length:=by rw[lv];exact(kH.mp hu).1
  obtain⟨u',Mp,ru⟩:=rv.get (kC hi);rw[hu] at Mp;cases Mp;obtain⟨kd,ek,ek2⟩:=Wt q5 (kC hi);refine av (ZI (A:=X.A.in1.in1) J I.ok.hd mM S CA o1 Sg (fF _ _ _ _) ru (cW _ _ _ _) iP ek) λkv e8 hw=>?_;obtain⟨t4,r4⟩:=hw;have lQ:∀{a o},s'.heap.get? a=some o->(∀z,o.data≠.fields z)->e8.heap.get? a=some o:=λe nf=>t4.2.kp _ _ e id (J.nt e nf);have o3':=lQ o3 λz h=>nomatch h;refine⟨o3',λc2 Hz=>?_⟩;have tG:∀a o,¬a=kS->e8.heap.get? a=some o->(e8.heap.update kS (pJ (·.push kv))).get? a=some o:=λa o n e=>(pX e8.heap _ (UR n)).trans e;have x5:Nx (λa=>a=kS) e8 {e8 with heap:=e8.heap.update kS (pJ (·.push kv)),toks:=e8.toks}:=⟨_,_,rfl,λa o n e=>tG a o n e⟩;have g4:=J.gd t4.2;have g5:Gd (X.O B1 ow) e8.heap (X.O B1 ow) (e8.heap.update kS (pJ (·.push kv))):=λa o e n=>⟨tG a o (λz=>n (.inl (bb a (.inr (.inr z))))) e,n⟩;have J5:=t4.1.nx (B':=B1) (F:=λa=>a=kS) (λa z=>bb a (.inr (.inr z))) x5 (λa z y=>N6 a z (.inr (.inr y))) (λ_ z=>z) (λa _ e=>by subst e;exact⟨_,Hz⟩) λa z=>z.elim (J.bt a) λz=>(J.rb a z).1
  refine⟨J5,x5.st (t.then t4.2) λa z=>nB a (.inr (.inr z)),tG _ _ faK (lQ o1 λz h=>nomatch h),?_,tG _ _ DK (lQ o2 λz h=>nomatch h),Hz,by rw[kb,hl];rfl,?_,Rs.go (g4.trans g5) _ _ rv⟩
  ·obtain⟨c3,oc,vf,tk,e2,e3,e4⟩:=Sg
   cases e2;exact⟨_,oc,vf,tk,rfl,((g4.trans g5) c' oc e3 Sf).1,e4⟩
  ·rw[pP,ek2];exact(Rs.go (g4.trans g5) _ _ rk).app (.cons (R.go g5 _ _ r4) .nil)
 ·rw[BJ (by lia)] at rk
  rw[lv] at q7;refine sr.run hl zl DK o3 o2 rk q6 q7 ?_;have hp:=sr.perm q7;have rp:=V4 rv (p:=pp) λi m=>by rw[lv];exact kn.mp (hp.mem_iff.mp m)
  refine⟨rfl,?_⟩;have o4:(s'.heap.update kS (pJ λ_=>(#[]:Array kL))).get? D=some (uX "list" #[] e1):=(pX s'.heap _ (UR DK)).trans o2;have o5:=Ad o4 λ_=>(pp.map λi=>vs.getD i .none).toArray;have kpF:∀a o,¬(a=kS\/a=D)->s'.heap.get? a=some o->((s'.heap.update kS (pJ λ_=>(#[]:Array kL))).update D (pJ λ_=>(pp.map λi=>vs.getD i .none).toArray)).get? a=some o:=λa o n e=>(pX _ _ λz=>n (.inr z.symm)).trans ((pX _ _ λz=>n (.inl z.symm)).trans e);have xF:Nx (λa=>a=kS\/a=D) s' {s' with heap:=(s'.heap.update kS (pJ λ_=>(#[]:Array kL))).update D (pJ λ_=>(pp.map λi=>vs.getD i .none).toArray),toks:=s'.toks}:=⟨_,_,rfl,λa o n e=>kpF a o n e⟩;have fB:∀a,(a=kS\/a=D)->a=fa\/a=D\/a=kS:=λa z=>z.elim (λz=>.inr (.inr z)) λz=>.inr (.inl z);have JF:=J.nx (B':=B) (λa z=>bb a (fB a z)) xF (λa z y=>N6 a z (fB a y)) (λa z=>by rw[<-N7];exact .inl z) (λa z y=>by obtain⟨o,e⟩:=t1.1.bd a z;rw[nB a (fB a y)] at e;cases e) λa z=>z.elim (I.bt a) λz=>(I.rb a z).1
  have gF:Gd (X.O B1 ow) s'.heap (λa=>X.O B ow a\/a=D) ((s'.heap.update kS (pJ λ_=>(#[]:Array kL))).update D (pJ λ_=>(pp.map λi=>vs.getD i .none).toArray)):=λa o e n=>⟨kpF a o (λz=>n (.inl (bb a (fB a z)))) e,λz=>n (z.elim (λz=>z.imp (λz=>by rw[<-N7];exact .inl z) id) λz=>.inl (bb a (.inr (.inl z))))⟩
  exact⟨⟨JF,t1.2.then (xF.st t λa z=>nB a (fB a z))⟩,D,rfl,t1.2.free (nB D (.inr (.inl rfl))),_,_,o5,by rw[kJ,hp.length_eq,pM];exact zl,Rs.go gF _ _ rp⟩
 ·obtain⟨c3,oc,vf,tk,e2,e3,e4⟩:=cE
  cases e2;exact⟨_,oc,vf,tk,rfl,kk _ _ e3,e4⟩
end
section
variable{X:Cx}{G:Gx}{O:AP}{h:Heap}{d:Dt}{v:kL}
theorem qR{k:List (Int×Int)}(e:Ms d=some k)(r:R G O h d v):jE h v k:=by
 cases d<;>first|cases e|skip
 rename_i ds
 obtain⟨p,vs,n,rfl,el,_,rs⟩:=RT.lst (.inl r);have lk:k.length=ds.length:=YU e;refine⟨p,vs,n,rfl,el,by rw[<-rs.len,lk],λi u kk hu hk=>?_⟩
 obtain⟨d',h1,h2⟩:=XK e hk;obtain⟨u',h3,r'⟩:=rs.get h1;rw[hu] at h3;cases h3;exact vK h2 r'
def zbh{a b:Int×Int}(x:yq h v [a.1,a.2])(y:yq h v [b.1,b.2]):a=b:=by
 obtain⟨p,aS,n,dd,sl,rfl,o,i⟩:=x;obtain⟨a',dw,n',iO,cV,e2,o',i'⟩:=y
 cases e2;rw[o] at o';cases o';have:=Zs i i'
 simp at this
 exact Uy this.1 this.2
theorem zaz{a b:List (Int×Int)}(x:jE h v a)(y:jE h v b):a=b:=by
 obtain⟨p,aS,n,rfl,o,l,i⟩:=x;obtain⟨p',dw,n',e2,o',l',i'⟩:=y
 cases e2;rw[o] at o';have e:aS.toArray=dw.toArray:=by injection o' with o';injection o' with _ _ o';injection o'
 have e:aS=dw:=by simpa using e
 subst e;refine FZ (by lia) λj h1 h2=>?_
 have hj:j<aS.length:=by lia
 exact zbh (i j _ _ (kC hj) (kC h1)) (i' j _ _ (kC hj) (kC h2))
theorem kyL(hu:X.A.units+80<ν):N5 X Ms cu:=⟨⟨ZP,Zm,Jl⟩,⟨oneType',λs O ks h2 hv Q' q=>zbz h2 (λv m=>let⟨d,k,e,r⟩:=hv v m;⟨k,qR e r⟩) q,λs O d d' k k' v v' C e e' r r' c=>Iq (qR e r) (qR e' r') (by show X.A.units+1+1+70<_;lia) c⟩,λe e' r r'=>zaz (qR e r) (qR e' r')⟩
end
def jF{A:QF}{k:Nat}(hr:zD k A):A.units+64<ν:=hr.units
theorem Ix{A:QF}{k:Nat}(hr:zD k A):A.units+80<ν:=by have:=hr.un;lia
open PySem.W (kla_fn kla_obj envX tabObj CodeHd)
section
variable{P:QT}{w:World}{A:QF}{env:Env}{Iv:kW->Prop}{fa:Addr}{p:Int->Option Bool}{mm:Str->Option kL}{s:kW}{x:Str}{u:kL}{pos:Pos}
theorem Iy{n r:Int}{m:Nat}{j1 j2 j3:Nat}{q1 q2 q3 q4 q5 q6 q7 q8 q9 Sh Si Sj Sm Sn So Sp Sr Su Sv Sw Sy Sz SD SE SG SH SI SJ SK SM SN:Pos}(hk:env.scope.kind=.function)(hl:∀y∈(["many","is_past","low","high","middle"]:List Str),env.kindOf y=some .local)
  (kp:∀s h' tk mm,Iv s->Qc env.locals s.heap h'->h'.Ns env.locals mm->Iv {s with heap:=h',toks:=tk})(tk:∀s t,Iv s->Iv {s with toks:=t})
  (ob:∀s,Iv s->∃o fd,s.heap.get? fa=some o/\o.data=.func fd) (ask:∀s i t b,Iv s->p i=some b->δ (ε P w) A (call (.ref fa) [.int i t]) (λv s'=>v=.bool b/\Iv s'/\∀o,s.heap.get? env.locals=some o->s'.heap.get? env.locals=some o) nE s)
  (iv:Iv s) (hn:s.heap.Ns env.locals mm) (h1:mm "many"=some (.int n t)) (h2:mm "is_past"=some (.ref fa)) (hr:nG p m 0 n=some r):
  δ (ε P w) A (execs [.Assign [.Name "low" q1] (.Constant (.int 0) j1 q2) q3,.Assign [.Name "high" q4] (.Name "many" q5) q6,
   .While (.Compare (.Name "low" q7) [.Lt] [.Name "high" q8] q9) [.Assign [.Name "middle" Sh] (.BinOp (.BinOp (.Name "low" Si) .Add (.Name "high" Sj) Sm) .FloorDiv (.Constant (.int 2) j2 Sn) So) Sp,
    .If (.Call (.Name "is_past" Sr) [.Name "middle" Su] [] Sv) [.Assign [.Name "high" Sw] (.Name "middle" Sy) Sz] [.Assign [.Name "low" SD] (.BinOp (.Name "middle" SE) .Add (.Constant (.int 1) j3 SG) SH) SI] SJ] [] SK,.Return (some (.Name "low" SM)) SN] env) (λfl s'=>(∃t,fl=.ret (.int r t))/\Iv s') nE s:=by
 have ld:∀{x u pos s mm}{Q:kL->kW->Prop},s.heap.Ns env.locals mm->x∈(["many","is_past","low","high","middle"]:List Str)->(x==("__debug__":Str))=false->mm x=some u->Q u s->δ (ε P w) A (eval (.Name x pos) env) Q nE s:=λhn m d e q=>BT (Dr hk (hl _ m) hn e q) d;have sv:∀{x u s mm}{Q:Unit->kW->Prop},Iv s->s.heap.Ns env.locals mm->x∈(["many","is_past","low","high","middle"]:List Str)->(∀s',Iv s'->s'.heap.Ns env.locals (λy=>if y=x then some u else mm y)->Q () s')->δ (ε P w) A (FN env x u) Q nE s:=λiv hn m q=>Dh (hl _ m) hn (λh' nM sb=>q _ (kp _ h' _ _ iv sb nM) nM) (by rw[hk];rfl)
 refine uw (Qo (Af (sv (tk _ _ iv) hn (by simp) λs1 iv1 hn1=>?_)) rfl)
 refine uw (Qo (ld hn1 (by simp) (by decide) (u:=.int n t) ((η (by decide)).trans h1) (sv iv1 hn1 (by simp) λs2 iv2 SO=>?_)) rfl)
 refine uw (wpAny_While (Em (λk s'=>∃lo hi tl th mm,Iv s'/\s'.heap.Ns env.locals mm/\mm "low"=some (.int lo tl)/\mm "high"=some (.int hi th)/\mm "is_past"=some (.ref fa)/\nG p k lo hi=some r) ?_ m ⟨0,n,_,_,_,iv2,SO,(η (by decide)).trans (θ rfl),θ rfl,(η (by decide)).trans ((η (by decide)).trans h2),hr⟩))
 rintro k s3 ⟨lo,hi,tl,th,mm,iv3,LW,e1,e2,e3,q⟩
 cases k with
 |zero=>cases q
 |succ k=>
  rw[nG] at q;refine Qu .never (gS (ld LW (by simp) (by decide) e1 (ld LW (by simp) (by decide) e2 (Ct (uj ?_)))) (aP _))
  by_cases c:lo<hi
  ·rw[θ c] at q;obtain⟨b,q1,q⟩:=kA.mp q;rw[ζ c,θ rfl];refine Qu .never (uw (Qo (CU (CU (ld LW (by simp) (by decide) e1 (ld LW (by simp) (by decide) e2 (add_int (Af ?_)))))) rfl))
   refine floordiv_int (by decide) ?_ (.inl (Cd (by decide)))
   rw[Ud _ (by decide)]
   refine sv (tk _ _ (tk _ _ (tk _ _ iv3))) LW (by simp) λs4 iv4 SR=>?_
   have PH:=ob s4 iv4;obtain⟨o,fd,ho,hd⟩:=PH;refine uw (wpAny_If (isTrue_plain (uV (ld SR (by simp) (by decide) (u:=.ref fa) ((η (by decide)).trans e3) ?_)) rfl))
   refine Calls.callWith_function (o:=o) (fd:=fd) (Dx ?_);refine uI (ld SR (by simp) (by decide) (θ rfl) (QD ⟨⟨ho,hd⟩,av (ask s4 _ _ b iv4 q1) λv s5 hw=>?_⟩))
   obtain⟨e,iv5,k5⟩:=hw;subst e;have LX:=SR;obtain⟨o4,es,ep,e4,z4⟩:=LX;have LX:s5.heap.Ns env.locals _:=⟨o4,es,ep,k5 _ e4,z4⟩;refine uj ?_
   cases b with
   |true=>exact uw (Qo (ld LX (by simp) (by decide) (θ rfl) (sv iv5 LX (by simp) λs6 SS SU=>Qt (Qt ⟨k,BU k,lo,(lo+hi)/2,_,_,_,SS,SU,(η (by decide)).trans ((η (by decide)).trans e1),θ rfl,(η (by decide)).trans ((η (by decide)).trans e3),q⟩))) rfl)
   |false=>exact uw (Qo (CU (ld LX (by simp) (by decide) (θ rfl) (Af (add_int (sv (tk _ _ (tk _ _ iv5)) LX (by simp) λs6 SS SU=>Qt (Qt ⟨k,BU k,(lo+hi)/2+1,hi,_,_,_,SS,SU,θ rfl,(η (by decide)).trans ((η (by decide)).trans e2),(η (by decide)).trans ((η (by decide)).trans e3),q⟩)))))) rfl)
  ·rw[η c] at q
   cases q;rw[ι c,η (by decide)]
   exact Qt (uw (CW (ld LW (by simp) (by decide) e1 ⟨⟨_,rfl⟩,iv3⟩)))
end
def tS{h:Heap}{a:Addr}{mm:Str->Option kL}(n:h.Ns a mm):∃o,h.get? a=some o/\∀z,o.data≠.fields z:=by
 obtain⟨o,es,ep,e,q,_⟩:=n;exact⟨o,e,λz y=>by rw[q] at y;cases y⟩
section
variable{X:Cx}{m:Bool}{a body:Expr}{p pos fE:Pos}{params:EL}{sc:Scope}{f g:En->Option Dt}{k:Nat}{x px:Str}{st:Stmt}{fh:Addr}{fd:uz}{P c0:Addr}{clos:List (Str×Addr)}{js:List Nat}{j1 j2 j3:Nat}{q1 q2 q3 q4 q5 q6 q7 q8 q9 Sh Si Sj Sm Sn So Sp Sr Su Sv Sw Sy Sz SD SE SG SH SI SJ SK SM SN:Pos}
def Ja(F:zh X.K X.mg x st ["many","is_past"] fh fd)(SF:zi ["many","is_past","low","high","middle"] ["many","is_past"] (ze st))(hr:zD (k+2) X.A)(ha:PE X true a g)(S:xV px (clos.map pH) sc)(CA:eB X clos js)(me:DP sc X.env=pure clos)(l9:GS params X.env=([],[]))(dI:X.env.code=.ref c0)
  (fF:∀(pm cd dJ u:kL),AT (kla_fn "<lambda>" (X.env.qual++"<lambda>") params body sc clos pm cd dJ) ⟨[u],[]⟩=pure [(px,u)])(cW:∀fa c' A a rb,zD k (wZ X.toGx px (clos.map pH) (X.env.qual++"<lambda>") sc fa (.ref c') clos A a rb).A->PE (wZ X.toGx px (clos.map pH) (X.env.qual++"<lambda>") sc fa (.ref c') clos A a rb) false body f)(LA:vt X.toGx c0 P fE (X.env.qual++"<lambda>"))
  (PR:∀y∈(["many","is_past","low","high","middle"]:List Str),(ze st).names.lookup y=some .local:=by decide+kernel)
  (hbd:yF st=[.Assign [.Name "low" q1] (.Constant (.int 0) j1 q2) q3,.Assign [.Name "high" q4] (.Name "many" q5) q6,
   .While (.Compare (.Name "low" q7) [.Lt] [.Name "high" q8] q9) [.Assign [.Name "middle" Sh] (.BinOp (.BinOp (.Name "low" Si) .Add (.Name "high" Sj) Sm) .FloorDiv (.Constant (.int 2) j2 Sn) So) Sp,
    .If (.Call (.Name "is_past" Sr) [.Name "middle" Su] [] Sv) [.Assign [.Name "high" Sw] (.Name "middle" Sy) Sz] [.Assign [.Name "low" SD] (.BinOp (.Name "middle" SE) .Add (.Constant (.int 1) j3 SG) SH) SI] SJ] [] SK,.Return (some (.Name "low" SM)) SN]:=by rfl)
  (hg:Gl X x:=by rfl) (dZ:(x==("__debug__":Str))=false:=by decide) (he:kh [a,.Lambda params body sc fE] X.env=(false,eval a X.env)::(false,eval (.Lambda params body sc fE) X.env)::[]:=by rfl):
  PE X m (.Call (.Name x p) [a,.Lambda params body sc fE] [] pos) (wK js f g):=λB π Z ow s dd I q=>by
 obtain⟨d0,r1,q⟩:=kA.mp q;obtain⟨n,r2,q⟩:=kA.mp q;obtain⟨ss,r3,q⟩:=kA.mp q;obtain⟨r,r4,q⟩:=kA.mp q
 cases q
 cases d0<;>cases r2
 refine uV (qM I hg F.mg ?_ dZ);refine Ag (h₀:=X.base) I.ok.mod.kin F.kp ?_ (by rw[he];rfl) (by rfl)
 rw[he];refine uI (av (ha B π Z ow s _ I r1) λu s1 hw=>?_);obtain⟨t1,ru⟩:=hw;obtain⟨tn,rfl⟩:=RT.int ru;refine uI (Jr t1.1 dI LA.hd LA.bl me l9 LA.lm λfa c' dJ s2 t2 Sd iR cE Se=>QD ⟨t2.1.kin,?_⟩);obtain⟨eW,Fn⟩:=F.fn;obtain⟨oc,od,kV,doc,pm,an,ct,tA,rfl,lk,SV⟩:=Fn.ex;have Hi:s2.heap.NoLimit:=t2.1.ok.mod.nolimit.keeps t2.1.base;refine CG (BM hr.depth (t2.1.kin _ _ lk) rfl SF.co SF.gen rfl (CF t2.1.kin SV) (F.bn s2 [.int n tn,.ref fa] t2.1.kin rfl _ _ _ _ ?_));refine AA SF.kind (λy hy=>.inl (PR y.1 ?_)) λenv hen s3 x3=>?_
 ·simp at hy;rcases hy with rfl|rfl<;>simp
 subst hen;refine⟨Hi.keeps x3.toInCall.keep,Eo ?_⟩;have md:=x3.toInCall.ns;obtain⟨h3,tk3,rfl,kk⟩:=x3.done;have t3:Sx X B π Z ow s1 {s2 with heap:=h3,toks:=tk3}:=t2.trans (t2.1.kept kk);have nL:s2.heap.get? s2.heap.objs.size=none:=cP;have nB:∀a,(a=fa\/a=s2.heap.objs.size)->s1.heap.get? a=none:=λa z=>by rcases z with rfl|rfl;exact Sd;exact t2.2.free nL
 have faL:fa≠s2.heap.objs.size:=λz=>by rw[z,nL] at iR;cases iR
 have K0:=t1.1.newp (B':=λa=>a=fa\/a=s2.heap.objs.size) t3 nB λa z=>by
  rcases z with rfl|rfl
  ·exact⟨_,kk _ _ iR,λz h=>nomatch h⟩
  ·exact tS md
 have SW:=t1.1.nf (F:=λa=>a=fa\/a=s2.heap.objs.size) nB;have SX:=kk _ _ iR;have SY:h3.CodeRec (.ref c') (X.env.qual++"<lambda>"):=by
  obtain⟨c3,R3,vf,tk,e2,e3,e4⟩:=cE
  cases e2;exact⟨_,R3,vf,tk,rfl,kk _ _ e3,e4⟩
 have ncL:¬X.O (λa=>B a\/(a=fa\/a=s2.heap.objs.size)) ow c':=λz=>by
  obtain⟨c2,PU,vf,tk,e2,e3,e4⟩:=_root_.id cE
  cases e2;refine Se (z.imp (λz=>?_) id);rcases z with z|rfl|rfl
  ·exact z
  ·rw[iR] at e3;cases e3;cases e4.1
  ·rw[nL] at e3;cases e3
 generalize hL:s2.heap.objs.size=Lo at*;rw[hbd];have kpI:∀(s0:kW)(s':kW),(Inv X (λa=>B a\/(a=fa\/a=Lo)) π Z ow s0/\St X.toGx bG s1 s0/\s0.heap.get? fa=some (kla_obj "<lambda>" (X.env.qual++"<lambda>") params body sc clos ((X.mg "__name__").getD .none) c' dJ)/\s0.heap.CodeRec (.ref c') (X.env.qual++"<lambda>"))->Nx (λa=>a=Lo) s0 s'->(∃o,s'.heap.get? Lo=some o)->
   (Inv X (λa=>B a\/(a=fa\/a=Lo)) π Z ow s'/\St X.toGx bG s1 s'/\s'.heap.get? fa=some (kla_obj "<lambda>" (X.env.qual++"<lambda>") params body sc clos ((X.mg "__name__").getD .none) c' dJ)/\s'.heap.CodeRec (.ref c') (X.env.qual++"<lambda>")):=λs0 s'⟨J,t,o1,o2⟩ nx ex=>by
  refine⟨J.nx (F:=λa=>a=Lo) (λa z=>.inr (.inr z)) nx (λa z y=>SW a z (.inr y)) (λ_ z=>z) (λa _ z=>z▸ex) λa z=>z.elim (J.bt a) λz=>(J.rb a z).1,nx.st t λa z=>nB a (.inr z),?_,?_⟩
  ·obtain⟨h',tk,rfl,kp⟩:=nx;exact kp fa _ faL o1
  ·obtain⟨h',tk,rfl,kp⟩:=nx;obtain⟨c2,PU,vf,tk,e2,e3,e4⟩:=o2
   cases e2;exact⟨_,PU,vf,tk,rfl,kp c' _ (λz=>ncL (.inl (.inr (.inr z)))) e3,e4⟩
 refine Qe (Iy (env:=Ur x (ze st) Lo fh eW) (Iv:=λs'=>Inv X (λa=>B a\/(a=fa\/a=Lo)) π Z ow s'/\St X.toGx bG s1 s'/\s'.heap.get? fa=some (kla_obj "<lambda>" (X.env.qual++"<lambda>") params body sc clos ((X.mg "__name__").getD .none) c' dJ)/\s'.heap.CodeRec (.ref c') (X.env.qual++"<lambda>")) (p:=λk=>(f (.fz (.int k)::ss)).bind fP) (show(ze st).kind=_ from SF.kind) (λy hy=>show(ze st).names.lookup y=_ from PR y hy) (λs0 h' tk mm J sb hn=>?_) (λs0 t J=>?_) (λs0 J=>⟨_,_,J.2.2.1,rfl⟩) (λs0 i t b J hp=>?_) ⟨K0,t3.2,SX,SY⟩ md (qf (i:=0) (by decide) rfl rfl (PR _ (by simp))) (qf (i:=1) (by decide) rfl rfl (PR _ (by simp))) r4) (λfl s'⟨⟨t,e⟩,J⟩=>?_) λ_ _ z=>z.elim
 ·exact kpI s0 _ J ⟨h',tk,rfl,λb o n e=>(sb.2 b n).trans e⟩ (let⟨o,e,_⟩:=tS hn;⟨o,e⟩)
 ·obtain⟨o,e⟩:=J.1.bd Lo (.inr (.inr rfl));exact kpI s0 _ J ⟨s0.heap,t,rfl,λb o n e=>e⟩ ⟨o,e⟩
 ·obtain⟨J,t0,o1,o2⟩:=J;obtain⟨x0,e1,e2⟩:=kA.mp hp;refine av (ZI J hr.hd (hr.deeper _).depth S CA o1 o2 (fF _ _ _ _) (.int (t:=t)) (cW _ _ _ _ _ ((hr.deeper _).deeper _)) r3 e1) λv s' hw=>?_;obtain⟨t4,r4⟩:=hw
  cases x0<;>cases e2
  have lQ:∀a o,s0.heap.get? a=some o->¬X.T a->s'.heap.get? a=some o:=λa o e n=>t4.2.kp a o e id n;refine⟨by rw[R] at r4;exact r4,⟨t4.1,t0.then t4.2,lQ _ _ o1 λz=>SW fa (.inr (.inr (.inl z))) (.inl rfl),?_⟩,λo e=>lQ _ _ e λz=>SW Lo (.inr (.inr (.inl z))) (.inr rfl)⟩
  obtain⟨c2,PU,vf,tk,e2,e3,e4⟩:=o2
  cases e2;exact⟨_,PU,vf,tk,rfl,lQ c' _ e3 λz=>ncL (.inl (J.bt c' z)),e4⟩
 ·subst e;exact⟨t1.trans ⟨J.1.less (λ_=>.inl) t1.1.bt λa z=>(t1.1.rb a z).1,J.2.1⟩,.of .int⟩
end
open PySem.W (kla_fn kla_obj envX tabObj CodeHd)
noncomputable def ja(a b:Dt):Option Dt:=(iy a).bind λx=>(iy b).bind λy=>some (.bool (!lt2 x y))
section
variable{X:Cx}{m:Bool}{a b:Expr}{f g:En->Option Dt}{pos:Pos}
theorem N8(hu:X.A.units+64<ν):Z2 X (QX .GtE) ja:=λB π Z ow s a b d v u I q ra rb=>by
 obtain⟨x,e1,q⟩:=kA.mp q;obtain⟨y,e2,q⟩:=kA.mp q
 cases q
 have tp:∀{d v k},iy d=some k->RT X.toGx (X.O B ow) s.heap d v->yq s.heap v [k.1,k.2]:=λe r=>vK e (r.elim id λ⟨_,_,z⟩=>by unfold iy at e;split at e<;>first|exact z.elim|cases e)
 obtain⟨p,aS,n,dd,sl,rfl,ho,i1⟩:=tp e1 ra;obtain⟨p',dw,n',iO,cV,rfl,tu,i2⟩:=tp e2 rb;refine DX (op:=.GtE) ⟨_,ho,rfl⟩ ⟨_,tu,rfl⟩ PySem.F.slot_tuple_ge PySem.F.entry_tuple_ge (PySem.F.args_tuple_ge_2 _ _) (JO true p p' aS dw n n' dd iO sl cV [x.1,x.2] [y.1,y.2] rfl i1 i2) ⟨ho,tu,(λz=>nomatch z),?_⟩ (by lia)
 rw[Bool.true_xor,N3];exact⟨I.sx,.bl⟩
def Iz(hu:X.A.units+64<ν)(ha:PE X true a f)(hb:PE X true b g):PT X (.Compare a [.GtE] [b] pos) (dB (d2 ja f g)):=iY (N8 hu) ha hb (aP _)
end
section
variable{X:Cx}{κ:Type}{of:Dt->Option κ}{lt:κ->κ->Bool}{df:κ}{i0:Nat}{js:List Nat}{f g:En->Option Dt}{ga:En->Option (List Dt)}{e a:Expr}
def PF.le{f f':En->Option Dt}(h:PF X e f)(l:∀Z d,f' Z=some d->f Z=some d):PF X e f':=λB π Z ow s d I q=>h B π Z ow s d I (l Z d q)
noncomputable def YO{κ:Type}(of:Dt->Option κ)(lt:κ->κ->Bool)(df:κ)(js:List Nat)(f:En->Option Dt)(ga:En->Option (List Dt)):En->Option Dt:=λZ=>(ga Z).bind λds=>match ds with
 |[.int n]=>if 0<=n/\n<64 then(xX js Z).bind λss=>(zn (λi:Nat=>f (.fz (.int i)::ss)) (kN n.toNat)).bind λdr=>(zn of dr).bind λks=>some (.list ((yJ n.toNat λi j=>lt (ks.getD i df) (ks.getD j df)).map λi:Nat=>.int i)) else none
 |_=>none
theorem VD{α β γ:Type}{f:β->Option γ}{g:α->β}:∀{as:List α},zn f (as.map g)=zn (λa=>f (g a)) as
 |[]=>rfl
 |a::as=>by unfold zn;rw[kZ];simp only[zn];rw[VD]
theorem Zt(h:PF X e (qy iQ of lt df js f (iC bI ga))):PF X e (YO of lt df js f ga):=h.le λZ d q=>by
 obtain⟨ds,q1,q⟩:=kA.mp q
 split at q
 ·rename_i n
  split at q
  ·rename_i c
   obtain⟨ss,q2,q⟩:=kA.mp q;obtain⟨dr,q5,q⟩:=kA.mp q;obtain⟨ks,q6,q⟩:=kA.mp q;have c62:(64:Int)<2^62:=by decide
   have e1:bI [.int n]=some ((kN n.toNat).map λk:Nat=>.int k):=θ ⟨by lia,by lia,uR (by lia:n.toNat<=64) (by decide)⟩
   have e2:iQ n.toNat (λi j=>lt (ks.getD i df) (ks.getD j df))=some (yJ n.toNat λi j=>lt (ks.getD i df) (ks.getD j df)):=θ (by lia)
   unfold qy iC;rw[q1,kG,e1,kG,q2,kG,VD,q5,kG,q6,kG,kJ,pM,e2,<-q];show some _=some _;rw[CZ,Dt.list.injEq];refine QS λi hi=>?_;have hi:=kn.mp (qA.mem_iff.mp hi);rw[kE,kY,uA hi];rfl
  ·cases q
 ·cases q
end
open PySem.W (kla_fn kla_obj envX tabObj CodeHd)
section
variable{G:Gx}{N ps:List Str}{x:Str}{st:Stmt}{f c:Addr}{fd:uz}{k:Nat}{fs:En->Option Ou}
def zh.okD(T:zh G.K G.mg x st ps f fd)(Sc:zi N ps (ze st))(hb:∀cd A a,zD k (A.deeper (Ur x (ze st) a f cd))->PSs (y9 G N x (ze st) f cd A a) (yF st) fs):zk G (k+1) f fd ps (bg N.length ps.length fs):=let⟨cd,F⟩:=T.fn;F.okD Sc (hb cd)
def zh.okW(T:zh G.K G.mg x st ps f fd)(Sc:zi N ps (ze st))(hb:∀cd A a,zD k (A.deeper (Ur x (ze st) a f cd))->PSs (y9 G N x (ze st) f cd A a) (yF st) fs):Pq G (k+1) f fd ps (vU N.length ps.length fs):=let⟨cd,F⟩:=T.fn;F.okW Sc (hb cd)
end
theorem Xn{fg:List Nat}{c:En->Option Bool}{b:En->Option Ou}:∀{n:Nat}{Z:En}{o:Ou},cJ fg c b n Z=some o->cJ fg c b (n+1) Z=some o
 |0,Z,o,h=>by cases h
 |n+1,Z,o,h=>by
  rw[cJ] at h⊢;obtain⟨t,q1,h⟩:=kA.mp h;rw[q1];show(if t=true then _ else _)=_
  cases t with
  |false=>exact h
  |true=>
   rw[θ rfl] at h⊢;obtain⟨o1,q2,h⟩:=kA.mp h;rw[q2]
   cases o1 with
   |nx b9=>exact Xn h
   |ct b9=>exact Xn h
   |bk b9=>exact h
   |rt d _=>exact h
theorem WP{fg:List Nat}{c:En->Option Bool}{b:En->Option Ou}{Z:En}{o:Ou}{n:Nat}(h:cJ fg c b n Z=some o):∀k,cJ fg c b (n+k) Z=some o
 |0=>h
 |k+1=>Xn (WP h k)
open Classical in
noncomputable def IA(fg:List Nat)(c:En->Option Bool)(b:En->Option Ou):En->Option Ou:=λZ=>if h:∃n o,cJ fg c b n Z=some o then some h.choose_spec.choose else none
def qv{x:Str}{ys:List Str}{sc:Scope}(k:sc.kind=.function)(h:sc.isCoroutine=false/\sc.isGenerator=false/\(∀y∈sc.names,y.2≠AX)/\sc.names.lookup x=some .local/\(∀y∈sc.names,y.2=uZ->y.1∈ys)/\∀y∈ys,sc.names.lookup y=some .free):xV x ys sc:=⟨k,h.1,h.2.1,h.2.2.1,h.2.2.2.1,h.2.2.2.2.1,h.2.2.2.2.2⟩
section
variable{X:Cx}{clos:List (Str×Addr)}{js:List Nat}{y:Str}{c:Addr}{j:Nat}
def eB.nil:eB X [] []:=⟨rfl,λi _ _ _ h=>by simp at h,(λ_ _ h=>nomatch h),λi _ _ h=>by simp at h⟩
theorem eB.cons(h:eB X clos js)(hN:X.N[j]?=some y)(hk:X.env.scope.names.lookup y=some .cell\/X.env.scope.names.lookup y=some .free)(hc:X.env.cells.lookup y=some c)(nd:(clos.map pH).all (λz=>z !=y)=true:=by rfl):eB X ((y,c)::clos) (j::js):=by
 have nd:∀p∈clos,p.1≠y:=λp m=>by have:=uS.mp nd p.1 (ki.mpr ⟨p,m,rfl⟩);simpa using this
 refine⟨by rw[ku,ku,h.len],λi y' c' j' h1 h2=>?_,λy' c' e=>?_,λi y' c' h1=>?_⟩
 ·cases i with
  |zero=>cases h1;cases h2;exact⟨hN,hk,hc⟩
  |succ i=>exact h.ix i y' c' j' (by simpa using h1) (by simpa using h2)
 ·rw[QA] at e
  by_cases z:y'=y
  ·subst z;rw[χ] at e;cases e;exact hc
  ·rw[beq_eq_false_iff_ne.mpr z] at e;exact h.sub y' c' e
 ·cases i with
  |zero=>cases h1;rw[QA,χ]
  |succ i=>
   have h1:clos[i]?=some (y',c'):=by simpa using h1
   rw[QA,beq_eq_false_iff_ne.mpr (nd _ (kg h1))];exact h.has i y' c' h1
end
def qm{G:Gx}{P:Addr}{pos:Pos}{q:Str}(nd:(G.tb.map pH).Nodup)(m:(P,pos,q)∈G.tb):Ii G P pos q:=⟨m,λt h e=>by
 obtain⟨i,hi,ei⟩:=pW.mp h;obtain⟨j,hj,ej⟩:=pW.mp m;have:i=j:=by
  have e1:(G.tb.map pH)[i]'(by simpa using hi)=(G.tb.map pH)[j]'(by simpa using hj):=by rw[Fb,Fb,ei,ej];exact e
  exact(Cu nd).mp e1
 subst this;rw[<-ei,ej]⟩
theorem LY{A:QF}{env:Env}{k:Nat}(hr:zD k A):(A.in1.in1.deeper env).units+64<ν:=by
 have:=hr.un;show A.units+1+1+3+64<ν;lia
noncomputable def mU(x:Str)(st:Stmt):Str:=(Ur x (ze st) 0 0 .none).qual++"<lambda>"
end L2
namespace L2
open PySem
def S0{i j:Int}{m n:Nat}(h1:i.natAbs<2^m)(h2:j.natAbs<2^n)(hm:m<=1000000:=by decide)(hn:n<=1000000:=by decide):mZ i j:=
 ⟨Qg h1 (AH (by decide) hm),Qg h2 (AH (by decide) hn)⟩
def N9{i j:Int}{n:Nat}(h0:j≠0)(h:j.natAbs<2^n)(hn:n<=8999:=by decide):Y5 i j:=⟨h0,Qg h (AH (by decide) hn)⟩
abbrev Dt.scr(ns:List Int):Dt:=.list (ns.map .int)
end L2
namespace L2
open PySem PySem.Spec PyProof.Rows
open PySem.W (KasT kas_asc kas_desc kas_rev kas_tail3 kas_descPart kas_count kas_place kas_bin kas_sort)
theorem vX{α β:Type}{aN:Nat->Nat->Bool}{f:α->KasT β}:∀t:KasT α,bh aN (t.bind f)=bh aN (f (bh aN t))
 |.ret a=>rfl
 |.ask i j k=>vX (k (aN i j))
abbrev gX(p:Array Nat):Nat->Nat:=λk=>p.getD k 0
section
variable{n:Nat}{aN:Nat->Nat->Bool}{p:Array Nat}{m:Nat}
theorem PV{a:Nat}(hm:m<=p.size):gX (kas_rev p a m)=xA (gX p) a m:=Im (g:=λk=>k) (lo:=0) (by lia) (by lia) (by lia) (by lia)
theorem IB(T:k7 aN){P:Nat->Prop}(h:∀m,1<=m->m<=n->dj aN (gX p) m->(m<n->aN (gX p m) (gX p (m-1))=true)->P m):∀f m,1<=m->m+f=n->dj aN (gX p) m->P (bh aN (kas_asc p f m))
 |0,m,h1,hm,u=>h m h1 (by lia) u λz=>by lia
 |f+1,m,h1,hm,u=>by
  show P (bh aN (if aN (gX p m) (gX p (m-1))=true then .ret m else kas_asc p f (m+1)))
  cases c:aN (gX p m) (gX p (m-1)) with
  |true=>exact h m h1 (by lia) u λ_=>c
  |false=>exact IB T h f (m+1) (by lia) (by lia) (u.step T λ_=>c)
theorem qX(T:k7 aN){P:Array Nat×Nat×Nat->Prop}(h:∀p m q,q+1<=m->m<=n->p.size=n->mP aN (gX p) m->tP aN (gX p) m q->P (p,m,q)):∀f p m q,q+1<=m->m+f=n->p.size=n->mP aN (gX p) m->tP aN (gX p) m q->P (bh aN (kas_desc f p m q))
 |0,p,m,q,hq,hm,hz,u,e=>h p m q hq (by lia) hz u e
 |f+1,p,m,q,hq,hm,hz,u,e=>by
  show P (bh aN (if aN (gX p m) (gX p (m-1))=true then(if q>0 then kas_desc f (kas_rev p (m-(q+1)) m) (m+1) 0 else kas_desc f p (m+1) 0)
   else .ask (gX p (m-1)) (gX p m) λd=>if d=true then .ret (p,m,q) else kas_desc f p (m+1) (q+1)))
  cases c:aN (gX p m) (gX p (m-1)) with
  |true=>
   rw[θ rfl]
   split
   ·exact qX T h f _ _ 0 (by lia) (by lia) ((EI _ _ _ _).trans hz) (PV (p:=p) (m:=m) (by lia)▸ZD T hq u e c) (Xu T m)
   ·exact qX T h f p _ 0 (by lia) (by lia) hz (u.step T.flip λ_=>T.asymm c) (Xu T m)
  |false=>
   show P (bh aN (if aN (gX p (m-1)) (gX p m)=true then .ret (p,m,q) else kas_desc f p (m+1) (q+1)))
   cases y:aN (gX p (m-1)) (gX p m) with
   |true=>exact h p m q hq (by lia) hz u e
   |false=>exact qX T h f p _ _ (by lia) (by lia) hz (u.step T.flip λ_=>y) (oX T (by lia) e c y)
section
variable{P:Nat×Array Nat->Prop}(h:∀m p,1<=m->m<=n->p.size=n->dj aN (gX p) m->P (m,p))
include h
theorem tT(T:k7 aN)(h1:1<=m)(hm:m<=n)(hz:p.size=n)(d:mP aN (gX p) m):P (bh aN (kas_tail3 m n p)):=by
 unfold kas_tail3;rw[vX];exact IB (n:=n) (P:=λk=>P (k,_)) T (λk a b u _=>h k _ a b ((EI _ _ _ _).trans hz) u) _ m h1 (by lia) (PV (p:=p) (m:=m) (by lia)▸Ij d)
theorem dpW(T:k7 aN)(hm:m+1<=n)(hz:p.size=n)(d:mP aN (gX p) (m+1)):P (bh aN (kas_descPart m n p)):=by
 unfold kas_descPart;rw[vX];refine qX (n:=n) (P:=λr=>P (bh aN (if r.2.2>0 then kas_tail3 r.2.1 n (kas_rev r.1 (r.2.1-(r.2.2+1)) r.2.1) else kas_tail3 r.2.1 n r.1))) T (λp m q a b z d e=>?_) _ p _ 0 (by lia) (by lia) hz d (Xu T m)
 dsimp only
 split
 ·exact tT h T (by lia) b ((EI _ _ _ _).trans z) (PV (p:=p) (m:=m) (by lia)▸VH d e)
 ·exact tT h T (by lia) b z d
theorem IC(T:k7 aN)(hn:0<n)(hz:p.size=n):P (bh aN (kas_count n p)):=by
 unfold kas_count;rw[vX];refine IB (n:=n) (p:=p) (P:=λk=>P (bh aN (if(k==n)=true then .ret (k,p) else if k>1 then .ask (p.getD 0 0) (p.getD (k-1) 0) λc=>if c=true then .ret (k,p) else kas_descPart k n (kas_rev p 0 k) else kas_descPart k n p))) T (λm a b u y=>?_) _ 1 (pL _) (by lia) λi j mR hj=>by lia
 by_cases c1:(m==n)=true
 ·rw[θ c1];exact h m p a b hz u
 rw[η c1];have c1:m≠n:=λz=>c1 (by rw[z];exact χ _)
 have y:=y (by lia)
 split
 ·show P (bh aN (if aN (gX p 0) (gX p (m-1))=true then .ret (m,p) else kas_descPart m n (kas_rev p 0 m)))
  cases x:aN (gX p 0) (gX p (m-1)) with
  |true=>exact h m p a b hz u
  |false=>exact dpW h T (by lia) ((EI _ _ _ _).trans hz) (PV (p:=p) (m:=m) (by lia)▸Ik T u a x y)
 ·exact dpW h T (by lia) hz (dj.step T.flip (λi j mR hj=>by lia) λ_=>T.asymm y)
end
theorem Xh(T:k7 aN){k:Nat}(u:dj aN (gX p) k){P:Nat->Prop}(h:∀l,l<=k->(∀i,i<l->aN (gX p k) (gX p i)=false)->(∀i,l<=i->i<k->aN (gX p k) (gX p i)=true)->P l):∀f l r,l<=r->r<=k->r-l<=f->(∀i,i<l->aN (gX p k) (gX p i)=false)->(∀i,r<=i->i<k->aN (gX p k) (gX p i)=true)->P (bh aN (kas_place p k f l r))
 |0,l,r,h1,h2,h3,hl,hr=>h l (by lia) hl λi a b=>hr i (by lia) b
 |f+1,l,r,h1,h2,h3,hl,hr=>by
  unfold kas_place
  split
  ·exact h l (by lia) hl λi a b=>hr i (by lia) b
  show P (bh aN (if aN (gX p k) (gX p ((l+r)/2))=true then kas_place p k f l ((l+r)/2) else kas_place p k f ((l+r)/2+1) r))
  cases e:aN (gX p k) (gX p ((l+r)/2)) with
  |true=>exact Xh T u h f l _ (by lia) (by lia) (by lia) hl λi a b=>NY T u e a b
  |false=>exact Xh T u h f _ r (by lia) h2 (by lia) (λi a=>NZ T u e (by lia) (by lia)) hr
theorem Oa(T:k7 aN):∀f(p:Array Nat) k,p.size=n->k+f=n->dj aN (gX p) k->dj aN (gX (bh aN (kas_bin f p k))) n
 |0,p,k,h,hk,u=>hk▸u
 |f+1,p,k,z,hk,u=>by
  unfold kas_bin;rw[vX];refine Xh (P:=λl=>dj aN (gX (bh aN (kas_bin f (bubble p k (k-l)) (k+1)))) n) T u (λl a1 a2 a3=>?_) k 0 k (ui _) (pL _) (by lia) (λi hi=>by lia) (λi a b=>by lia)
  refine Oa T f _ (k+1) ((bubble_perm _ _ _).size_eq.trans z) (by lia) ?_
  have:=Io (d:=0) (xs:=p) (g:=λk=>k) (lo:=0) (k:=k) (by lia) (by lia) a1
  simp only[Br] at this;have e:=Il T a1 u a2 a3
  rwa [<-this] at e
theorem VU(T:k7 aN)(hn:0<n):dj aN (gX (bh aN (kas_sort n))) n:=by
 unfold kas_sort;rw[vX];refine IC (P:=λr=>dj aN (gX (bh aN (if r.1<n then kas_bin (n-max r.1 1) r.2 (max r.1 1) else .ret r.2))) n) (λm p m1 m2 z u=>?_) T hn (by simp)
 by_cases c:m<n
 ·simp only[c,if_true];have x:max m 1=m:=by lia
  rw[x];exact Oa T (n-m) p m z (by lia) u
 ·simp only[c,if_false];have x:m=n:=by lia
  subst x;exact u
end
end L2
namespace Att
open PySem PySem.W PySem.Calls PyProof.Rows
theorem zc7{P:Params}{h:Heap}:∀(ns:List Int)(vs:List kL),WellAll P h vs (ns.map WData.int)->gq vs ns:=by
 intro ns
 induction ns with
 |nil=>
  intro vs w;rw[UW] at w
  cases w;exact .nil
 |cons n ns ih=>
  intro vs w;rw[kZ] at w
  cases w with
  |cons a b=>
   cases a;exact .cons _ _ (ih _ b)
theorem zbc{l:OpenLaw}{n:Nat}(hn:l.most=some n){P:Params}{h:Heap}{args:List WData}{ID:List kL}
  (p5:l.row.toRowW.claim.pre args=true)(S3:WellAll P h ID args):
  ∃a vs ns,ID=[uQ a]/\args=[WData.list (ns.map WData.int)]/\h.get? a=some {cls:=.type "list",data:=.seq vs.toArray}/\gq vs ns/\ns.length<=n:=by
 have hsh:WShape.hasAll [] args [.list .int]=true:=(pre_splitW p5).1;have hc:l.pre.holds [] {args:=args}=true:=(pre_splitW p5).2;obtain⟨d,r,rfl,h1,h2⟩:=hasAllW_cons hsh;obtain rfl:=hasAllW_nil h2;obtain⟨xs,rfl,h3⟩:=hasW_list h1;obtain⟨ns,rfl⟩:=items_int h3;have bW:ns.length<=n:=by
  unfold OpenLaw.pre at hc;have h4:(WTm.not (.lt (.lit (.int (n:Int))) (.len (.arg 0)))).holds [] {args:=[.list (ns.map .int)]}=true:=by
   have h4:=(holds_andW hc).1;rw[hn] at h4;exact h4
  have h5:=condW_of h4 (w_not (w_lt w_lit (w_len_list (w_arg rfl))));rw[kJ] at h5;refine Nat.le_of_not_lt λq=>?_;have q':(n:Int)<((ns.length:Nat):Int):=by lia
  first
   |(rw[ζ q'] at h5;exact absurd h5 (by decide))
   |(simp at h5;lia)
 cases S3 with
 |cons w1 w2=>
  cases w2
  cases w1 with
  |list ho Ih=>exact⟨_,_,ns,rfl,rfl,ho,zc7 ns _ Ih,bW⟩
def zas(l:OpenLaw)(args:List WData):l.row.toRowW.claim.post args (.bool true) args=true:=
 postW_of (r:=l.row.toRowW) (X:=(true==true))
  (show WShape.has [] (.bool true) .bool=true by first|rfl|decide|simp[WShape.has,WShape.arms,WShape.armsAll])
  (show(WTm.eq .res (.lit (.bool true))).value [] {args:=args,res:=some (.bool true),after:=args}=some (.bool (true==true)) from w_eq_bool (w_res rfl) w_lit) rfl
def attach_call{l:OpenLaw}{n:Nat}{q:QT}{iB:List Str}{XP:(Str->Option kL)->Heap->Prop}{YP:World->Heap->Prop}{d:DefRec}
  (hn:l.most=some n)(S4:d.params.defaults=[])
  (call:∀(w:World)(p6 aW:kW)(mg mb:Str->Option kL)(fa:Addr)(o:Obj)(pm cd doc:kL)(a:Addr)(vs:List kL)(ns:List Int),
   Ground q iB [] XP w p6 mg mb aW.heap->YP w aW.heap->
   aW.heap.get? fa=some o->o.data=.func (docDef d.name d.params d.body d.scope pm cd doc)->aW.heap.CodeRec cd d.name->mg d.name=some (.ref fa)->
   aW.heap.get? a=some {cls:=.type "list",data:=.seq vs.toArray}->gq vs ns->ns.length<=n->aW.gens=#[]->
   gc (ε l.prog w) GI (.call (.ref fa) ⟨[.ref a],[]⟩) (λr s'=>r=.ok (.ret (.bool true))/\OldK aW.heap s'.heap/\s'.os=aW.os/\DI s'.gens) aW):
  WalkO q iB XP YP l.row.toRowW d [] (λf vs=>GQ f vs):=by
 intro w p6 aW mg mb G Y fa o pm cd doc dV kV ho hd cE hD Ob hg args ID as p5 hlay hrd S3 hlo;obtain rfl:dV=.none:=Dflts.none hD S4;obtain rfl:kV=.none:=Dflts.noKw hD;obtain⟨a,vs,ns,rfl,rfl,IE,mh,bW⟩:=zbc hn p5 S3;refine enter_call (US (call w p6 aW mg mb fa o pm cd doc a vs ns G Y ho (fd_plain hd) cE Ob IE mh bW hg) λr s' hq=>?_);obtain⟨rfl,h2,h3,h4⟩:=hq;exact⟨.inl ⟨.bool true,.bool true,[],rfl,λ_=>rfl,.bool true,zas l _,λ_=>⟨List.Pairwise.nil,λ_ hm=>(nomatch hm)⟩⟩,h2,h3,h4⟩
end Att
namespace L2
open PySem PySem.Spec PyProof.Rows
open PySem.W (tabObj)
def zb8{P:QT}{w:World}{K:QM}{mg mb:Str->Option kL}{k:Nat}{fa a:Addr}{fd:uz}{x:Str}{F:List Dt->Option Dt}{tb:List (Addr×Pos×Str)}{s:kW}{vs:List kL}{ns:List Int}
  (KX:K.In s.heap)(md:s.heap.Ns pZ mg)(hb:s.heap.Ns DH mb)(hbb:∀x:Str,x≠"__name__"->mb x=uD x)(S5:s.heap.NoLimit)(hg:s.gens=#[])
  (ha:s.heap.get? a=some {cls:=.type "list",data:=.seq vs.toArray})(hi:gq vs ns)(hl:ns.length<=ψ)(hr:zD k GI)
  (hT:∀t∈tb,s.heap.get? t.1=some (tabObj #[])/\K.lookup t.1=none/\isCodeTable s.heap t.1)
  (hbm:∃bm ob,mg "__builtins__"=some (.ref bm)/\bm≠DH/\s.heap.get? bm=some ob/\ob.cls=.type "module"/\ob.dict=some DH/\ob.data=.plain)
  (hF:∀base:Heap,K.In base->base.Ns pZ mg->(∀t∈tb,base.BuiltinsAt mg t.1)->zk ⟨P,w,K,mg,base,tb⟩ k fa fd [x] F) (fF:∀(s:kW)(u:kL),DM s fd ⟨[u],[]⟩ [(x,u)]) (ev:F [.list (ns.map .int)]=some (.bool true)):
  gc (ε P w) GI (.call (.ref fa) ⟨[.ref a],[]⟩) (λr s'=>r=.ok (.ret (.bool true))/\OldK s.heap s'.heap/\s'.os=s.os/\DI s'.gens) s:=by
 have tn:∀{b o},s.heap.get? b=some o->o.data≠.fields #[]->b∉tb.map pH:=λe n z=>by
  obtain⟨t,m,rfl⟩:=ki.mp z;rw[(hT t m).1] at e;cases e;exact n rfl
 have bo:∀{b o},s.heap.get? b=some o->o.data≠.fields #[]->(gM s.heap (tb.map pH)).get? b=some o:=λe n=>EQ _ e (tn e n);have PX:∀{b:Addr}{m:Str->Option kL},s.heap.Ns b m->(gM s.heap (tb.map pH)).Ns b m:=λ⟨o,es,ep,e,d,r⟩=>⟨o,es,ep,bo e (by rw[d];exact nofun),d,r⟩
 have hK:K.In (gM s.heap (tb.map pH)):=λb o e=>EQ _ (KX b o e) λz=>by
  obtain⟨t,m,rfl⟩:=ki.mp z;rw[(hT t m).2.1] at e;cases e
 have hM:Mod K mg (gM s.heap (tb.map pH)):=⟨hK,PX md,⟨mb,PX hb,hbb⟩,let⟨mc,h1,h2⟩:=S5;⟨mc,PX h1,h2⟩⟩;have hB:∀t∈tb,(gM s.heap (tb.map pH)).BuiltinsAt mg t.1:=λt m=>by
  obtain⟨bm,ob,b1,b2,b3,b4,b5,b6⟩:=hbm;refine⟨bm,ob,b1,b2,λq=>?_,λq=>?_,bo b3 (by rw[b6];exact nofun),b4,b5,b6⟩
  ·obtain⟨o,es,ep,e,d,_⟩:=md;rw[<-q,b3] at e;cases e;rw[b6] at d;cases d
  ·rw[q,(hT t m).1] at b3;cases b3;cases b4
 have e0:E0 ⟨P,w,K,mg,gM s.heap (tb.map pH),tb⟩ (λa=>a∈tb.map pH) s:=⟨hM,.of_eq hg,λb o e=>PySem.W.of_hideAll _ e,λb z=>PySem.W.hideAll_none _ z,λb⟨t,m,e⟩=>ki.mpr ⟨t,m,e⟩,λt m=>⟨#[],(hT t m).1,trivial,.inl rfl⟩,λb z=>by
  obtain⟨t,m,rfl⟩:=ki.mp z;exact⟨_,(hT t m).1⟩⟩
 refine US ((hF _ hK (PX md) hB).run GI _ s ⟨[.ref a],[]⟩ [.ref a] _ _ hr e0 (fF s (.ref a)) (.cons ?_ .nil) ev) λr s'⟨u,e,t,e1,ru⟩=>?_
 ·rw[R];exact⟨a,vs,0,rfl,tn ha nofun,ha,by rw[hi.length];exact hl,ZH hi⟩
 ·rw[R] at ru;subst e ru;refine⟨rfl,⟨λb o e=>?_,t.ex⟩,t.os,e1.ge⟩
  by_cases z:b∈tb.map pH
  ·obtain⟨y,m,rfl⟩:=ki.mp z;have e1:=(hT y m).1;rw[e] at e1;cases e1;obtain⟨more,e2⟩:=t.tg y.1 #[] ⟨y,m,rfl⟩ e;exact .inr (.inl ⟨(hT y m).2.2,rfl,#[],more,rfl,e2⟩)
  ·exact .inl (t.kp b o e id λ⟨y,m,q⟩=>z (ki.mpr ⟨y,m,q⟩))
def walk_ofN{l:GD}{n k:Nat}{q:QT}{iB:List Str}{XP:(Str->Option kL)->Heap->Prop}{YP:World->Heap->Prop}{d:DefRec}{K:Params->QM}{F:List Dt->Option Dt}{x:Str}{ds:List Str}
  (hn:l.most=some n)(SO:n<=ψ)(S4:d.params.defaults=[])(hr:zD k GI)(hY:∀(w:World)(h:Heap),YP w h->(K w.params).In h)(hD:∀y,y∈ds->∃e,(recsOf q).find? (λe=>e.name==y)=some e)
  (hF:∀(w:World)(mg:Str->Option kL)(fa:Addr)(h:Heap),(K w.params).In h->h.Ns pZ mg->mg d.name=some (.ref fa)->
   ∃(fd:uz)(tb:List (Addr×Pos×Str)),(∀t∈tb,(K w.params).lookup t.1=none/\∃y c,y∈ds/\Cm (K w.params) y=some (c,t.1))/\(∀(s:kW)(u:kL),DM s fd ⟨[u],[]⟩ [(x,u)])/\
    ∀base:Heap,(K w.params).In base->base.Ns pZ mg->(∀t∈tb,base.BuiltinsAt mg t.1)->zk ⟨l.prog,w,K w.params,mg,base,tb⟩ k fa fd [x] F)
  (ev:∀ns:List Int,ns.length<=n->F [.list (ns.map .int)]=some (.bool true)):PySem.W.WalkO q iB XP YP l.row.toRowW d [] (λf vs=>GQ f vs):=by
 refine Att.attach_call hn S4 λw p6 aW mg mb fa o pm cd doc a vs ns G Y ho hd cE Ob IE mh bW hg=>?_;have KX:=hY w _ Y;obtain⟨fd,tb,ht,hb,hF⟩:=hF w mg fa _ KX G.T.g Ob;refine zb8 (tb:=tb) KX G.T.g G.T.b G.T.builtins G.T.nolimit hg IE mh (uR bW SO) hr (λt m=>?_) G.T.bmain hF hb (ev ns bW);obtain⟨hk,y,c,hy,e⟩:=ht t m;obtain⟨r,PY⟩:=hD y hy;obtain⟨C,hP⟩:=PySem.W.tab_of G.T KX PY e;exact⟨hP,hk,(C.tab hP).isCodeTable⟩
noncomputable def nmE:Expr->Str
 |.Name x _=>x
 |_=>""
noncomputable def PZ:Expr->List Str
 |.Name x _=>[x]
 |.Tuple es _ _=>es.map nmE
 |_=>[]
section
variable{X:Cx}{scope:Scope}{tg a9 dG:Expr}{cQ:List Expr}{ix:List Nat}{k:Nat}{it:En->Option (List Dt)}{h:Dt->En->Option En}{c:En->Option Bool}{e f g:En->Option Dt}{pos:Pos}{m:Bool}{js:List Nat}{o:Expr}
noncomputable def P4(eZ:Scope)(N:List Str)(scope:Scope)(ix:List Nat):Bool:=scope.kind==.function&&(decide (∀y∈scope.names,y.2≠AX)&&decide (∀y∈scope.names,y.2=NameKind.local->scope.names.lookup y.1=some .local)&&decide (∀y∈scope.names,y.2=uZ->eZ.names.lookup y.1=some .cell\/eZ.names.lookup y.1=some .free)&&decide (∀i∈ix,i<N.length/\scope.names.lookup (N.getD i "")=some .free))
def tU{eZ:Scope}{N own:List Str}(k:scope.kind=.function)(h:P4 eZ N scope ix=true):qx eZ N scope own ix:=by
 unfold P4 at h;simp only[pO,decide_eq_true_eq] at h;exact⟨k,h.2.1.1.1,h.2.1.1.2,h.2.1.2,h.2.2⟩
def IF(hi:PI X true tg a9 it)(hb:qG X scope (PZ tg) ix tg cQ dG h c e)(kk:scope.kind=.function:=by rfl)(S:P4 X.env.scope X.N scope ix=true:=by kernel_rfl)(hk:(PZ tg).length=k:=by rfl)(hs:∀x,Ui a9 X.env x=pure x:=by intro _;rfl):PF X (.ListComp dG [⟨tg,a9,cQ,0⟩] scope pos) (ao k ix it h c e):=by
 subst hk;exact Ht _ ix hi hb (tU kk S) rfl rfl hs
def IG(i:Nat){x:Str}{a8 lR:Pos}(hi:PI X true tg a9 it)(hb:qG X scope (PZ tg) ix tg cQ dG h c e)(nd:decide X.N.Nodup=true:=by kernel_rfl)(kk:scope.kind=.function:=by rfl)(S:P4 X.env.scope X.N scope ix=true:=by kernel_rfl)(hk:(PZ tg).length=k:=by rfl)(RE:X.N[i]?=some x:=by rfl)(hx:X.env.scope.names.lookup x=some .local\/(X.fn=true/\X.env.scope.names.lookup x=some .cell):=by first|exact .inl rfl|exact .inr ⟨rfl,rfl⟩)
  (cM:QY (.ListComp dG [⟨tg,a9,cQ,0⟩] scope pos) (some (.Name x a8)) lR.line X.env=pure true:=by rfl) (hs:∀x,Ui a9 X.env x=pure x:=by intro _;rfl):PS X (.Assign [.Name x a8] (.ListComp dG [⟨tg,a9,cQ,0⟩] scope pos) lR) (aU i (ao k ix it h c e)):=by
 subst hk;exact Hu i (yk nd) _ ix hi hb (tU kk S) rfl rfl RE hx cM hs
def hvG(h:PE X m o (wK js f g)):PE X m o (wK js f g):=h
end
noncomputable def xM:List Dt->Option Dt
 |[.bool b]=>some (.int (if b=true then 1 else 0))
 |_=>none
noncomputable def jV(j:Int)(d:Dt)(xs:List Dt):List Dt:=xs.take j.toNat++d::xs.drop j.toNat
noncomputable def jQ(i:Nat)(g f:En->Option Dt):En->Option Ou:=λZ=>(g Z).bind λk=>(f Z).bind λd=>(Pl k).bind λjo=>((Z[i]?).bind iq).bind λx=>if 0<=jo.getD (-1)/\jo.getD (-1)<=x.2.length/\x.2.length<ψ then some (.nx (Z.set i (.ow x.1 1 (.list (jV (jo.getD (-1)) d x.2))))) else none
noncomputable def IH(f:En->Option Dt):En->Option Dt:=λZ=>(f Z).bind λd=>(fJ d).bind λds=>some (.list ds.reverse)
section
variable{X:Cx}{B:AP}{π:Addr}{Z:En}{ow:Os}{s:kW}{m:Bool}{e:Expr}{es:List Expr}{f g:En->Option Dt}{ga:En->Option (List Dt)}{p pos:Pos}{x:Str}{i:Nat}{xp aR aF:Pos}{k:List Dt->Option Dt}{T:String}
def S6(hz:ZC X (.type T) k)(hg:Gl X x)(hm:X.mg x=none)(hv:uD x=some (.type T))(ha:PA X true (e::es) ga)(hn:x≠"__name__":=by decide)(dZ:(x==("__debug__":Str))=false:=by decide)(he:kh (e::es) X.env=(false,eval e X.env)::kh es X.env:=by rfl)(hpl:(ub pos (kh es X.env)).any (·.1)=false:=by rfl):PE X m (.Call (.Name x p) (e::es) [] pos) (aj k ga):=λB π Z ow s d I q=>by
 obtain⟨ds,q1,q⟩:=kA.mp q;refine uV (xu I hg hm hv ?_ hn dZ);exact UU (av (ha pos B π Z ow s ds I q1) λus s1⟨t,r⟩=>av (hz B π Z ow s1 ds d us t.1 q r) λv s2⟨t2,r⟩=>⟨t.trans t2,.of r⟩) he hpl
def II:ZC X (.type "int") xM:=λB π Z ow s ds d us I q r=>by
 unfold xM at q
 split at q<;>cases q
 obtain⟨u,rfl,r1⟩:=eX r
 cases r1.bl;exact call_int_bool ⟨I.tok _,.int⟩
def p7(hg:Gl X "int")(hm:X.mg "int"=none)(ha:PA X true (e::es) ga)(he:kh (e::es) X.env=(false,eval e X.env)::kh es X.env:=by rfl)(hpl:(ub pos (kh es X.env)).any (·.1)=false:=by rfl):PE X m (.Call (.Name "int" p) (e::es) [] pos) (aj xM ga):=S6 II hg hm bt_int ha (he:=he) (hpl:=hpl)
theorem p8(i:Nat){k0:Expr}(hz:PE X false k0 g)(he:PE X false e f)(n0:NS k0:=by intro _ _;rfl)(n:NS e:=by intro _ _;rfl)(M:Nm X i x:=by exact⟨yk (by kernel_rfl),rfl,by decide,by decide⟩)(T:Mt X (.Name x xp) "insert" [k0,e] aR aF:=by exact⟨rfl,rfl,rfl,_,_,rfl,rfl⟩)
  (cM:QY (.Call (.Attribute (.Name x xp) "insert" aR) [k0,e] [] aF) none pos.line X.env=pure false:=by rfl):PS X (.Expr (.Call (.Attribute (.Name x xp) "insert" aR) [k0,e] [] aF) pos) (jQ i g f):=λB π Z ow s o I q=>by
 obtain⟨kd,q0,qa⟩:=kA.mp q;clear q;obtain⟨d,q1,qb⟩:=kA.mp qa;clear qa;obtain⟨jo,qk,qc⟩:=kA.mp qb;clear qb;obtain⟨⟨io,ds⟩,q2,qd⟩:=kA.mp qc;clear qc
 cases kd<;>cases qk
 rename_i j
 split at qd<;>cases qd
 rename_i lq
 obtain⟨l0,l1,lq⟩:=lq
 change 0<=j at l0;change j<=ds.length at l1;change ds.length<ψ at lq
 refine Wy M Cn PySem.F.type_list_insert (bY hz (bY he cF n) n0) T cM I (zs:=[.int j,d]) (by show(g Z).bind _=_;rw[q0];show(aa f ae Z).bind _=_;rw[c1 q1];rfl) q2 λp us vs n s2 t hp r e l rs=>?_
 obtain⟨u,v,rfl,ru,rv⟩:=M7 r;obtain⟨tk,rfl⟩:=RT.int (.inl ru);have hl:=rs.len;have fit:¬(!Builtin.List.listFitsIndex j)=true:=by
  have:=cU;have:j<2^63:=by lia
  unfold Builtin.List.listFitsIndex
  simp
  lia
 refine BV Cn ⟨_,e,rfl⟩ PySem.F.entry_list_insert (PySem.F.args_list_insert_3 _ _ _) (AutoSeq1.list_insert_list_int_val_1 p vs.toArray n j tk v fit (by rw[pA];lia)) ⟨e,?_⟩
 have jn:(if j<0 then(j+(vs.toArray.size:Int)).toNat else min j.toNat vs.toArray.size)=j.toNat:=by rw[η (by lia),pA];lia
 obtain⟨w,k⟩:=t.1.lset (t':=s2.toks) (us:=vs.take j.toNat++v::vs.drop j.toNat) M q2 hp e (f:=λxs=>(xs.extract 0 (if j<0 then(j+xs.size).toNat else min j.toNat xs.size)).push v++xs.extract (if j<0 then(j+xs.size).toNat else min j.toNat xs.size)) (by rw[jn];simp;rw[BJ (by rw[UC];lia)]) (show Rs X.toGx (X.O B ow) s2.heap (jV j d ds) _ from(rs.take _).app (.cons rv (rs.drop _))) (by rw[kb,ku,uC,UC];lia)
 exact⟨w,t.sq.trans k⟩
noncomputable def jL(f:En->Option Dt):En->Option Dt:=λZ=>(f Z).bind λd=>(fJ d).bind λds=>(zn yN ds).bind λns=>match ns with
 |[]=>none
 |n::ns=>some (.int (iJ (n::ns) 0))
theorem p9(hg:Gl X "max")(hm:X.mg "max"=none)(h1:PE X true e f)(n1:NS e:=by intro _ _;rfl)(he:kh [e] X.env=(false,eval e X.env)::kh [] X.env:=by rfl)(hpl:(ub pos (kh [] X.env)).any (·.1)=false:=by rfl):PE X m (.Call (.Name "max" p) [e] [] pos) (jL f):=λB π Z ow s d I q=>by
 obtain⟨d0,q1,q⟩:=kA.mp q;obtain⟨ds,q2,q⟩:=kA.mp q;obtain⟨ns,q3,q⟩:=kA.mp q
 cases d0<;>cases q2
 cases ns with
 |nil=>cases q
 |cons n ns=>
  cases q;refine uV (xu I hg hm bt_max ?_);refine UB (av ((bY h1 cF n1) pos B π Z ow s [_] I (by rw[show aa f ae Z=(f Z).bind _ from rfl,q1];rfl)) λus s1 hw=>?_) he hpl
  obtain⟨t1,r⟩:=hw;obtain⟨u,rfl,r1⟩:=eX r;obtain⟨l,vs,nn,rfl,el,_,rs⟩:=r1.lst;have ia:=jS q3 rs;have il:s1.heap.IsList l vs.toArray:=⟨_,el,rfl,nn,rfl⟩;obtain⟨xs,ex⟩:=ia.allInts.items;rw[ex] at il;have nx:(n::ns)=xs.toList.map (·.1):=by rw[<-nums_intItems,<-ex];exact ia.numsOf.symm
  have sz:0<xs.size:=by
   have:=υ CX nx
   simp at this
   lia
  refine max_intList I.ok.hd il sz λv h' tk hv hk=>?_;obtain⟨t,rfl⟩:=intItems_at hv;obtain⟨b1,b2⟩:=argBest_gt (numAt xs) (xs.size-1);have num:∀j,j<xs.size->numAt xs j∈n::ns:=λj hj=>by
   rw[nx];unfold numAt;rw[QP hj];exact ki.mpr ⟨xs[j],by simp,rfl⟩
  have all:∀a∈n::ns,∃j,j<xs.size/\numAt xs j=a:=λa ha=>by
   rw[nx] at ha;obtain⟨y,hy,rfl⟩:=ki.mp ha;obtain⟨j,hj,rfl⟩:=pW.mp hy;exact⟨j,by simpa using hj,by unfold numAt;rw[QP (by simpa using hj)];simp⟩
  have e:iJ (n::ns) 0=numAt xs (AL (λi j=>decide (numAt xs i>numAt xs j)) (xs.size-1)):=(Jd (λa ha=>by
   obtain⟨j,hj,rfl⟩:=all a ha;exact b2 j (by lia)) (.inl (num _ (by lia)))).symm
  rw[e];exact⟨t1.trans (t1.1.kept hk),.of .int⟩
theorem Jm{α:Type}:∀l:List α,(kN l.length).filterMap (l[·]?)=l
 |[]=>rfl
 |x::l=>by
  rw[ku,List.range_succ_eq_map,Bn,Ef];show x::(kN l.length).filterMap (λk=>(x::l)[k+1]?)=_;rw[show(λk=>(x::l)[k+1]?)=(l[·]?) from rfl,Jm l]
theorem ZQ{α β:Type}{f g:α->Option β}:∀{l:List α},(∀a∈l,f a=g a)->l.filterMap f=l.filterMap g
 |[],_=>rfl
 |a::l,h=>by rw[Bn,Bn,h a (by simp),ZQ λb hb=>h b (by simp[hb])]
theorem zb2(aS:List kL):FU aS.toArray none none (some (-1))=aS.reverse.toArray:=by
 have b:hU none none (some (-1)) aS.toArray.size=((aS.length:Int)-1,-1,-1):=by simp[hU]
 unfold FU;rw[b]
 congr 1
 show(sliceRange ((aS.length:Int)-1) (-1) (-1)).filterMap _=_
 unfold sliceRange;have c:(if(-1:Int)>0 then(if(aS.length:Int)-1< -1 then(-1-((aS.length:Int)-1)+ -1-1)/ -1 else 0) else(if(aS.length:Int)-1> -1 then((aS.length:Int)-1- -1- -1-1)/(- -1) else 0)).toNat=aS.length:=by
  rw[η (by decide)]
  rw[show(- -1:Int)=1 from rfl,Int.ediv_one]
  split<;>lia
 dsimp only;rw[c,Ef];rw[<-Jm aS.reverse,AS];refine ZQ λk hk=>?_;have hk:=kn.mp hk;show aS.toArray[((aS.length:Int)-1+ -1*(k:Int)).toNat]?=_;rw[show((aS.length:Int)-1+ -1*(k:Int)).toNat=aS.length-1-k by lia,Dl hk]
 simp
def Oc{st:Expr}{p2:Pos}(he:PE X true e f)(hs:PE X true st (d1 yC (dC (.int 1)))):PF X (.Subscript e (.Slice none none (some st) p2) pos) (IH f):=λB π Z ow s d I q=>by
 obtain⟨d0,q1,qa⟩:=kA.mp q;obtain⟨ds,q4,qb⟩:=kA.mp qa
 cases qb
 cases d0<;>cases q4
 clear q qa;refine By (av (he B π Z ow s _ I q1) λv s1⟨t1,r1⟩=>Fj (av (ot B π Z ow s1 none t1.1 rfl) λvl s2⟨t2,pl⟩=>av (ot B π Z ow s2 none t2.1 rfl) λvu s3 hw=>?_));obtain⟨t3,pu⟩:=hw;refine av (HU hs B π Z ow s3 (some (-1)) t3.1 rfl) λPJ s4 hw=>?_;obtain⟨t5,ps⟩:=hw;have t4:=t5.1.kept (t':=s4.toks) λb ob q=>kK {cls:=.type "slice",data:=.fields #[vl,vu,PJ]} q;obtain⟨p,vs,n,rfl,e',lz,rs⟩:=(RT.st r1 t1.1 (((t2.trans t3).trans t5).trans t4).2).lst;have il:(s4.heap.push {cls:=.type "slice",data:=.fields #[vl,vu,PJ]}).IsList p vs.toArray:=⟨_,e',rfl,n,rfl⟩;show δ _ _ (Bb _ (.Slice none none (some st) p2) (.ref p) (.ref s4.heap.objs.size)) _ _ _;refine tail_any (ops:=[.ref p,.ref s4.heap.objs.size]) il.typeIs As.lookup (Ch il (CI ..) pl pu ps (by simp) ?_ (by simpa using lz)) (by with_unfolding_all rfl)
 rw[zb2];have tt:=(((t1.trans t2).trans t3).trans t5).trans t4;obtain⟨t6,p,e,n,r⟩:=t4.1.lnew (t':=s4.toks) (n:=0) (us:=vs.reverse) (ds:=ds.reverse) rs.rev (by rw[AS];exact lz) (λb o=>kK (L2.lo vs.reverse 0)) cP (ke _ rfl)
 exact⟨tt.trans t6,p,e,tt.2.free n,r⟩
end
noncomputable def y6:List Dt->Option Dt
 |[.list ds]=>(zn fP ds).bind λbs=>some (.bool (bs.all id))
 |_=>none
noncomputable def wH:List Dt->Option Dt
 |[.list ds]=>(zn fP ds).bind λbs=>some (.bool (bs.any id))
 |_=>none
noncomputable def xT:Dt->Dt->Option Dt
 |.tuple ds,.int a=>if 1<=a/\a<=ds.length then some (.tuple (ds.drop a.toNat)) else none
 |_,_=>none
noncomputable def tV(f:En->Option Dt):En->Option Ou:=λZ=>(f Z).bind λ_=>some (.nx Z)
noncomputable def bw(i:Nat)(f:En->Option Dt):En->Option Dt:=λZ=>((Z[i]?).bind as2).bind λx=>(f Z).bind λk=>(yU x.2 k).bind λj=>(yx x.2)[j]?
noncomputable def jp(i:Nat)(g:En->Option Dt):En->Option Dt:=λZ=>((Z[i]?).bind as2).bind λx=>(g Z).bind λy=>bZ x.2 y
noncomputable def qD(i:Nat)(g:En->Option (List Dt)):En->Option Ou:=λZ=>(g Z).bind λds=>if ds.length<=ψ then some (.nx (Z.set i (.ow false 2 (.list ds)))) else none
noncomputable def IJ(i:Nat):Ou->Option Dt
 |.nx Z=>(Z[i]?).bind λs=>match s with
  |.ow false 1 d=>some d
  |_=>none
 |_=>none
noncomputable def jb(n k i:Nat)(f:En->Option Ou):List Dt->Option Dt:=λds=>if ds.length=k then(f (ds.map Sl.rd++Aq (n-k) .un)).bind (IJ i) else none
theorem X4{G:Gx}{O:AP}{h:Heap}:∀{ds:List Dt}{vs:List kL}{bs:List Bool},zn fP ds=some bs->Rs G O h ds vs->vs=bs.map AI
 |[],vs,bs,e,r=>by cases e;rw[Rs] at r;exact r
 |d::ds,vs,bs,e,r=>by
  obtain⟨b,e1,e⟩:=kA.mp e;obtain⟨cs,e2,e⟩:=kA.mp e
  cases e;rw[Rs] at r;obtain⟨v,r,rfl,h1,h2⟩:=r
  cases d<;>cases e1
  rw[R] at h1;rw[h1,X4 e2 h2];rfl
def zcn(bs:List Bool):((kN bs.length).all λi=>bs.getD i false)=bs.all id:=by
 rw[QL,uS,uS]
 constructor
 ·intro h b hb;obtain⟨i,hi,e⟩:=pW.mp hb;have:=h i (kn.mpr hi);rw[kE,kC hi,e] at this;exact this
 ·intro h i hi;have hi:=kn.mp hi;rw[kE,kC hi];exact h _ (pi _)
def zco(bs:List Bool):((kN bs.length).any λi=>bs.getD i false)=bs.any id:=by
 rw[QL,Uu,Uu]
 constructor
 ·rintro⟨i,hi,h⟩;have hi:=kn.mp hi;rw[kE,kC hi] at h;exact⟨_,pi _,h⟩
 ·rintro⟨b,hb,h⟩;obtain⟨i,hi,e⟩:=pW.mp hb;refine⟨i,kn.mpr hi,?_⟩;rw[kE,kC hi,e];exact h
theorem Vz{prog:QT}{w:World}{A:QF}(bs:List Bool):TruthOf prog w A (λi v=>(bs.map AI).toArray[i]?=some v) λi=>bs.getD i false:=by
 intro i v s' Q' E' hv hq;have hv:(bs.map AI)[i]?=some v:=by simpa using hv
 rw[kY] at hv
 cases e:bs[i]? with
 |none=>rw[e] at hv;cases hv
 |some b=>
  rw[e] at hv
  cases hv;have hq:Q' (bs.getD i false) s':=hq;rw[kE,e] at hq;exact uj hq
section
variable{X:Cx}{B:AP}{π:Addr}{Z:En}{ow:Os}{s s':kW}{m:Bool}{e:Expr}{es:List Expr}{f g:En->Option Dt}{ga:En->Option (List Dt)}{p pos a8 xp:Pos}{x:Str}{i:Nat}{k:Expr}{fk:En->Option Dt}
theorem Od:ZC X (.builtin "all") y6:=λB π Z ow s ds d us I q r=>by
 unfold y6 at q
 split at q<;>try cases q
 rename_i ds
 obtain⟨bs,e1,e2⟩:=kA.mp q
 cases e2;obtain⟨u,rfl,r1⟩:=eX r;obtain⟨l,vs,n,rfl,el,_,rs⟩:=r1.lst;have ev:=X4 e1 rs;subst ev;have il:s.heap.IsList l (bs.map AI).toArray:=⟨_,el,rfl,n,rfl⟩;have ne:l≠s.heap.objs.size:=ut (po el);refine call_all_walk (gZ il ⟨s.heap.objs.size,_,_,_,_,_,λi=>bs.getD i false,rfl,GR (show X.A.in1.handled=none from I.ok.hd) _ l ne (bs.map AI).toArray,⟨⟨_,ke _ rfl,rfl,rfl⟩,il.push _⟩,Vz bs,λg tk kk=>?_⟩);have en:(bs.map AI).toArray.size=bs.length:=by simp
 rw[en,zcn];refine⟨I.kept (t':=tk) λb o e=>kk b o ?_ (kK _ e),.bl⟩;intro z;have z:b=s.heap.objs.size:=by simpa using z
 exact absurd (po e) (by rw[z];exact EX _)
theorem Oe:ZC X (.builtin "any") wH:=λB π Z ow s ds d us I q r=>by
 unfold wH at q
 split at q<;>try cases q
 rename_i ds
 obtain⟨bs,e1,e2⟩:=kA.mp q
 cases e2;obtain⟨u,rfl,r1⟩:=eX r;obtain⟨l,vs,n,rfl,el,_,rs⟩:=r1.lst;have ev:=X4 e1 rs;subst ev;have il:s.heap.IsList l (bs.map AI).toArray:=⟨_,el,rfl,n,rfl⟩;have ne:l≠s.heap.objs.size:=ut (po el);refine call_any_walk (gZ il ⟨s.heap.objs.size,_,_,_,_,_,λi=>bs.getD i false,rfl,GR (show X.A.in1.handled=none from I.ok.hd) _ l ne (bs.map AI).toArray,⟨⟨_,ke _ rfl,rfl,rfl⟩,il.push _⟩,Vz bs,λg tk kk=>?_⟩);have en:(bs.map AI).toArray.size=bs.length:=by simp
 rw[en,zco];refine⟨I.kept (t':=tk) λb o e=>kk b o ?_ (kK _ e),.bl⟩;intro z;have z:b=s.heap.objs.size:=by simpa using z
 exact absurd (po e) (by rw[z];exact EX _)
def bt_all:uD "all"=some (.builtin "all"):=by decide+kernel
def bt_any:uD "any"=some (.builtin "any"):=by decide+kernel
def IL(hg:Gl X "all")(hm:X.mg "all"=none)(ha:PA X true (e::es) ga)(he:kh (e::es) X.env=(false,eval e X.env)::kh es X.env:=by rfl)(hpl:(ub pos (kh es X.env)).any (·.1)=false:=by rfl):PE X m (.Call (.Name "all" p) (e::es) [] pos) (aj y6 ga):=LF Od hg hm bt_all ha (he:=he) (hpl:=hpl)
def IM(hg:Gl X "any")(hm:X.mg "any"=none)(ha:PA X true (e::es) ga)(he:kh (e::es) X.env=(false,eval e X.env)::kh es X.env:=by rfl)(hpl:(ub pos (kh es X.env)).any (·.1)=false:=by rfl):PE X m (.Call (.Name "any" p) (e::es) [] pos) (aj wH ga):=LF Oe hg hm bt_any ha (he:=he) (hpl:=hpl)
theorem re{st:Expr}{p2:Pos}(he:PE X true e f)(hl:PE X true st g):PE X m (.Subscript e (.Slice (some st) none none p2) pos) (d2 xT f g):=λB π Z ow s d I q=>by
 obtain⟨d0,q1,qa⟩:=kA.mp q;obtain⟨d1,q2,qb⟩:=kA.mp qa;clear q qa;unfold xT at qb
 split at qb
 case h_2=>cases qb
 rename_i ds a
 split at qb<;>cases qb
 rename_i ha
 refine By (av (he B π Z ow s _ I q1) λv s1⟨t1,r1⟩=>Fj (av (HU hl B π Z ow s1 (some a) t1.1 (by show(g Z).bind _=_;rw[q2];rfl)) λvl s2 hv=>?_))
 obtain⟨t2,pl⟩:=hv;refine av (ot B π Z ow s2 none t2.1 rfl) λvu s3 hw=>?_;obtain⟨t3,pu⟩:=hw;rw[ET];refine kR ?_
 cases pu;have:∃tk,vl=.int a tk:=by cases pl;exact⟨_,rfl⟩
 obtain⟨tk,rfl⟩:=this;have t4:=t3.1.kept (t':=s3.toks) λb ob q=>kK {cls:=.type "slice",data:=.fields #[.int a tk,.none,.none]} q;obtain⟨p,vs,rfl,np,it,lz,rs⟩:=(RT.st r1 t1.1 ((t2.trans t3).trans t4).2).tup;have hl:=rs.len;have ea:a=((a.toNat:Nat):Int):=by lia
 show δ _ _ (Bb _ (.Slice (some st) none none p2) (.ref p) (.ref s3.heap.objs.size)) _ _ _
 refine tail_any (ops:=[.ref s3.heap.objs.size,.ref p]) it.typeIs Ec.lookup (getItem_tuple_from (a:=a.toNat) (u:=tk) it (by rw[<-ea];exact CI ..) (by lia) (by rw[pA];lia) ?_ (by simpa using lz)) (by with_unfolding_all rfl)
 have tt:=(t1.trans (t2.trans t3)).trans t4;have t5:=t4.1.kept (t':=s3.toks) λb o=>kK {cls:=.type "tuple",data:=.seq (vs.toArray.toList.drop a.toNat).toArray};refine⟨tt.trans t5,.of ?_⟩;rw[R];refine⟨_,vs.drop a.toNat,rfl,t4.1.fresh,?_,by rw[UC];lia,Rs.go (t4.1.gd t5.2) _ _ (rs.drop _)⟩
 have:=Gn (s3.heap.push {cls:=.type "slice",data:=.fields #[.int a tk,.none,.none]}) (vs.drop a.toNat).toArray
 simpa using this
def Of(he:PE X true e f)(cM:QY e none pos.line X.env=pure false:=by rfl):PS X (.Expr e pos) (tV f):=λB π Z ow s o I q=>by
 obtain⟨d,q1,z⟩:=kA.mp q
 cases z;exact Ax (av (he B π Z ow s d I q1) λv s1⟨t,r⟩=>⟨ow,t.sq⟩) I.quiet cM
def rf{i:Int}(hg:Gl X x)(hm:∃t,X.mg x=some (.int i t))(hd:(x==("__debug__":Str))=false:=by decide):PE X m (.Name x pos) (dC (.int i)):=λB π Z ow s d I q=>by
 cases q;obtain⟨t,hm⟩:=hm;exact qM I hg hm ⟨I.sx,.of .int⟩ hd
def Og{a b:Expr}{bz:List Expr}(ha:PE X true a f)(hb:PE X m (.BoolOp .Or (b::bz) pos) g):PE X m (.BoolOp .Or (a::b::bz) pos) (Ls f g):=λB π Z ow s d I q=>by
 obtain⟨k,qa,q⟩:=kA.mp q;obtain⟨x,qa,z⟩:=kA.mp qa;refine BoolOp_or (av (ha B π Z ow s x I qa) λv s1 hw=>?_);obtain⟨t,r⟩:=hw
 cases x<;>cases z
 rw[r.bl];refine uj ?_
 cases k
 ·exact av (hb B π Z ow s1 d t.1 q) λ_ _⟨t2,r⟩=>⟨t.trans t2,r⟩
 ·cases q;exact⟨t,.of .bl⟩
end
structure P5(G:Gx)(k:Nat)(f:Addr)(fd:uz)(ps:List Str)(F:List Dt->Option Dt):Prop where
 len:∀ds d,F ds=some d->ds.length=ps.length
 run:∀A B s args us ds d,zD k A->E0 G B s->DM s fd args (ps.zip us)->Uo (RT G B s.heap) ds us->F ds=some d->gc (ε G.P G.w) A (.call (.ref f) args) (λr s'=>∃p,r=.ok (.ret (.ref p))/\St G bG s s'/\E0 G B s'/\s.heap.get? p=none/\Top G (λa=>B a\/a=p) s'.heap (Rs G (λa=>B a\/a=p) s'.heap) d p) s
noncomputable def tW(G:Gx)(N:List Str)(qual:Str)(scope:Scope)(f:Addr)(cd:kL)(A:QF)(a:Addr)(rb:AP):Cx where
 toGx:=G
 A:=A.deeper (Ur qual scope a f cd)
 N:=N
 env:=Ur qual scope a f cd
 fn:=true
 rb:=rb
def PSr(X:Cx)(st:List Stmt)(i:Nat)(f:En->Option Ou):Prop:=∀B π Z ow s ρ' d,Inv X B π Z ow s->f Z=some (.nx ρ')->ρ'[i]?=some (.ow false 1 d)->δ (ε X.P X.w) X.A (execs st X.env) (λfl s'=>∃aJ p,fl=.ret (.ref p)/\Sq X B π ow s ρ' aJ s'/\RW X.toGx (X.O B aJ) s'.heap (aJ i) 1 d p) nE s
section
variable{X:Cx}{B:AP}{π:Addr}{Z:En}{ow:Os}{s s':kW}{m:Bool}{e:Expr}{es:List Expr}{f g:En->Option Dt}{ga:En->Option (List Dt)}{p pos a8 xp:Pos}{x:Str}{i:Nat}{k:Expr}{fk:En->Option Dt}{st:Stmt}{bz:List Stmt}{F H:En->Option Ou}
def rg(hN:X.N[i]?=some x:=by rfl)(hd:(x==("__debug__":Str))=false:=by decide)(cE:(x==("__classdict__":Str))=false:=by decide):PSr X [.Return (some (.Name x xp)) pos] i aO:=λB π Z ow s ρ' d I q e=>by
 cases q;obtain⟨mm,hn,k⟩:=I.look hN e;obtain⟨p,l,_,r⟩:=k;exact uw (CW (BT (ld I hn l ⟨ow,p,rfl,.refl I,r⟩ cE) hd))
def mj(h1:PS X st F)(h2:PSr X bz i H):PSr X (st::bz) i (ag F H):=λB π Z ow s ρ' d I q e=>by
 obtain⟨o1,q1,q⟩:=kA.mp q;refine uw (av (h1 B π Z ow s o1 I q1) λfl s1 k=>?_)
 cases o1<;>cases fl<;>first|exact k.elim|(cases q;done)|skip
 obtain⟨w,k⟩:=k;exact av (h2 B π _ w s1 ρ' d k.1 q e) λ_ _⟨w',p,z1,z2,z3⟩=>⟨w',p,z1,k.trans z2,z3⟩
end
theorem IN{F:Dt->kL->Prop}{ds:List Dt}{us:List kL}(r:Uo F ds us):∀{i:Nat}{d:Dt},ds[i]?=some d->∃u,us[i]?=some u/\F d u:=by
 induction r with
 |nil=>intro i d e;simp at e
 |cons h _ ih=>
  intro i d e
  cases i with
  |zero=>cases e;exact⟨_,rfl,h⟩
  |succ i=>exact ih (i:=i) e
section
variable{G:Gx}{B rb:AP}{N ps:List Str}{qual x:Str}{scope:Scope}{f:Addr}{cd:kL}{A:QF}{s s1:kW}{us:List kL}{π:Addr}{ρ0 ρ':En}{st:Stmt}{fd:uz}{k i:Nat}{args:Args}{fs:En->Option Ou}{o:Ou}{d:Dt}{ds:List Dt}
theorem zak(Sc:zi N ps scope)(hd:A.handled=none)(e0:E0 G B s)(hl:ρ0.length=N.length)(hrb:∀a,rb a->B a)
  (arg:∀i sl,ρ0[i]?=some sl->sl=.un\/i<ps.length/\∃u d,us[i]?=some u/\sl=.rd d/\RT G B s.heap d u/\∀p,u=.ref p->B p->rb p)
  (x:InCallC s s.heap.objs.size (bindL (Ur qual scope s.heap.objs.size f cd).kindOf (ps.zip us) λ_=>none) (EM (s.heap.objs.size+1) scope.names []) (bindC (Ur qual scope s.heap.objs.size f cd).kindOf (ps.zip us) λ_=>none) s1):
  Inv (tW G N qual scope f cd A s.heap.objs.size rb) B π ρ0 i7 s1:=by
 obtain⟨h1,tk,rfl,hk⟩:=x.done;have nw:∀a,(a=s.heap.objs.size\/(tW G N qual scope f cd A s.heap.objs.size rb).cel a)->s.heap.get? a=none:=λa z=>by
  rcases z with rfl|⟨y,z⟩
  ·exact cP
  ·exact pU (gD (x.above y a (pg z)))
 have oi:∀{a},(tW G N qual scope f cd A s.heap.objs.size rb).O B i7 a->B a\/s.heap.get? a=none:=λz=>by
  rcases z with z|⟨_,z⟩|z
  ·exact .inl z
  ·exact z.elim
  ·exact .inr (nw _ z)
 have g:Gd B s.heap ((tW G N qual scope f cd A s.heap.objs.size rb).O B i7) h1:=λa o e n=>⟨hk a o e,λz=>(oi z).elim n λz=>by rw[z] at e;cases e⟩
 have M5:ps.Nodup:=by rw[<-Sc.pre];exact Sc.nd.sublist (Aw _ _)
 refine⟨⟨e0.mod,Sc.kind,rfl,rfl,λy z c h1 h2=>name_of_addr x.apart (pg h1) (pg h2),λy hy=>?_,hd⟩,e0.ge,λb o e=>hk b o (e0.base b o e),λa z=>(oi z).elim (e0.bo a) λz=>?_,e0.bt,λt m=>(e0.tb t m).go (λa z=>(oi z).imp id λz o e=>by rw[z] at e;cases e) (λb o e _=>hk b o e) λo e=>hk _ o e,λa z=>let⟨o,e⟩:=e0.bd a z;⟨o,hk a o e⟩,λa z=>?_,⟨_,x.toInCall.ns,λi y sl h2 h3=>?_⟩,λy c h=>⟨_,x.cell y c h⟩,hl,λi j a z1 z2=>z1.elim,λi a z=>z.elim⟩
 ·have hy:scope.names.lookup y=some .cell\/scope.names.lookup y=some .free:=hy;rcases hy with hy|hy
  ·exact YA hy
  ·exact absurd rfl (Sc.nofree _ (pg hy))
 ·cases q:G.base.get? a with
  |none=>exact q
  |some o=>rw[e0.base a o q] at z;cases z
 ·obtain⟨o,e⟩:=e0.bd a (hrb a z);exact⟨hrb a z,(λq=>by rw[nw a (.inl q)] at e;cases e),(λq=>by rw[nw a (.inr q)] at e;cases e)⟩
 ·rcases arg i sl h3 with rfl|⟨hi,u,d,hu,rfl,r,eh⟩
  ·trivial
  have hp:ps[i]?=some y:=by rw[<-Sc.pre,Ce hi];exact h2
  have l:zX (Ur qual scope s.heap.objs.size f cd) h1 (bindL (Ur qual scope s.heap.objs.size f cd).kindOf (ps.zip us) λ_=>none) y u:=by
   rcases Sc.par y (kg hp) with k|k
   ·exact .inl ⟨k,qf M5 hp hu k⟩
   ·obtain⟨c,e⟩:=YA (n:=s.heap.objs.size+1) k;refine .inr ⟨.inl k,c,e,?_⟩;have q:=x.cell y c e;rw[WI M5 hp hu (by show scope.names.lookup y≠_;rw[k];decide)] at q
    exact q
  exact⟨u,l,RT.go g (λp o _ e=>hk p o e) r,λp e z=>(oi z).elim (eh p e) λz=>by
   obtain⟨o,y⟩:=r.ex e;rw[z] at y;cases y⟩
theorem eV.okF(F:eV G.K x qual st f fd cd)(Sc:zi N ps (ze st))(hb:∀A a rb,zD k (A.deeper (Ur qual (ze st) a f cd))->PSr (tW G N qual (ze st) f cd A a rb) (yF st) i fs):P5 G (k+1) f fd ps (jb N.length ps.length i fs):=by
 refine⟨λds d h=>?_,λA B s args us ds d hr e0 hB r h=>?_⟩<;>unfold jb at h<;>split at h
 ·assumption
 ·cases h
 ·rename_i dl
  obtain⟨o,q,h⟩:=kA.mp h;unfold IJ at h
  split at h
  case h_2=>cases h
  rename_i ρ'
  obtain⟨sl,q2,h⟩:=kA.mp h
  split at h<;>cases h
  have hpl:ps.length<=N.length:=by have:=υ CX Sc.pre;rw[uC] at this;lia
  obtain⟨oc,od,kV,doc,pm,an,ct,tA,rfl,lk,cE⟩:=F.ex;have KX:G.K.In s.heap:=e0.mod.kin.keeps e0.base;have Hi:s.heap.NoLimit:=e0.mod.nolimit.keeps e0.base;have fu:∀y∈ps.zip us,(ze st).names.lookup y.1=some .local\/((ze st).names.lookup y.1=some .cell/\((EM (s.heap.objs.size+1) (ze st).names []).lookup y.1).isSome=true):=λ⟨n,v⟩ hy=>by
   rcases Sc.par n (Ac hy).1 with q|q
   ·exact .inl q
   ·exact .inr ⟨q,Av _ _ _ (.inl q)⟩
  refine BM hr.depth (KX _ _ lk) rfl Sc.co Sc.gen rfl (CF KX cE) (hB _ _ _ _ ?_);refine AA Sc.kind fu λenv he s1 x=>?_;subst he;refine⟨Hi.keeps x.toInCall.keep,Eo ?_⟩;have I:=zak (π:=0) (qual:=qual) (f:=f) (cd:=cd) (ρ0:=ds.map Sl.rd++Aq (N.length-ps.length) .un) (rb:=λa=>B a) Sc hr.hd e0 (by rw[kb,kJ,Qx];lia) (λa z=>z) (λi sl e=>by
   by_cases hi:i<ds.length
   ·rw[QH (by simpa using hi),kY] at e
    obtain⟨d,e1,rfl⟩:=uO.mp e;obtain⟨u,hu,ru⟩:=IN r e1;exact .inr ⟨by lia,u,d,hu,rfl,ru,λp _ z=>z⟩
   ·rw[uJ (by simpa using hi),Us] at e
    split at e<;>cases e
    exact .inl rfl) x
  have t0:St G bG s s1:=by obtain⟨h1,tk,rfl,hk⟩:=x.done;exact .keep hk
  have nw:∀a,(a=s.heap.objs.size\/(tW G N qual (ze st) f cd A s.heap.objs.size B).cel a)->s.heap.get? a=none:=λa z=>by
   rcases z with rfl|⟨y,z⟩
   ·exact cP
   ·exact pU (gD (x.above y a (pg z)))
  refine Qe (hb A _ B (hr.deeper _) B 0 _ i7 s1 ρ' d I q q2) (λfl s' hs=>?_) λe s' hs=>hs.elim;obtain⟨aJ,p,rfl,J,hS,top⟩:=hs;have op:aJ i p:=(hS p).mpr rfl;have np:s.heap.get? p=none:=(J.2.2 p ⟨i,op⟩).elim (λ⟨_,z⟩=>z.elim) λz=>t0.free z;have om:∀a,(B a\/a=p)->(tW G N qual (ze st) f cd A s.heap.objs.size B).O B aJ a:=λa z=>z.elim .inl λz=>.inr (.inl ⟨i,z▸op⟩);refine⟨p,rfl,t0.trans J.2.1 λa z=>.inr ?_,⟨e0.mod,J.1.ge,J.1.base,λa z=>e0.bo a z,e0.bt,λt m=>(J.1.tb t m).go (λa z=>.inl (.inl z)) (λ_ _ e _=>e) λ_ e=>e,λa z=>J.1.ex (.inl z)⟩,np,top.imp (Gd.less om) (λ_ e=>e) λ_ _=>Rs.go (Gd.less om) _ _⟩;rcases z with⟨_,z⟩|z|z
  ·exact z.elim
  ·exact nw a (.inl z)
  ·exact nw a (.inr z.2)
 ·cases h
def zh.okF(T:zh G.K G.mg x st ps f fd)(Sc:zi N ps (ze st))(hb:∀cd A a rb,zD k (A.deeper (Ur x (ze st) a f cd))->PSr (tW G N x (ze st) f cd A a rb) (yF st) i fs):P5 G (k+1) f fd ps (jb N.length ps.length i fs):=let⟨cd,F⟩:=T.fn;F.okF Sc (hb cd)
end
section
variable{X:Cx}{B:AP}{π:Addr}{Z:En}{ow:Os}{s s1:kW}{m:Bool}{e:Expr}{es:List Expr}{f g:En->Option Dt}{ga:En->Option (List Dt)}{p pos a8 xp:Pos}{x:Str}{i:Nat}{k:Expr}{fk:En->Option Dt}
def rh{k k':Nat}{fa:Addr}{fd:uz}{ps:List Str}{F:List Dt->Option Dt}{st:Stmt}(ok:P5 X.toGx k fa fd ps F)(T:zh X.K X.mg x st ps fa fd)(hr:zD k' X.A)(ha:PA X true (e::es) ga)(hk:k<=k':=by decide)(hg:Gl X x:=by rfl)(dZ:(x==("__debug__":Str))=false:=by decide)(he:kh (e::es) X.env=(false,eval e X.env)::kh es X.env:=by rfl)(hpl:(ub pos (kh es X.env)).any (·.1)=false:=by rfl):
  PF X (.Call (.Name x p) (e::es) [] pos) (aj F ga):=λB π Z ow s d I q=>by
 obtain⟨ds,q1,q⟩:=kA.mp q;refine uV (qM I hg T.mg ?_ dZ);exact Ag (h₀:=X.base) I.ok.mod.kin T.kp (av (ha pos B π Z ow s ds I q1) λus s1⟨t,r⟩=>⟨t.1.kin,CG (US (ok.run X.A (X.O B ow) s1 ⟨us,[]⟩ us ds d (hr.mono hk) t.1.e0 (T.bn s1 us t.1.kin (by rw[<-Ba r];exact ok.len _ _ q)) r q) λr s'⟨p,e,t2,e0,n,top⟩=>by subst e;exact⟨t.trans ⟨t.1.st t2 e0.ge e0.tb,t2⟩,p,rfl,t.2.free n,top⟩)⟩) he hpl
def IP(i:Nat)(hu:X.A.units+64<ν)(hk:PE X true k fk)(M:Nm X i x:=by exact⟨yk (by kernel_rfl),rfl,by decide,by decide⟩)(hs:∀ov iv,subscripted k false ov iv=operate [ov,iv] (CV ov iv):=by exact λ_ _=>rfl):PE X true (.Subscript (.Name x xp) k pos) (bw i fk):=λB π Z ow s d I q=>by
 obtain⟨⟨io,d0⟩,q1,qa⟩:=kA.mp q;obtain⟨kd,q2,qb⟩:=kA.mp qa;obtain⟨j,q3,q4⟩:=kA.mp qb;exact WD hu M I q1 hk q2 q3 q4 hs λpa qs q s1 t _ _ _ _ _ tc=>⟨t,.inr ⟨q,rfl,tc⟩⟩
def P6{G:Gx}{O:AP}{h:Heap}{S:AP}{d:Dt}{p:Addr}{y:EZ}(e:cB d=some y)(r:RW G O h S 2 d p):∃as,Reads h (.ref p) y as:=by
 have:=RW.r (O':=bG) (λ_ z=>z.elim) r;exact R.rd _ _ _ e this
theorem IQ(i:Nat)(hu:X.A.units+64<ν)(hb:PE X true e g)(M:Nm X i x:=by exact⟨yk (by kernel_rfl),rfl,by decide,by decide⟩):PT X (.Compare (.Name x xp) [.NotEq] [e] pos) (dB (jp i g)):=λB π Z ow s r I q=>by
 obtain⟨d,q,er⟩:=kA.mp q;obtain⟨⟨io,d0⟩,q1,qa⟩:=kA.mp q;obtain⟨d1,q2,qb⟩:=kA.mp qa;obtain⟨n0,dd,e0,pa,hp,rw0⟩:=I.own2 M.ix q1;refine gS (wL I M hp (av (hb B π Z ow s d1 I q2) λu s2 hw=>?_)) (aP _);obtain⟨t,rb⟩:=hw;obtain⟨_,_,_,RS,eh,rw2⟩:=t.1.own2 M.ix q1;obtain rfl:=(hp.sx I t).uniq eh;obtain⟨x',e1,qb⟩:=kA.mp qb;obtain⟨y',e2,qb⟩:=kA.mp qb
 split at qb<;>cases qb
 cases er;obtain⟨_,ra⟩:=P6 e1 rw2;obtain⟨_,rb⟩:=rb.rd e2;exact ne_dataH ra rb (‹_/\_›).1 (‹_/\_›).2 hu (uj ⟨rfl,t⟩)
def PFs(X:Cx)(es:List Expr)(ga:En->Option (List Dt)):Prop:=∀pos B π Z ow s ds,Inv X B π Z ow s->ga Z=some ds->δ (ε X.P X.w) X.A (spliced (ub pos (kh es X.env))) (λus s'=>∃qs:List Addr,us=qs.map uQ/\qs.Nodup/\(∀q∈qs,s.heap.get? q=none)/\Sx X B π Z ow s s'/\Inv X (λa=>B a\/a∈qs) π Z ow s'/\ds.length=qs.length/\∀(i:Nat)(d:Dt)(q:Addr),ds[i]?=some d->qs[i]?=some q->Top X.toGx (X.O (λa=>B a\/a∈qs) ow) s'.heap (Rs X.toGx (X.O (λa=>B a\/a∈qs) ow) s'.heap) d q) nE s
def rj:PFs X [] ae:=λpos B π Z ow s ds I q=>by
 cases q;exact QD ⟨[],rfl,.nil,nofun,I.sx,I.less (λa z=>z.elim id (nomatch ·)) (λa z=>.inl (I.bt a z)) λa z=>.inl (I.rb a z).1,rfl,λi d q z=>by simp at z⟩
theorem mn(ha:PF X e f)(hr:PFs X es ga)(n:NS e:=by intro _ _;rfl):PFs X (e::es) (aa f ga):=λpos B π Z ow s ds I q=>by
 obtain⟨x,qa,q⟩:=kA.mp q;obtain⟨y,qb,q⟩:=kA.mp q
 cases q;rw[n];show δ _ _ (spliced ((false,eval e X.env)::ub pos (kh es X.env))) _ _ s;refine uI (av (ha B π Z ow s x I qa) λu s1 hw=>?_);obtain⟨t1,p,rfl,np,tp⟩:=hw;have K:=I.newp (B':=λa=>a=p) t1 (λa z=>by rw[z];exact np) λa z=>by subst z;exact tp.get
 refine av (hr pos (λa=>B a\/a=p) π Z ow s1 y K qb) λus s2 hw=>?_;obtain⟨qs,rfl,nd,nq,t2,I2,hl,hi⟩:=hw;have ne:∀q∈qs,q≠p:=λq hq z=>by
  obtain⟨o,e,_⟩:=tp.get;have:=nq q hq;rw[z,e] at this;cases this
 have sp:∀a,(B a\/a∈p::qs)↔((B a\/a=p)\/a∈qs):=λa=>by rw[kT];exact⟨λz=>z.elim (λz=>.inl (.inl z)) λz=>z.elim (λz=>.inl (.inr z)) .inr,λz=>z.elim (λz=>z.elim .inl λz=>.inr (.inl z)) λz=>.inr (.inr z)⟩
 have eq:(λa=>B a\/a∈p::qs)=λa=>(B a\/a=p)\/a∈qs:=funext λa=>propext (sp a);refine⟨p::qs,rfl,uU.mpr ⟨λz=>ne p z rfl,nd⟩,?_,?_,by rw[eq];exact I2,by rw[ku,ku,hl],λi d q e1 e2=>?_⟩
 ·intro q hq;rcases kT.mp hq with rfl|hq
  ·exact np
  ·exact t1.2.free (nq q hq)
 ·exact t1.trans ⟨t2.1.less (λa z=>.inl z) I.bt λa z=>(I.rb a z).1,t2.2⟩
 ·rw[eq]
  cases i with
  |zero=>
   cases e1;cases e2;have g:Gd (λa=>X.O B ow a\/a=p) s1.heap (X.O (λa=>(B a\/a=p)\/a∈qs) ow) s2.heap:=λa o e n=>⟨t2.2.kp a o e id λz=>n (.inl (.inl (I.bt a z))),λz=>by
    rcases z with(z|z)|z
    ·exact n (z.elim (λz=>.inl (.inl z)) .inr)
    ·have:=nq a z;rw[e] at this;cases this
    ·exact n (.inl (.inr z))⟩
   obtain⟨o,z,nf⟩:=tp.get;exact tp.imp g (λo' e=>by rw[z] at e;cases e;exact t2.2.kp p o z id (K.nt z nf)) λ_ _=>Rs.go g _ _
  |succ i=>exact hi i d q e1 e2
theorem IS(i:Nat)(hN:X.N.Nodup)(ha:PFs X es ga)(hi:X.N[i]?=some x:=by rfl)(hx:X.env.scope.names.lookup x=some .local\/(X.fn=true/\X.env.scope.names.lookup x=some .cell):=by first|exact .inl rfl|exact .inr ⟨rfl,rfl⟩)(hs:QY (.List es p) (some (.Name x a8)) pos.line X.env=pure false:=by rfl):PS X (.Assign [.Name x a8] (.List es p) pos) (qD i ga):=λB π Z ow s o I q=>by
 obtain⟨ds,q1,q⟩:=kA.mp q
 split at q<;>cases q
 rename_i lz
 refine Qo (Eb (av (ha p B π Z ow s ds I q1) λus s1 hw=>?_)) hs;obtain⟨qs,rfl,nd,nq,t1,I1,hl,hc⟩:=hw;refine⟨by rw[kJ,<-hl];exact lz,?_⟩
 have k1:∀b o,s1.heap.get? b=some o->(s1.heap.push (lo (qs.map uQ) 0)).get? b=some o:=λb o=>kK (lo (qs.map uQ) 0);have eL:(s1.heap.push (lo (qs.map uQ) 0)).get? s1.heap.objs.size=some (lo (qs.map uQ) 0):=ke _ rfl;have Oh:∀a,(a=s1.heap.objs.size\/a∈qs)->∃o,(s1.heap.push (lo (qs.map uQ) 0)).get? a=some o/\∀z,o.data≠.fields z:=λa z=>by
  rcases z with rfl|z
  ·exact⟨_,eL,λz q=>nomatch q⟩
  ·obtain⟨j,hj,rfl⟩:=pW.mp z;obtain⟨o,e,nf⟩:=(hc j _ _ (kC (by lia)) (kC hj)).get
   exact⟨o,k1 _ o e,nf⟩
 have npL:s.heap.get? s1.heap.objs.size=none:=t1.2.free cP;have fr:∀a,(a=s1.heap.objs.size\/a∈qs)->s.heap.get? a=none:=λa z=>z.elim (λz=>by rw[z];exact npL) (nq a)
 have t2:=t1.trans (t1.1.kept (t':=s1.toks) k1);have K:=I.newp (B':=λa=>a=s1.heap.objs.size\/a∈qs) t2 fr Oh;have nO:∀a,(a=s1.heap.objs.size\/a∈qs)->¬X.O B ow a:=λa z=>I.apart (fr a z);have nL:s1.heap.objs.size∉qs:=λz=>by
  obtain⟨j,hj,e⟩:=pW.mp z;obtain⟨o,e',_⟩:=(hc j _ _ (kC (by lia)) (kC hj)).get
  rw[e,cP] at e';cases e'
 have g0:Gd (X.O (λa=>B a\/a∈qs) ow) s1.heap (X.O (λa=>B a\/(a=s1.heap.objs.size\/a∈qs)) ow) (s1.heap.push (lo (qs.map uQ) 0)):=λa o e n=>⟨k1 a o e,λz=>by
  rcases z with(z|z|z)|z
  ·exact n (.inl (.inl z))
  ·rw[z,cP] at e;cases e
  ·exact n (.inl (.inr z))
  ·exact n (.inr z)⟩
 refine av (store (S:=λa=>a=s1.heap.objs.size\/a∈qs) (sl:=.ow false 2 (.list ds)) K hN hi hx (λa z=>⟨Oh a z,λy=>nO a z (.inl y),λy=>nO a z (.inr (.inr (.inl y))),λy=>nO a z (.inr (.inr (.inr y))),λy=>nO a z (.inr (.inl y))⟩) (λa z=>(I.rb a z).1) λh' mm l g kk=>⟨s1.heap.objs.size,l,nofun,qs,λa=>⟨λz=>z.elim (·.2) λz=>absurd rfl z.1,λz=>.inl ⟨rfl,z⟩⟩,uU.mpr ⟨nL,nd⟩,qs.map uQ,0,kk _ _ (.inl rfl) eL,by rw[kJ,<-hl];exact lz,rfl,hl,λj d q e1 e2=>?_⟩) λ_ s'⟨J',t⟩=>⟨_,J',t2.2.up.trans t λa=>.inl,λa⟨j,z⟩=>z.elim (λz=>.inr (fr a z.2)) λz=>.inl ⟨j,z.2⟩⟩
 have tc:=hc j d q e1 e2;obtain⟨o,z,nf⟩:=tc.get;have g3:=g0.trans g;exact tc.imp g3 (λo' e=>kk q o' (.inr (kg e2)) (k1 _ _ e)) λ_ _=>Rs.go g3 _ _
end
noncomputable def Oi(n:Nat)(lt:Nat->Nat->Bool):Option (List Nat):=if n<64 then PP n lt else none
section
variable{X:Cx}{κ:Type}{of:Dt->Option κ}{lt:κ->κ->Bool}{df:κ}{i0:Nat}{f g:En->Option Dt}{e:Expr}
theorem VG(ky:N5 X of lt):Ir X of lt df Oi:=⟨(λ{n l p} h=>by
  unfold Oi at h
  split at h
  ·exact(JQ h).1
  ·cases h),λ{O vs ks dr kl p s a kS e e1 P} hl zl oY hk ha rk q6 hp hP=>by
  unfold Oi at hp
  split at hp
  case isFalse=>cases hp
  rename_i PK
  refine(tR (df:=df) ky).2 hl zl oY hk ha rk q6 (p:=p) ?_ hP;unfold iQ;rw[θ PK,CZ];refine(JQ hp).2 qA ?_;have ln:=(qA (n:=vs.length) (lt:=λi j=>lt (kl.getD i df) (kl.getD j df))).length_eq;rw[pM] at ln;unfold yJ at ln⊢
  by_cases c:2<=vs.length
  ·rw[θ c] at ln⊢;have u:=VU (n:=vs.length) (k7.of ky.sto λi=>kl.getD i df) (by lia)
   generalize bh _ (PySem.W.kas_sort vs.length)=S7 at*;have gi:∀k(h:k<S7.toList.length),S7.getD k 0=S7.toList[k]:=λk h=>by
    rw[Qs] at h
    simp[GT,h]
   rw[List.pairwise_iff_getElem];intro i j hi hj mR;have:=u i j mR (by lia)
   unfold gX at this;rw[gi j hj,gi i hi] at this;exact this
  ·rw[η c];have:vs.length=0\/vs.length=1:=by lia
   rcases this with z|z<;>rw[z]
   ·exact .nil
   ·exact QK _ _⟩
theorem JR(h:PF X e (qy Oi of lt df [i0] f (iL g))):PF X e (jC of lt df i0 f g):=h.le λZ d q=>by
 obtain⟨d0,q1,q⟩:=kA.mp q;obtain⟨ds,q2,q⟩:=kA.mp q
 split at q
 case isFalse=>cases q
 rename_i l64
 obtain⟨s0,q3,q⟩:=kA.mp q;obtain⟨d1,q4,q⟩:=kA.mp q;obtain⟨dr,q5,q⟩:=kA.mp q;obtain⟨kl,q6,q⟩:=kA.mp q;obtain⟨r,q7,q⟩:=kA.mp q;have c:xX [i0] Z=some [fQ s0]:=by unfold xX zn zn;rw[q3];simp only[kG];rw[q4];rfl
 unfold nA at q7
 split at q7<;>cases q7
 unfold qy iL;rw[q1,kG,q2,kG,c,kG,q5,kG,q6,kG];unfold Oi PP;rw[θ (show ds.length<64 from l64),θ ‹_›];exact q
end
end L2
namespace Mine
open PySem L2
namespace Nu
noncomputable def top(i:Nat):Stmt:=PySem.Challenge.pw_acre_k31_marks.main.body.getD i (.Pass ⟨0,0,0,0⟩)
abbrev W1:Stmt:=top 5
def zat:zi ["thing"] ["thing"] (ze W1):=zm rfl (by decide+kernel)
abbrev Xl:Stmt:=top 6
def zd1:zi ["one","other","great","small","rest"] ["one","other"] (ze Xl):=zm rfl (by decide+kernel)
abbrev Xv:Stmt:=top 8
def zar:zi ["x","y","w","factor"] ["x","y","w"] (ze Xv):=zm rfl (by decide+kernel)
abbrev Wz:Stmt:=top 9
def zc3:zi ["P","Q","left","right"] ["P","Q"] (ze Wz):=zm rfl (by decide+kernel)
abbrev Xp:Stmt:=top 10
def zdb:zi ["number"] ["number"] (ze Xp):=zm rfl (by decide+kernel)
abbrev Vi:Stmt:=top 11
def zau:zi ["P","Q"] ["P","Q"] (ze Vi):=zm rfl (by decide+kernel)
abbrev XT:Stmt:=top 12
def zaf:zi ["line","P"] ["line","P"] (ze XT):=zm rfl (by decide+kernel)
abbrev XN:Stmt:=top 13
def rl:zi ["P","Q","R"] ["P","Q","R"] (ze XN):=zm rfl (by decide+kernel)
abbrev Xt:Stmt:=top 14
def IU:zi ["one","other","w","x","y"] ["one","other"] (ze Xt):=zm rfl (by decide+kernel)
abbrev Ws:Stmt:=top 15
def zb3:zi ["points","greatest","scale","keys","P"] ["points"] (ze Ws):=zm rfl (by decide+kernel)
abbrev jy:Stmt:=top 16
def zbm:zi ["points","keys"] ["points"] (ze jy):=zm rfl (by decide+kernel)
abbrev jz:Stmt:=top 17
def za5:zi ["things","points","thing","keys"] ["things"] (ze jz):=zm rfl (by decide+kernel)
abbrev Wo:Stmt:=top 19
def JJ:zi ["many","is_past","low","high","middle"] ["many","is_past"] (ze Wo):=zm rfl (by decide+kernel)
abbrev Vt:Stmt:=top 21
def zdc:zi ["P","Q"] ["P","Q"] (ze Vt):=zm rfl (by decide+kernel)
abbrev Xi:Stmt:=top 22
def zc2:zi ["fences"] ["fences"] (ze Xi):=zm rfl (by decide+kernel)
abbrev Xa:Stmt:=top 23
def zch:zi ["stretches","ends","S"] ["stretches"] (ze Xa):=zm rfl (by decide+kernel)
abbrev W8:Stmt:=top 24
def rm:zi ["one","other","line","sides","other_line","other_sides","end","side"] ["one","other"] (ze W8):=zm rfl (by decide+kernel)
abbrev Wj:Stmt:=top 25
def zbr:zi ["one","other","first","second"] ["one","other"] (ze Wj):=zm rfl (by decide+kernel)
abbrev XQ:Stmt:=top 27
def za9:zi ["S"] ["S"] (ze XQ):=zm rfl (by decide+kernel)
abbrev jG:Stmt:=top 28
def za4:zi ["stretches","masks","lines","fans","told","standing","P","low","high","over","fan","number","level"] ["stretches","masks"] (ze jG):=zm rfl (by decide+kernel)
abbrev WM:Stmt:=top 29
def zb6:zi ["masks","mask","other"] ["masks"] (ze WM):=zm rfl (by decide+kernel)
abbrev vY:Stmt:=top 30
def zae:zi ["stretches","fans","number","S","fan","place"] ["stretches"] (ze vY):=zm rfl (by decide+kernel)
abbrev X6:Stmt:=top 32
def zd5:zi ["stretches","lying"] ["stretches"] (ze X6):=zm rfl (by decide+kernel)
abbrev Xz:Stmt:=top 33
def zcl:zi ["P","numbers","stretches","begins","through","ends"] ["P","numbers","stretches"] (ze Xz):=zm rfl (by decide+kernel)
abbrev WC:Stmt:=top 34
def zbk:zi ["stretches","lying","number","S","P","one","other"] ["stretches"] (ze WC):=zm rfl (by decide+kernel)
abbrev X3:Stmt:=top 35
def rn:zi ["lying","P","number"] ["lying","P","number"] (ze X3):=zm rfl (by decide+kernel)
abbrev XJ:Stmt:=top 36
def zbp:zi ["common"] ["common"] (ze XJ):=zm rfl (by decide+kernel)
abbrev ju:Stmt:=top 37
def zbi:zi ["stretches","keys","lows","highs","lasts","pairs","standing","number","first","low","high","near"] ["stretches"] (ze ju):=zm rfl (by decide+kernel)
abbrev We:Stmt:=top 38
def zd8:zi ["stretches","owners","reached","P","begins","through","ends","number"] ["stretches"] (ze We):=zm rfl (by decide+kernel)
abbrev Wu:Stmt:=top 42
def za1:zi ["one","other","cut","masks","told","row","flank","left","right"] ["one","other"] (ze Wu):=zm rfl (by decide+kernel)
abbrev Va:Stmt:=top 43
def zd7:zi ["owners","many","mask","number"] ["owners","many"] (ze Va):=zm rfl (by decide+kernel)
abbrev Xj:Stmt:=top 44
def IV:zi ["mask","bit"] ["mask","bit"] (ze Xj):=zm rfl (by decide+kernel)
abbrev Wb:Stmt:=top 46
def zcc:zi ["_law_script","_law_k"] ["_law_script","_law_k"] (ze Wb):=zm rfl (by decide+kernel)
abbrev XG:Stmt:=top 47
def za7:zi ["_law_one","_law_two_here","_law_three","_law_a","_law_b","_law_c","_law_d"] ["_law_one","_law_two_here","_law_three"] (ze XG):=zm rfl (by decide+kernel)
abbrev WE:Stmt:=top 48
def zc8:zi ["_law_one","_law_other"] ["_law_one","_law_other"] (ze WE):=zm rfl (by decide+kernel)
abbrev XV:Stmt:=top 49
def Z7:zi ["_law_one","_law_other"] ["_law_one","_law_other"] (ze XV):=zm rfl (by decide+kernel)
abbrev Wg:Stmt:=top 50
def zcx:zi ["_law_fences","_law_found","_law_fence","_law_at"] ["_law_fences"] (ze Wg):=zm rfl (by decide+kernel)
abbrev X7:Stmt:=top 51
def zd6:zi ["_law_cells","_law_x","_law_y","_law_right","_law_high","_law_second","_law_corners"] ["_law_cells"] (ze X7):=zm rfl (by decide+kernel)
abbrev Wm:Stmt:=top 52
def zal:zi ["_law_corners"] ["_law_corners"] (ze Wm):=zm rfl (by decide+kernel)
abbrev Xr:Stmt:=top 53
def zay:zi ["_law_cell","_law_some","_law_far","_law_right","_law_high"] ["_law_cell"] (ze Xr):=zm rfl (by decide+kernel)
abbrev Wp:Stmt:=top 54
def zbt:zi ["_law_map_of","_law_spot","_law_x","_law_y","_law_w","_law_d"] ["_law_map_of","_law_spot"] (ze Wp):=zm rfl (by decide+kernel)
abbrev Xq:Stmt:=top 55
def Z0:zi ["_law_script","_law_one","_law_other","_law_way","_law_right","_law_map_of"] ["_law_script"] (ze Xq):=zm rfl (by decide+kernel)
abbrev Vk:Stmt:=top 56
def Z6:zi ["_law_one","_law_two_here","_law_x","_law_y"] ["_law_one","_law_two_here"] (ze Vk):=zm rfl (by decide+kernel)
abbrev XS:Stmt:=top 57
def zaj:zi ["_law_spot","_law_one","_law_two_here","_law_ahead_here"] ["_law_spot","_law_one","_law_two_here"] (ze XS):=zm rfl (by decide+kernel)
abbrev XI:Stmt:=top 58
def zb1:zi ["_law_found","_law_spot","_law_number"] ["_law_found"] (ze XI):=zm rfl (by decide+kernel)
abbrev XU:Stmt:=top 59
def zck:zi ["_law_corners","_law_piece","_law_way","_law_spot","_law_k","_law_one","_law_two_here","_law_side","_law_low","_law_high","_law_x","_law_y","_law_along"] ["_law_corners","_law_piece","_law_way"] (ze XU):=zm rfl (by decide+kernel)
abbrev Vj:Stmt:=top 60
def zad:zi ["_law_spot","_law_fences","_law_ways","_law_one","_law_two_here","_law_way"] ["_law_spot","_law_fences"] (ze Vj):=zm rfl (by decide+kernel)
abbrev Vq:Stmt:=top 61
def zc6:zi ["_law_fence","_law_parts","_law_low","_law_high","_law_some","_law_part"] ["_law_fence","_law_parts"] (ze Vq):=zm rfl (by decide+kernel)
abbrev Xx:Stmt:=top 62
def IW:zi ["_law_script","_law_one","_law_other","_law_lands","_law_handed","_law_found","_law_first","_law_parts","_law_row","_law_due","_law_fences","_law_part","_law_kept"] ["_law_script"] (ze Xx):=zm rfl (by decide+kernel)
structure Txt(G:Gx)(ad:Nat->Addr)(fd:Nat->uz):Prop where
 is_whole:zh G.K G.mg "is_whole" W1 ["thing"] (ad 0) (fd 0)
 divisor:zh G.K G.mg "divisor" Xl ["one","other"] (ad 1) (fd 1)
 point:zh G.K G.mg "point" Xv ["x","y","w"] (ad 2) (fd 2)
 before:zh G.K G.mg "before" Wz ["P","Q"] (ad 3) (fd 3)
 sign_of:zh G.K G.mg "sign_of" Xp ["number"] (ad 4) (fd 4)
 line_of:zh G.K G.mg "line_of" Vi ["P","Q"] (ad 5) (fd 5)
 side_of:zh G.K G.mg "side_of" XT ["line","P"] (ad 6) (fd 6)
 turn:zh G.K G.mg "turn" XN ["P","Q","R"] (ad 7) (fd 7)
 met:zh G.K G.mg "met" Xt ["one","other"] (ad 8) (fd 8)
 order_keys:zh G.K G.mg "order_keys" Ws ["points"] (ad 9) (fd 9)
 in_order:zh G.K G.mg "in_order" jy ["points"] (ad 10) (fd 10)
 in_order_c:eV G.K "in_order" "in_order" jy (ad 10) (fd 10) (.ref (ad 49))
 in_order_l:vt G (ad 49) (ad 50) ⟨64,34,64,51⟩ (mU "in_order" jy)
 by_points:zh G.K G.mg "by_points" jz ["things"] (ad 11) (fd 11)
 by_points_c:eV G.K "by_points" "by_points" jz (ad 11) (fd 11) (.ref (ad 51))
 by_points_l:vt G (ad 51) (ad 52) ⟨70,30,70,68⟩ (mU "by_points" jz)
 halved:zh G.K G.mg "halved" Wo ["many","is_past"] (ad 12) (fd 12)
 stretch:zh G.K G.mg "stretch" Vt ["P","Q"] (ad 13) (fd 13)
 stretches_of:zh G.K G.mg "stretches_of" Xi ["fences"] (ad 14) (fd 14)
 ends_of:zh G.K G.mg "ends_of" Xa ["stretches"] (ad 15) (fd 15)
 meet:zh G.K G.mg "meet" W8 ["one","other"] (ad 16) (fd 16)
 meet_on_line:zh G.K G.mg "meet_on_line" Wj ["one","other"] (ad 17) (fd 17)
 is_upright:zh G.K G.mg "is_upright" XQ ["S"] (ad 18) (fd 18)
 flanks:zh G.K G.mg "flanks" jG ["stretches","masks"] (ad 19) (fd 19)
 flanks_c:eV G.K "flanks" "flanks" jG (ad 19) (fd 19) (.ref (ad 53))
 flanks_l:vt G (ad 53) (ad 54) ⟨128,36,128,81⟩ (mU "flanks" jG)
 mixed:zh G.K G.mg "mixed" WM ["masks"] (ad 20) (fd 20)
 fans_of:zh G.K G.mg "fans_of" vY ["stretches"] (ad 21) (fd 21)
 fans_of_c:eV G.K "fans_of" "fans_of" vY (ad 21) (fd 21) (.ref (ad 55))
 fans_of_l:vt G (ad 55) (ad 56) ⟨149,33,149,85⟩ (mU "fans_of" vY)
 stops:zh G.K G.mg "stops" X6 ["stretches"] (ad 22) (fd 22)
 stop_at:zh G.K G.mg "stop_at" Xz ["P","numbers","stretches"] (ad 23) (fd 23)
 lying_at:zh G.K G.mg "lying_at" WC ["stretches"] (ad 24) (fd 24)
 note:zh G.K G.mg "note" X3 ["lying","P","number"] (ad 25) (fd 25)
 shared_ends:zh G.K G.mg "shared_ends" XJ ["common"] (ad 26) (fd 26)
 near_pairs:zh G.K G.mg "near_pairs" ju ["stretches"] (ad 27) (fd 27)
 near_pairs_c:eV G.K "near_pairs" "near_pairs" ju (ad 27) (fd 27) (.ref (ad 57))
 near_pairs_l:vt G (ad 57) (ad 58) ⟨188,52,188,83⟩ (mU "near_pairs" ju)
 pieces:zh G.K G.mg "pieces" We ["stretches"] (ad 28) (fd 28)
 marks:zh G.K G.mg "marks" Wu ["one","other"] (ad 29) (fd 29)
 mask_of:zh G.K G.mg "mask_of" Va ["owners","many"] (ad 30) (fd 30)
 has:zh G.K G.mg "has" Xj ["mask","bit"] (ad 31) (fd 31)
 law_cell_at:zh G.K G.mg "_law_cell_at" Wb ["_law_script","_law_k"] (ad 32) (fd 32)
 law_turn:zh G.K G.mg "_law_turn" XG ["_law_one","_law_two_here","_law_three"] (ad 33) (fd 33)
 law_before:zh G.K G.mg "_law_before" WE ["_law_one","_law_other"] (ad 34) (fd 34)
 law_ahead:zh G.K G.mg "_law_ahead" XV ["_law_one","_law_other"] (ad 35) (fd 35)
 law_sorted:zh G.K G.mg "_law_sorted" Wg ["_law_fences"] (ad 36) (fd 36)
 law_shape:zh G.K G.mg "_law_shape" X7 ["_law_cells"] (ad 37) (fd 37)
 law_land_by:zh G.K G.mg "_law_land_by" Wm ["_law_corners"] (ad 38) (fd 38)
 law_map:zh G.K G.mg "_law_map" Xr ["_law_cell"] (ad 39) (fd 39)
 law_laid:zh G.K G.mg "_law_laid" Wp ["_law_map_of","_law_spot"] (ad 40) (fd 40)
 law_two:zh G.K G.mg "_law_two" Xq ["_law_script"] (ad 41) (fd 41)
 law_amid:zh G.K G.mg "_law_amid" Vk ["_law_one","_law_two_here"] (ad 42) (fd 42)
 law_on:zh G.K G.mg "_law_on" XS ["_law_spot","_law_one","_law_two_here"] (ad 43) (fd 43)
 law_points:zh G.K G.mg "_law_points" XI ["_law_found"] (ad 44) (fd 44)
 law_hand:zh G.K G.mg "_law_hand" XU ["_law_corners","_law_piece","_law_way"] (ad 45) (fd 45)
 law_cut:zh G.K G.mg "_law_cut" Vj ["_law_spot","_law_fences"] (ad 46) (fd 46)
 law_through:zh G.K G.mg "_law_through" Vq ["_law_fence","_law_parts"] (ad 47) (fd 47)
 law:zh G.K G.mg "law" Xx ["_law_script"] (ad 48) (fd 48)
 g_SECOND:∃t,G.mg "SECOND"=some (.int 2 t)
 g_FIRST:∃t,G.mg "FIRST"=some (.int 1 t)
 b_abs:G.mg "abs"=none
 b_all:G.mg "all"=none
 b_any:G.mg "any"=none
 b_bool:G.mg "bool"=none
 b_enumerate:G.mg "enumerate"=none
 b_int:G.mg "int"=none
 b_isinstance:G.mg "isinstance"=none
 b_len:G.mg "len"=none
 b_list:G.mg "list"=none
 b_max:G.mg "max"=none
 b_min:G.mg "min"=none
 b_range:G.mg "range"=none
 b_reversed:G.mg "reversed"=none
 b_sorted:G.mg "sorted"=none
 b_tuple:G.mg "tuple"=none
 b_zip:G.mg "zip"=none
end Nu
noncomputable section
namespace Nu
noncomputable def j9:List Dt->Option Dt:=bg 1 1
  (aC (fi (d1 (yg "int") (dV 0)) (d1 C9 (d1 (yg "bool") (dV 0)))))
noncomputable def qP:List Dt->Option Dt:=bg 5 2
  (ag (ak 2 (aj vA (aa (dV 0) ae)))
  (ag (ak 3 (aj vA (aa (dV 1) ae)))
  (ag (wm 40000 [4] (dB (d2 yb (dV 3) (dC (.int 0)))) (ag (ak 4 (d2 zG (dV 2) (dV 3)))
  (ag (ak 2 (dV 3))
  (ak 3 (dV 4)))))
  (aC (dV 2)))))
noncomputable def Yt:List Dt->Option Dt:=bg 4 3
  (ag (au (cb (aT (dB (aj j9 (aa (dV 0) ae)))) (cb (aT (dB (aj j9 (aa (dV 1) ae)))) (aT (dB (aj j9 (aa (dV 2) ae)))))) qi aO)
  (ag (au (dB (d2 zB (dV 2) (dC (.int 0)))) qi aO)
  (ag (ak 3 (aj qP (aa (aj qP (aa (dV 2) (aa (dV 0) ae))) (aa (dV 1) ae))))
  (ag (au (dB (d2 cz (dV 2) (dC (.int 0)))) (ak 3 (d1 yC (dV 3))) aO)
  (aC (ax (aa (d2 zE (dV 0) (dV 3)) (aa (d2 zE (dV 1) (dV 3)) (aa (d2 zE (dV 2) (dV 3)) ae)))))))))
noncomputable def vL:List Dt->Option Dt:=bg 4 2
  (ag (ak 2 (d2 zf (d2 af (dV 0) (dC (.int 0))) (d2 af (dV 1) (dC (.int 2)))))
  (ag (ak 3 (d2 zf (d2 af (dV 1) (dC (.int 0))) (d2 af (dV 0) (dC (.int 2)))))
  (ag (au (dB (d2 yb (dV 2) (dV 3))) (aC (d2 cz (dV 2) (dV 3))) aO)
  (aC (d2 cz (d2 zf (d2 af (dV 0) (dC (.int 1))) (d2 af (dV 1) (dC (.int 2)))) (d2 zf (d2 af (dV 1) (dC (.int 1))) (d2 af (dV 0) (dC (.int 2)))))))))
noncomputable def YB:List Dt->Option Dt:=bg 1 1
  (ag (au (dB (d2 lC (dV 0) (dC (.int 0)))) (aC (dC (.int 1))) aO)
  (ag (au (dB (d2 cz (dV 0) (dC (.int 0)))) (aC (d1 yC (dC (.int 1)))) aO)
  (aC (dC (.int 0)))))
noncomputable def vC:List Dt->Option Dt:=bg 2 2
  (aC (ax (aa (d2 zo (d2 zf (d2 af (dV 0) (dC (.int 1))) (d2 af (dV 1) (dC (.int 2)))) (d2 zf (d2 af (dV 0) (dC (.int 2))) (d2 af (dV 1) (dC (.int 1))))) (aa (d2 zo (d2 zf (d2 af (dV 0) (dC (.int 2))) (d2 af (dV 1) (dC (.int 0)))) (d2 zf (d2 af (dV 0) (dC (.int 0))) (d2 af (dV 1) (dC (.int 2))))) (aa (d2 zo (d2 zf (d2 af (dV 0) (dC (.int 0))) (d2 af (dV 1) (dC (.int 1)))) (d2 zf (d2 af (dV 0) (dC (.int 1))) (d2 af (dV 1) (dC (.int 0))))) ae)))))
noncomputable def xE:List Dt->Option Dt:=bg 2 2
  (aC (aj YB (aa (d2 zN (d2 zN (d2 zf (d2 af (dV 0) (dC (.int 0))) (d2 af (dV 1) (dC (.int 0)))) (d2 zf (d2 af (dV 0) (dC (.int 1))) (d2 af (dV 1) (dC (.int 1))))) (d2 zf (d2 af (dV 0) (dC (.int 2))) (d2 af (dV 1) (dC (.int 2))))) ae)))
noncomputable def qJ:List Dt->Option Dt:=bg 3 3
  (aC (aj xE (aa (aj vC (aa (dV 0) (aa (dV 1) ae))) (aa (dV 2) ae))))
noncomputable def Yp:List Dt->Option Dt:=bg 5 2
  (ag (ak 2 (d2 zo (d2 zf (d2 af (dV 0) (dC (.int 0))) (d2 af (dV 1) (dC (.int 1)))) (d2 zf (d2 af (dV 0) (dC (.int 1))) (d2 af (dV 1) (dC (.int 0))))))
  (ag (au (dB (d2 zB (dV 2) (dC (.int 0)))) (aC (dC .none)) aO)
  (ag (ak 3 (d2 zo (d2 zf (d2 af (dV 0) (dC (.int 1))) (d2 af (dV 1) (dC (.int 2)))) (d2 zf (d2 af (dV 0) (dC (.int 2))) (d2 af (dV 1) (dC (.int 1))))))
  (ag (ak 4 (d2 zo (d2 zf (d2 af (dV 0) (dC (.int 2))) (d2 af (dV 1) (dC (.int 0)))) (d2 zf (d2 af (dV 0) (dC (.int 0))) (d2 af (dV 1) (dC (.int 2))))))
  (aC (aj Yt (aa (dV 3) (aa (dV 4) (aa (dV 2) ae)))))))))
noncomputable def vW:List Dt->Option Dt:=bg 5 1
  (ag (ak 1 (nh (ao 1 [] (iL (dV 0)) (gN 0) aD (d2 af (dV 0) (dC (.int 2)))) (dC (.int 1))))
  (ag (ak 2 (d2 zf (dV 1) (dV 1)))
  (ag (aU 3 (dC (.dT [] [])))
  (ag (aB [4] (iL (dV 0)) (gN 4)
  (au (dB (iI true (dV 4) (aA 3))) (fU 3 (dV 4) (ax (aa (d2 zE (d2 zf (d2 af (dV 4) (dC (.int 0))) (dV 2)) (d2 af (dV 4) (dC (.int 2)))) (aa (d2 zE (d2 zf (d2 af (dV 4) (dC (.int 1))) (dV 2)) (d2 af (dV 4) (dC (.int 2)))) ae)))) aO))
  (cm 3 (aC (dV 3)))))))
noncomputable def qe:List Dt->Option Dt:=bg 2 1
  (ag (ak 1 (aj vW (aa (dV 0) ae)))
  (aC (jC iy fD (0,0) 1 (bN (dV 1) (dV 0)) (aj yD (aa (dV 1) ae)))))
noncomputable def Yr:List Dt->Option Dt:=bg 4 1
  (ag (aU 1 (aK ae))
  (ag (aB [] (iL (dV 0)) (gN 2)
  (iX 1 (iT (dV 2))))
  (ag (cm 1 (ak 3 (aj vW (aa (dV 1) ae))))
  (aC (jC Ms cu [] 3 (ao 1 [1] (iT (dV 0)) (gN 0) aD (bN (dV 1) (dV 0))) (dV 0))))))
noncomputable def Y0:List Dt->Option Dt:=bg 2 2
  (ag (au (dB (d2 cI (dV 0) (dV 1))) qi aO)
  (ag (au (dB (aj vL (aa (dV 0) (aa (dV 1) ae)))) (aC (ax (aa (dV 0) (aa (dV 1) ae)))) aO)
  (aC (ax (aa (dV 1) (aa (dV 0) ae))))))
noncomputable def jm:List Dt->Option Dt:=bg 3 1
  (ag (aU 1 (aK ae))
  (ag (aB [2] (iL (dV 0)) (gN 2)
  (iX 1 (iT (dV 2))))
  (cm 1 (aC (dV 1)))))
noncomputable def YV:List Dt->Option Dt:=bg 4 2
  (ag (ak 2 (C6 (dB (aj vL (aa (d2 af (dV 0) (dC (.int 0))) (aa (d2 af (dV 1) (dC (.int 0))) ae)))) (d2 af (dV 1) (dC (.int 0))) (d2 af (dV 0) (dC (.int 0)))))
  (ag (ak 3 (C6 (dB (aj vL (aa (d2 af (dV 0) (dC (.int 1))) (aa (d2 af (dV 1) (dC (.int 1))) ae)))) (d2 af (dV 0) (dC (.int 1))) (d2 af (dV 1) (dC (.int 1)))))
  (ag (au (dB (aj vL (aa (dV 3) (aa (dV 2) ae)))) (aC (dC .none)) aO)
  (ag (au (dB (d2 cI (dV 2) (dV 3))) (aC (ax (aa (dC (.str "spot")) (aa (dV 2) ae)))) aO)
  (aC (ax (aa (dC (.str "part")) (aa (ax (aa (dV 2) (aa (dV 3) ae))) ae))))))))
noncomputable def Y9:List Dt->Option Dt:=bg 8 2
  (ag (ak 2 (aj vC (aa (d2 af (dV 0) (dC (.int 0))) (aa (d2 af (dV 0) (dC (.int 1))) ae))))
  (ag (ak 3 (ax (aa (aj xE (aa (dV 2) (aa (d2 af (dV 1) (dC (.int 0))) ae))) (aa (aj xE (aa (dV 2) (aa (d2 af (dV 1) (dC (.int 1))) ae))) ae))))
  (ag (au (dB (d2 cI (dV 3) (ax (aa (dC (.int 0)) (aa (dC (.int 0)) ae))))) (aC (aj YV (aa (dV 0) (aa (dV 1) ae)))) aO)
  (ag (au (dB (d2 zB (d2 af (dV 3) (dC (.int 0))) (d2 af (dV 3) (dC (.int 1))))) (aC (dC .none)) aO)
  (ag (ak 4 (aj vC (aa (d2 af (dV 1) (dC (.int 0))) (aa (d2 af (dV 1) (dC (.int 1))) ae))))
  (ag (ak 5 (ax (aa (aj xE (aa (dV 4) (aa (d2 af (dV 0) (dC (.int 0))) ae))) (aa (aj xE (aa (dV 4) (aa (d2 af (dV 0) (dC (.int 1))) ae))) ae))))
  (ag (au (dB (d2 zB (d2 af (dV 5) (dC (.int 0))) (d2 af (dV 5) (dC (.int 1))))) (aC (dC .none)) aO)
  (ag (aB [6,7] (iC fj (aa (d2 yV (dV 1) (dV 0)) (aa (d2 yV (dV 3) (dV 5)) ae))) (gT 2 (aG (gN 6) (aG (gN 7) bJ)))
  (au (dB (d2 zB (dV 7) (dC (.int 0)))) (aC (ax (aa (dC (.str "spot")) (aa (dV 6) ae)))) aO))
  (aC (ax (aa (dC (.str "spot")) (aa (aj Yp (aa (dV 2) (aa (dV 4) ae))) ae))))))))))))
noncomputable def qu:List Dt->Option Dt:=bg 1 1
  (ag (au (dB (d2 jD (dV 0) (dC .none))) (aC (ax ae)) aO)
  (ag (au (dB (d2 cI (d2 af (dV 0) (dC (.int 0))) (dC (.str "spot")))) (aC (ax (aa (d2 af (dV 0) (dC (.int 1))) ae))) aO)
  (aC (d2 af (dV 0) (dC (.int 1))))))
noncomputable def YH:List Dt->Option Dt:=bg 12 1
  (ag (ak 1 (aj vW (aa (aj jm (aa (dV 0) ae)) ae)))
  (ag (aU 2 (ao 1 [1] (iL (dV 0)) (gN 0) aD (aj (wJ λi j=>if j<i then j else i) (aa (d2 af (bN (dV 1) (d2 af (dV 0) (dC (.int 0)))) (dC (.int 1))) (aa (d2 af (bN (dV 1) (d2 af (dV 0) (dC (.int 1)))) (dC (.int 1))) ae)))))
  (ag (aU 3 (ao 1 [1] (iL (dV 0)) (gN 0) aD (aj (wJ λi j=>if j>i then j else i) (aa (d2 af (bN (dV 1) (d2 af (dV 0) (dC (.int 0)))) (dC (.int 1))) (aa (d2 af (bN (dV 1) (d2 af (dV 0) (dC (.int 1)))) (dC (.int 1))) ae)))))
  (ag (aU 4 (ao 1 [1] (iL (dV 0)) (gN 0) aD (bN (dV 1) (d2 af (dV 0) (dC (.int 1))))))
  (ag (aU 5 (aK ae))
  (ag (aU 6 (aK ae))
  (ag (aB [7,8,9,10,11] (iL (YO iy fD (0,0) [0,1] (bN (dV 2) (d2 af (d2 af (dV 1) (dV 0)) (dC (.int 0)))) (aa (aj zu (aa (dV 0) ae)) ae))) (gN 7)
  (ag (ak 8 (bN (dV 1) (d2 af (d2 af (dV 0) (dV 7)) (dC (.int 0)))))
  (ag (ak 9 (d2 af (aA 2) (dV 7)))
  (ag (ak 10 (d2 af (aA 3) (dV 7)))
  (ag (aU 6 (ao 1 [4,8] (iL (aA 6)) (gN 0) (dB (d2 ja (d2 af (aA 1) (dV 0)) (dV 2))) (dV 0)))
  (ag (aU 11 (ao 1 [2,10] (iL (aA 6)) (gN 0) (dB (d2 mJ (d2 af (aA 1) (dV 0)) (dV 2))) (dV 0)))
  (ag (iX 5 (iL (ao 1 [3,7,9] (iL (aA 11)) (gN 0) (dB (d2 Lr (d2 af (aA 1) (dV 0)) (dV 3))) (ax (aa (dV 2) (aa (dV 0) ae))))))
  (iw 6 (dV 7)))))))))
  (cm 5 (aC (dV 5))))))))))
noncomputable def Yw:List Dt->Option Dt:=bg 6 3
  (ag (aU 3 (ao 1 [0,2] (iL (dV 1)) (gN 0) (dB (d2 cI (d2 af (d2 af (dV 2) (dV 0)) (dC (.int 0))) (dV 1))) (dV 0)))
  (ag (aU 4 (ao 1 [0,2] (iL (dV 1)) (gN 0) (dB (d2 (D1 true true) (dV 1) (d2 af (dV 2) (dV 0)))) (dV 0)))
  (ag (aU 5 (ao 1 [0,2] (iL (dV 1)) (gN 0) (dB (d2 cI (d2 af (d2 af (dV 2) (dV 0)) (dC (.int 1))) (dV 1))) (dV 0)))
  (cm 3 (cm 4 (cm 5 (aC (ax (aa (dV 0) (aa (dV 3) (aa (dV 4) (aa (dV 5) ae))))))))))))
noncomputable def vG:Dt->List Dt->Option Dt:=vU 3 3
  (ag (au (dB (jW true (dV 1) 0)) (YX 0 (dV 1) (dC (.dK [] []))) aO)
  (qt 0 (dV 1) (dV 2) (dC (.bool true))))
noncomputable def Yy:List Dt->Option Dt:=bg 7 1
  (ag (aU 1 (dC (.dT [] [])))
  (ag (aB [2,3,4] (iC iG (aa (dV 0) ae)) (gT 2 (aG (gN 2) (aG (gN 3) bJ)))
  (aB [4] (iT (dV 3)) (gN 4)
  (D0 1 vG (aa (dV 4) (aa (dV 2) ae)))))
  (ag (aB [4,5,6] (iL (aj YH (aa (dV 0) ae))) (gT 2 (aG (gN 5) (aG (gN 6) bJ)))
  (aB [4] (iT (aj qu (aa (aj Y9 (aa (d2 af (dV 0) (dV 5)) (aa (d2 af (dV 0) (dV 6)) ae))) ae))) (gN 4)
  (ag (D0 1 vG (aa (dV 4) (aa (dV 5) ae)))
  (D0 1 vG (aa (dV 4) (aa (dV 6) ae))))))
  (cm 1 (aC (dV 1))))))
noncomputable def YZ:List Dt->Option Dt:=bg 2 1
  (ag (ak 1 (aj Yy (aa (dV 0) ae)))
  (aC (ao 1 [0,1] (iL (aj qe (aa (aj yD (aa (dV 1) ae)) ae))) (gN 0) aD (aj Yw (aa (dV 0) (aa (aj wC (aa (aj yD (aa (bN (dV 2) (dV 0)) ae)) ae)) (aa (dV 1) ae)))))))
noncomputable def Ym:List Dt->Option Dt:=bg 8 1
  (ag (aU 1 (dC (.dT [] [])))
  (ag (aU 2 (dC (.dK [] [])))
  (ag (aB [3,4,5,6,7] (iL (aj YZ (aa (dV 0) ae))) (gT 4 (aG (gN 3) (aG (gN 4) (aG (gN 5) (aG (gN 6) bJ)))))
  (ag (aB [7] (iL (aj wC (aa (d2 zR (dV 5) (dV 6)) ae))) (gN 7)
  (YM 1 (ax (aa (bN (aA 2) (dV 7)) (aa (dV 3) ae))) 7))
  (aB [7] (iL (d2 zR (dV 4) (dV 5))) (gN 7)
  (fU 2 (dV 7) (dV 3)))))
  (cm 1 (aC (ao 1 [1] (iL (aj Yr (aa (aj yD (aa (dV 1) ae)) ae))) (gN 0) aD (ax (aa (dV 0) (aa (bN (dV 1) (dV 0)) ae)))))))))
noncomputable def YS:List Dt->Option Dt:=bg 1 1
  (aC (d2 zB (d2 zf (d2 af (d2 af (dV 0) (dC (.int 0))) (dC (.int 0))) (d2 af (d2 af (dV 0) (dC (.int 1))) (dC (.int 2)))) (d2 zf (d2 af (d2 af (dV 0) (dC (.int 1))) (dC (.int 0))) (d2 af (d2 af (dV 0) (dC (.int 0))) (dC (.int 2))))))
noncomputable def qQ:List Dt->Option Dt:=bg 3 1
  (ag (ak 1 (dC (.int 0)))
  (ag (aB [2] (iL (dV 0)) (gN 2)
  (ak 1 (d2 w6 (dV 1) (dV 2))))
  (aC (dV 1))))
noncomputable def Ya:List Dt->Option Dt:=bg 6 1
  (ag (aU 1 (dC (.dT [] [])))
  (ag (aB [2,3,4,5] (iC iG (aa (dV 0) ae)) (gT 2 (aG (gN 2) (aG (gN 3) bJ)))
  (ag (ak 4 (fm (aA 1) (d2 af (dV 3) (dC (.int 0))) (aK ae)))
  (ag (ak 5 (wK [0,4,3] (d2 lC (aj qJ (aa (d2 af (dV 3) (dC (.int 0))) (aa (d2 af (dV 3) (dC (.int 1))) (aa (d2 af (d2 af (dV 1) (d2 af (dV 2) (dV 0))) (dC (.int 1))) ae)))) (dC (.int 0))) (aj zu (aa (dV 4) ae))))
  (fU 1 (d2 af (dV 3) (dC (.int 0))) (d2 zR (d2 zR (fS (dV 4) oN (oS (dV 5))) (aK (aa (dV 2) ae))) (fS (dV 4) (oS (dV 5)) oN))))))
  (cm 1 (aC (dV 1)))))
noncomputable def qN:List Dt->Option Dt:=bg 13 2
  (ag (aU 2 (ao 1 [] (iL (dV 0)) (gN 0) aD (aj vC (aa (d2 af (dV 0) (dC (.int 0))) (aa (d2 af (dV 0) (dC (.int 1))) ae)))))
  (ag (ak 3 (aj Ya (aa (dV 0) ae)))
  (ag (aU 4 (ao 1 [] (iL (dV 0)) (gN 0) aD (ax (aa (dC (.int 0)) (aa (dC (.int 0)) ae)))))
  (ag (aU 5 (aK ae))
  (ag (aB [6,7,8,9,10,12] (iL (aj qe (aa (aj jm (aa (dV 0) ae)) ae))) (gN 6)
  (ag (ak 7 (wK [5,2,6] (d2 mJ (aj xE (aa (d2 af (aA 2) (d2 af (aA 1) (dV 0))) (aa (dV 3) ae))) (dC (.int 0))) (aj zu (aa (aA 5) ae))))
  (ag (ak 8 (dV 7))
  (ag (wm 2000000 [] (bM (dB (d2 cz (dV 8) (aj zu (aa (aA 5) ae)))) (dB (d2 cI (d2 af (d2 af (dV 0) (d2 af (aA 5) (dV 8))) (dC (.int 1))) (dV 6)))) (fT 8 (mI λi j=>i+j) (dC (.int 1))))
  (ag (ak 9 (aj qQ (aa (ao 1 [1] (iL (fS (aA 5) (oS (dV 8)) oN)) (gN 0) aD (d2 af (dV 1) (dV 0))) ae)))
  (ag (ak 10 (fm (dV 3) (dV 6) (aK ae)))
  (ag (aB [] (iC lG (aa (dV 10) ae)) (gN 11)
  (ag (j6 4 (dV 11) (ax (aa (dV 9) (aa (d2 w6 (dV 9) (d2 af (dV 1) (dV 11))) ae))))
  (ak 9 (d2 w6 (dV 9) (d2 af (dV 1) (dV 11))))))
  (ag (aU 12 (ao 1 [0] (iL (dV 10)) (gN 0) (aT (dB (aj YS (aa (d2 af (dV 1) (dV 0)) ae)))) (dV 0)))
  (aU 5 (d2 zR (d2 zR (fS (aA 5) oN (oS (dV 7))) (aA 12)) (fS (aA 5) (oS (dV 8)) oN)))))))))))
  (cm 4 (aC (dV 4))))))))
noncomputable def yK:List Dt->Option Dt:=bg 2 2
  (ag (au (dB (d2 cz (dV 1) (aj zu (aa (dV 0) ae)))) (aC (d2 af (dV 0) (dV 1))) aO)
  (aC (dC (.int 0))))
end Nu
end
noncomputable section
namespace Nu
noncomputable def YT:List Dt->Option Dt:=bg 1 1
  (aC (ao 2 [] (iL (dV 0)) (gT 2 (aG (gN 0) (aG (gN 1) bJ))) aD (aj Y0 (aa (dV 0) (aa (dV 1) ae)))))
noncomputable def jT:List Dt->Option Dt:=bg 4 2
  (ag (ak 2 (dC (.int 0)))
  (ag (aB [3] (iL (dV 0)) (gN 3)
  (ak 2 (d2 m9 (dV 2) (C6 (dB (d2 cz (dV 3) (dV 1))) (dC (.int 1)) (dC (.int 2))))))
  (aC (dV 2))))
noncomputable def vk:List Dt->Option Dt:=bg 2 2
  (aC (d2 yb (d2 qF (dV 0) (dV 1)) (dC (.int 0))))
noncomputable def wg:List Dt->Option Dt:=jb 9 2 4
  (ag (ak 2 (aj Ym (aa (aj YT (aa (d2 zR (aA 0) (aA 1)) ae)) ae)))
  (ag (aU 3 (ao 2 [0] (iL (dV 2)) (gT 2 (aG (gN 0) (aG (gN 1) bJ))) aD (aj jT (aa (dV 1) (aa (aj zu (aa (aA 2) ae)) ae)))))
  (ag (aU 4 (aK ae))
  (ag (cm 3 (aB [5,6,7,8] (iC lE (aa (dV 2) (aa (aj qN (aa (ao 2 [] (iL (dV 2)) (gT 2 (aG (gN 0) (aG (gN 1) bJ))) aD (dV 0)) (aa (dV 3) ae))) ae))) (gT 2 (aG (gN 5) (aG (gN 6) bJ)))
  (ag (ak 7 (d2 af (dV 6) (dC (.int 0))))
  (ag (ak 8 (d2 af (dV 6) (dC (.int 1))))
  (iw 4 (ax (aa (d2 af (dV 5) (dC (.int 0))) (aa (aj vk (aa (dV 7) (aa (dC (.int 1)) ae))) (aa (aj vk (aa (dV 8) (aa (dC (.int 1)) ae))) (aa (aj vk (aa (dV 7) (aa (dC (.int 2)) ae))) (aa (aj vk (aa (dV 8) (aa (dC (.int 2)) ae))) ae)))))))))))
  aO))))
end Nu
end
noncomputable section
namespace Nu
noncomputable def yL:List Dt->Option Dt:=bg 7 3
  (ag (ak 3 (d2 zo (d2 zf (d2 af (dV 1) (dC (.int 0))) (d2 af (dV 0) (dC (.int 2)))) (d2 zf (d2 af (dV 0) (dC (.int 0))) (d2 af (dV 1) (dC (.int 2))))))
  (ag (ak 4 (d2 zo (d2 zf (d2 af (dV 1) (dC (.int 1))) (d2 af (dV 0) (dC (.int 2)))) (d2 zf (d2 af (dV 0) (dC (.int 1))) (d2 af (dV 1) (dC (.int 2))))))
  (ag (ak 5 (d2 zo (d2 zf (d2 af (dV 2) (dC (.int 0))) (d2 af (dV 0) (dC (.int 2)))) (d2 zf (d2 af (dV 0) (dC (.int 0))) (d2 af (dV 2) (dC (.int 2))))))
  (ag (ak 6 (d2 zo (d2 zf (d2 af (dV 2) (dC (.int 1))) (d2 af (dV 0) (dC (.int 2)))) (d2 zf (d2 af (dV 0) (dC (.int 1))) (d2 af (dV 2) (dC (.int 2))))))
  (aC (d2 zo (aj xM (aa (d2 lC (d2 zf (dV 3) (dV 6)) (d2 zf (dV 4) (dV 5))) ae)) (aj xM (aa (d2 cz (d2 zf (dV 3) (dV 6)) (d2 zf (dV 4) (dV 5))) ae))))))))
noncomputable def xo:List Dt->Option Dt:=bg 2 2
  (ag (au (dB (d2 yb (d2 zf (d2 af (dV 0) (dC (.int 0))) (d2 af (dV 1) (dC (.int 2)))) (d2 zf (d2 af (dV 1) (dC (.int 0))) (d2 af (dV 0) (dC (.int 2)))))) (aC (d2 cz (d2 zf (d2 af (dV 0) (dC (.int 0))) (d2 af (dV 1) (dC (.int 2)))) (d2 zf (d2 af (dV 1) (dC (.int 0))) (d2 af (dV 0) (dC (.int 2)))))) aO)
  (aC (d2 cz (d2 zf (d2 af (dV 0) (dC (.int 1))) (d2 af (dV 1) (dC (.int 2)))) (d2 zf (d2 af (dV 1) (dC (.int 1))) (d2 af (dV 0) (dC (.int 2)))))))
noncomputable def wQ:List Dt->Option Dt:=bg 2 2
  (ag (au (dB (d2 bZ (d2 af (dV 0) (dC (.int 0))) (d2 af (dV 1) (dC (.int 0))))) (aC (aj xo (aa (d2 af (dV 0) (dC (.int 0))) (aa (d2 af (dV 1) (dC (.int 0))) ae)))) aO)
  (aC (aj xo (aa (d2 af (dV 0) (dC (.int 1))) (aa (d2 af (dV 1) (dC (.int 1))) ae)))))
noncomputable def qh:List Dt->Option Dt:=bg 4 1
  (ag (aU 1 (aK ae))
  (ag (aB [2,3] (iL (dV 0)) (gN 2)
  (ag (ak 3 (dC (.int 0)))
  (ag (wm 64 [] (bM (dB (d2 cz (dV 3) (aj zu (aa (aA 1) ae)))) (dB (aj wQ (aa (d2 af (aA 1) (dV 3)) (aa (dV 2) ae))))) (ak 3 (d2 zN (dV 3) (dC (.int 1)))))
  (jQ 1 (dV 3) (dV 2)))))
  (cm 1 (aC (dV 1)))))
noncomputable def xY:List Dt->Option Dt:=bg 7 1
  (ag (ak 1 (d2 zo (d2 zG (d2 af (dV 0) (dC (.int 0))) (dC (.int 9))) (dC (.int 4))))
  (ag (ak 2 (d2 zo (d2 zG (d2 af (dV 0) (dC (.int 1))) (dC (.int 9))) (dC (.int 4))))
  (ag (au (dB (d2 zB (d2 zG (d2 af (dV 0) (dC (.int 2))) (dC (.int 2))) (dC (.int 0)))) (ag (ak 3 (d2 zN (d2 zN (dV 1) (dC (.int 1))) (d2 zG (d2 zE (d2 af (dV 0) (dC (.int 2))) (dC (.int 2))) (dC (.int 5)))))
  (ag (ak 4 (d2 zN (d2 zN (dV 2) (dC (.int 1))) (d2 zG (d2 zE (d2 af (dV 0) (dC (.int 2))) (dC (.int 10))) (dC (.int 5)))))
  (aC (aK (aa (ax (aa (dV 1) (aa (dV 2) (aa (dC (.int 1)) ae)))) (aa (ax (aa (dV 3) (aa (dV 2) (aa (dC (.int 1)) ae)))) (aa (ax (aa (dV 3) (aa (dV 4) (aa (dC (.int 1)) ae)))) (aa (ax (aa (dV 1) (aa (dV 4) (aa (dC (.int 1)) ae)))) ae)))))))) aO)
  (ag (ak 5 (ax (aa (d2 zo (d2 zG (d2 af (dV 0) (dC (.int 3))) (dC (.int 9))) (dC (.int 4))) (aa (d2 zo (d2 zG (d2 zE (d2 af (dV 0) (dC (.int 3))) (dC (.int 9))) (dC (.int 9))) (dC (.int 4))) (aa (dC (.int 1)) ae)))))
  (ag (aU 6 (aK (aa (ax (aa (dV 1) (aa (dV 2) (aa (dC (.int 1)) ae)))) (aa (dV 5) (aa (ax (aa (d2 zo (d2 zG (d2 zE (d2 af (dV 0) (dC (.int 2))) (dC (.int 2))) (dC (.int 9))) (dC (.int 4))) (aa (d2 zo (d2 zG (d2 zE (d2 af (dV 0) (dC (.int 2))) (dC (.int 18))) (dC (.int 9))) (dC (.int 4))) (aa (dC (.int 1)) ae)))) ae)))))
  (ag (au (dB (d2 cz (aj yL (aa (d2 af (aA 6) (dC (.int 0))) (aa (d2 af (aA 6) (dC (.int 1))) (aa (d2 af (aA 6) (dC (.int 2))) ae)))) (dC (.int 0)))) (aU 6 (IH (aA 6))) aO)
  (ag (au (dB (d2 zB (aj yL (aa (d2 af (aA 6) (dC (.int 0))) (aa (d2 af (aA 6) (dC (.int 1))) (aa (d2 af (aA 6) (dC (.int 2))) ae)))) (dC (.int 0)))) (aC (aK (aa (ax (aa (dV 1) (aa (dV 2) (aa (dC (.int 1)) ae)))) (aa (ax (aa (d2 zN (dV 1) (dC (.int 2))) (aa (dV 2) (aa (dC (.int 1)) ae)))) (aa (ax (aa (dV 1) (aa (d2 zN (dV 2) (dC (.int 3))) (aa (dC (.int 1)) ae)))) ae))))) aO)
  (cm 6 (aC (dV 6))))))))))
noncomputable def jI:List Dt->Option Dt:=bg 1 1
  (aC (aj qh (aa (ao 1 [0] (iC bI (aa (aj zu (aa (dV 0) ae)) ae)) (gN 0) aD (ax (aa (d2 af (dV 1) (d2 zo (dV 0) (dC (.int 1)))) (aa (d2 af (dV 1) (dV 0)) ae)))) ae)))
noncomputable def v7:List Dt->Option Dt:=bg 5 1
  (ag (aU 1 (aK (aa (ax (aa (dC (.int 1)) (aa (dC (.int 0)) (aa (dC (.int 0)) (aa (dC (.int 1)) ae))))) (aa (ax (aa (dC (.int 2)) (aa (dC (.int 1)) (aa (dC (.int 0)) (aa (dC (.int 1)) ae))))) (aa (ax (aa (dC (.int 1)) (aa (dC (.int 1)) (aa (d1 yC (dC (.int 1))) (aa (dC (.int 1)) ae))))) (aa (ax (aa (dC (.int 3)) (aa (d1 yC (dC (.int 1))) (aa (dC (.int 1)) (aa (dC (.int 2)) ae))))) ae))))))
  (ag (aU 1 (d2 zR (aA 1) (aK (aa (ax (aa (dC (.int 1)) (aa (dC (.int 2)) (aa (dC (.int 0)) (aa (dC (.int 1)) ae))))) (aa (ax (aa (dC (.int 0)) (aa (d1 yC (dC (.int 1))) (aa (dC (.int 1)) (aa (dC (.int 0)) ae))))) (aa (ax (aa (dC (.int 5)) (aa (dC (.int 3)) (aa (dC (.int 3)) (aa (dC (.int 2)) ae))))) (aa (ax (aa (d1 yC (dC (.int 1))) (aa (dC (.int 0)) (aa (dC (.int 2)) (aa (d1 yC (dC (.int 3))) ae))))) ae)))))))
  (ag (ak 2 (d2 af (aK (aa (dC (.int 1)) (aa (dC (.int 1)) (aa (dC (.int 1)) (aa (dC (.int 1000003)) (aa (d2 zN (d2 qU (dC (.int 10)) (dC (.int 18))) (dC (.int 9))) ae)))))) (d2 zG (d2 zE (dV 0) (dC (.int 8))) (dC (.int 5)))))
  (ag (ak 3 (d2 zf (d2 zo (d2 zG (d2 zE (dV 0) (dC (.int 40))) (dC (.int 13))) (dC (.int 6))) (dV 2)))
  (ag (ak 4 (d2 zf (d2 zo (d2 zG (d2 zE (dV 0) (dC (.int 520))) (dC (.int 13))) (dC (.int 6))) (dV 2)))
  (aC (d2 yV (d2 af (aA 1) (d2 zG (dV 0) (dC (.int 8)))) (ax (aa (dV 3) (aa (dV 4) (aa (d2 af (aK (aa (dC (.int 1)) (aa (dC (.int 1)) (aa (dC (.int 2)) (aa (dC (.int 3)) (aa (dC (.int 6)) ae)))))) (d2 zG (d2 zE (dV 0) (dC (.int 40))) (dC (.int 5)))) ae)))))))))))
noncomputable def vh:List Dt->Option Dt:=bg 6 2
  (ag (ak 2 (d2 zN (d2 zN (d2 zf (d2 af (dV 0) (dC (.int 0))) (d2 af (dV 1) (dC (.int 0)))) (d2 zf (d2 af (dV 0) (dC (.int 1))) (d2 af (dV 1) (dC (.int 1))))) (d2 zf (d2 af (dV 0) (dC (.int 4))) (d2 af (dV 1) (dC (.int 2))))))
  (ag (ak 3 (d2 zN (d2 zN (d2 zf (d2 af (dV 0) (dC (.int 2))) (d2 af (dV 1) (dC (.int 0)))) (d2 zf (d2 af (dV 0) (dC (.int 3))) (d2 af (dV 1) (dC (.int 1))))) (d2 zf (d2 af (dV 0) (dC (.int 5))) (d2 af (dV 1) (dC (.int 2))))))
  (ag (ak 4 (d2 zf (d2 af (dV 0) (dC (.int 6))) (d2 af (dV 1) (dC (.int 2)))))
  (ag (aB [5] (iL (aK (aa (dC (.int 2)) (aa (dC (.int 2)) (aa (dC (.int 3)) (aa (dC (.int 3)) ae)))))) (gN 5)
  (au (bM (dB (d2 zB (d2 zG (dV 2) (dV 5)) (dC (.int 0)))) (bM (dB (d2 zB (d2 zG (dV 3) (dV 5)) (dC (.int 0)))) (dB (d2 zB (d2 zG (dV 4) (dV 5)) (dC (.int 0)))))) (ag (ak 2 (d2 zE (dV 2) (dV 5)))
  (ag (ak 3 (d2 zE (dV 3) (dV 5)))
  (ak 4 (d2 zE (dV 4) (dV 5))))) aO))
  (aC (ax (aa (dV 2) (aa (dV 3) (aa (dV 4) ae)))))))))
noncomputable def qZ:List Dt->Option Dt:=bg 6 1
  (ag (ak 1 (aj xY (aa (ao 1 [0] (iC bI (aa (dC (.int 4)) ae)) (gN 0) aD (aj yK (aa (dV 1) (aa (dV 0) ae)))) ae)))
  (ag (ak 2 (aj xY (aa (ao 1 [0] (iC dU (aa (dC (.int 4)) (aa (dC (.int 8)) ae))) (gN 0) aD (aj yK (aa (dV 1) (aa (dV 0) ae)))) ae)))
  (ag (ak 3 (d2 zG (aj yK (aa (dV 0) (aa (dC (.int 8)) ae))) (dC (.int 8))))
  (ag (au (dB (d2 zB (dV 3) (dC (.int 1)))) (aU 2 (aj yv (aa (dV 1) ae))) aO)
  (ag (au (dB (d2 zB (dV 3) (dC (.int 2)))) (aU 2 (ao 3 [] (iL (dV 1)) (gT 3 (aG (gN 0) (aG (gN 1) (aG (gN 2) bJ)))) aD (ax (aa (d2 zN (dV 0) (dC (.int 1))) (aa (dV 1) (aa (dC (.int 1)) ae)))))) aO)
  (ag (au (dB (d2 zB (dV 3) (dC (.int 3)))) (ag (ak 4 (jL (ao 3 [] (iL (dV 1)) (gT 3 (aG (gN 0) (aG (gN 1) (aG (gN 2) bJ)))) aD (dV 0))))
  (aU 2 (IH (ao 3 [4] (iL (dV 1)) (gT 3 (aG (gN 0) (aG (gN 1) (aG (gN 2) bJ)))) aD (ax (aa (d2 zo (d2 zf (dC (.int 2)) (dV 3)) (dV 0)) (aa (dV 1) (aa (dC (.int 1)) ae)))))))) aO)
  (ag (au (bM (dB (d2 zB (dV 3) (dC (.int 4)))) (dB (d2 zB (aj zu (aa (dV 1) ae)) (dC (.int 4))))) (aU 2 (d2 zR (fS (dV 1) oN (oS (dC (.int 3)))) (aK (aa (ax (aa (d2 zo (d2 af (d2 af (dV 1) (dC (.int 3))) (dC (.int 0))) (dC (.int 1))) (aa (d2 af (d2 af (dV 1) (dC (.int 3))) (dC (.int 1))) (aa (dC (.int 1)) ae)))) ae)))) aO)
  (ag (ak 5 (aj v7 (aa (d2 zE (aj yK (aa (dV 0) (aa (dC (.int 8)) ae))) (dC (.int 8))) ae)))
  (aC (ax (aa (ao 1 [5] (iL (dV 1)) (gN 0) aD (aj vh (aa (dV 1) (aa (dV 0) ae)))) (aa (ao 1 [5] (iL (aA 2)) (gN 0) aD (aj vh (aa (dV 1) (aa (dV 0) ae)))) ae))))))))))))
noncomputable def jN:List Dt->Option Dt:=bg 4 2
  (ag (ak 2 (d2 zN (d2 zf (d2 af (dV 0) (dC (.int 0))) (d2 af (dV 1) (dC (.int 2)))) (d2 zf (d2 af (dV 1) (dC (.int 0))) (d2 af (dV 0) (dC (.int 2))))))
  (ag (ak 3 (d2 zN (d2 zf (d2 af (dV 0) (dC (.int 1))) (d2 af (dV 1) (dC (.int 2)))) (d2 zf (d2 af (dV 1) (dC (.int 1))) (d2 af (dV 0) (dC (.int 2))))))
  (aC (ax (aa (dV 2) (aa (dV 3) (aa (d2 zf (d2 zf (dC (.int 2)) (d2 af (dV 0) (dC (.int 2)))) (d2 af (dV 1) (dC (.int 2)))) ae)))))))
noncomputable def zZ:List Dt->Option Dt:=bg 4 3
  (ag (au (dB (d2 yb (aj yL (aa (dV 1) (aa (dV 2) (aa (dV 0) ae)))) (dC (.int 0)))) (aC (dC (.bool false))) aO)
  (ag (ak 3 (d2 bZ (aj xo (aa (dV 1) (aa (dV 0) ae))) (aj xo (aa (dV 2) (aa (dV 0) ae)))))
  (aC (Ls (d2 cI (dV 0) (dV 1)) (Ls (d2 cI (dV 0) (dV 2)) (dV 3))))))
noncomputable def Yh:List Dt->Option Dt:=bg 3 1
  (ag (au (cb (aT (dB (d1 (yg "tuple") (dV 0)))) (dB (d2 yb (aj zu (aa (dV 0) ae)) (dC (.int 2))))) (aC (dC (.bool false))) aO)
  (ag (aB [1,2] (iT (dV 0)) (gN 1)
  (ag (au (cb (aT (dB (d1 (yg "tuple") (dV 1)))) (dB (d2 yb (aj zu (aa (dV 1) ae)) (dC (.int 3))))) (aC (dC (.bool false))) aO)
  (aB [2] (iT (dV 1)) (gN 2)
  (au (cb (aT (dB (d1 (yg "int") (dV 2)))) (dB (d1 (yg "bool") (dV 2)))) (aC (dC (.bool false))) aO))))
  (aC (dC (.bool true)))))
noncomputable def wf:List Dt->Option Dt:=bg 13 3
  (ag (ak 3 (aj jN (aa (d2 af (dV 1) (dC (.int 0))) (aa (d2 af (dV 1) (dC (.int 1))) ae))))
  (ag (aB [4,5,6,7,8,9,10,11,12] (iC bI (aa (aj zu (aa (dV 0) ae)) ae)) (gN 4)
  (ag (ak 5 (d2 af (dV 0) (d2 zo (dV 4) (dC (.int 1)))))
  (ag (ak 6 (d2 af (dV 0) (dV 4)))
  (ag (ak 7 (aj yL (aa (dV 5) (aa (dV 6) (aa (dV 3) ae)))))
  (ag (au (dB (d2 zB (dV 7) (dC (.int 0)))) (ag (yM (dV 1) (gT 2 (aG (gN 8) (aG (gN 9) bJ))))
  (ag (ak 10 (d2 zo (d2 zf (d2 af (dV 9) (dC (.int 0))) (d2 af (dV 8) (dC (.int 2)))) (d2 zf (d2 af (dV 8) (dC (.int 0))) (d2 af (dV 9) (dC (.int 2))))))
  (ag (ak 11 (d2 zo (d2 zf (d2 af (dV 9) (dC (.int 1))) (d2 af (dV 8) (dC (.int 2)))) (d2 zf (d2 af (dV 8) (dC (.int 1))) (d2 af (dV 9) (dC (.int 2))))))
  (ag (ak 12 (d2 zN (d2 zf (d2 zo (d2 zf (d2 af (dV 6) (dC (.int 0))) (d2 af (dV 5) (dC (.int 2)))) (d2 zf (d2 af (dV 5) (dC (.int 0))) (d2 af (dV 6) (dC (.int 2))))) (dV 10)) (d2 zf (d2 zo (d2 zf (d2 af (dV 6) (dC (.int 1))) (d2 af (dV 5) (dC (.int 2)))) (d2 zf (d2 af (dV 5) (dC (.int 1))) (d2 af (dV 6) (dC (.int 2))))) (dV 11))))
  (ak 7 (d2 zf (dV 2) (d2 zo (aj xM (aa (d2 lC (dV 12) (dC (.int 0))) ae)) (aj xM (aa (d2 cz (dV 12) (dC (.int 0))) ae))))))))) aO)
  (au (dB (d2 cz (dV 7) (dC (.int 0)))) (aC (dC (.bool false))) aO))))))
  (aC (dC (.bool true)))))
noncomputable def jH:List Dt->Option Dt:=bg 6 2
  (ag (aU 2 (aK ae))
  (ag (aB [3,4] (iL (dV 1)) (gT 2 (aG (gN 3) (aG (gN 4) bJ)))
  (ag (au (cb (dB (d2 cI (dV 0) (dV 3))) (dB (d2 cI (dV 0) (dV 4)))) (aC (dC (.bool true))) aO)
  (au (dB (aj zZ (aa (dV 0) (aa (dV 3) (aa (dV 4) ae))))) (iw 2 (ax (aa (dV 3) (aa (dV 4) ae)))) aO)))
  (ag (aB [5] (iL (fS (aA 2) (oS (dC (.int 1))) oN)) (gN 5)
  (au (cb (dB (d2 yb (aj yL (aa (d2 af (d2 af (aA 2) (dC (.int 0))) (dC (.int 0))) (aa (d2 af (d2 af (aA 2) (dC (.int 0))) (dC (.int 1))) (aa (d2 af (dV 5) (dC (.int 0))) ae)))) (dC (.int 0)))) (dB (d2 yb (aj yL (aa (d2 af (d2 af (aA 2) (dC (.int 0))) (dC (.int 0))) (aa (d2 af (d2 af (aA 2) (dC (.int 0))) (dC (.int 1))) (aa (d2 af (dV 5) (dC (.int 1))) ae)))) (dC (.int 0))))) (aC (dC (.bool true))) aO))
  (aC (dC (.bool false))))))
noncomputable def jq:List Dt->Option Dt:=bg 6 2
  (ag (yM (dV 0) (gT 2 (aG (gN 2) (aG (gN 3) bJ))))
  (ag (aU 4 (ao 1 [2,3] (iL (dV 1)) (gN 0) (bM (dB (aj zZ (aa (d2 af (dV 0) (dC (.int 0))) (aa (dV 1) (aa (dV 2) ae))))) (dB (aj zZ (aa (d2 af (dV 0) (dC (.int 1))) (aa (dV 1) (aa (dV 2) ae)))))) (dV 0)))
  (ag (au (aT (dB (aj xo (aa (dV 2) (aa (dV 3) ae))))) (yM (ax (aa (dV 3) (aa (dV 2) ae))) (gT 2 (aG (gN 2) (aG (gN 3) bJ)))) aO)
  (ag (cm 4 (aB [5] (iL (dV 4)) (gN 5)
  (ag (au (dB (d2 bZ (d2 af (dV 5) (dC (.int 0))) (dV 2))) (aC (dC (.bool false))) aO)
  (ak 2 (d2 af (dV 5) (dC (.int 1)))))))
  (aC (d2 cI (dV 2) (dV 3)))))))
noncomputable def F_law31:List Dt->Option Dt:=bg 13 1
  (ag (yM (aj qZ (aa (dV 0) ae)) (gT 2 (aG (gN 1) (aG (gN 2) bJ))))
  (ag (aU 3 (aK (aa (aj jI (aa (dV 1) ae)) (aa (aj jI (aa (dV 2) ae)) ae))))
  (ag (qD 4 (aa (aj yv (aa (d2 af (aA 3) (dC (.int 0))) ae)) (aa (aj yv (aa (d2 af (aA 3) (dC (.int 1))) ae)) ae)))
  (ag (aU 5 (aj wg (aa (bw 4 (dC (.int 0))) (aa (bw 4 (dC (.int 1))) ae))))
  (ag (au (aT (dB (d1 (yg "list") (aA 5)))) (aC (dC (.bool false))) aO)
  (ag (aU 6 (aj yv (aa (aA 5) ae)))
  (ag (tV (aj wg (aa (bw 4 (dC (.int 1))) (aa (bw 4 (dC (.int 0))) ae))))
  (ag (iw 5 (dC (.int 1)))
  (ag (aU 5 (aj wg (aa (bw 4 (dC (.int 0))) (aa (bw 4 (dC (.int 1))) ae))))
  (ag (au (cb (aT (dB (d1 (yg "list") (aA 5)))) (cb (dB (d2 bZ (aA 5) (aA 6))) (dB (jp 4 (aA 3))))) (aC (dC (.bool false))) aO)
  (ag (aU 7 (aK ae))
  (ag (cm 5 (aB [8,9] (iL (dV 5)) (gN 8)
  (ag (au (cb (aT (dB (d1 (yg "tuple") (dV 8)))) (cb (dB (d2 yb (aj zu (aa (dV 8) ae)) (dC (.int 5)))) (aT (dB (aj Yh (aa (d2 af (dV 8) (dC (.int 0))) ae)))))) (aC (dC (.bool false))) aO)
  (ag (au (aT (dB (aj xo (aa (d2 af (d2 af (dV 8) (dC (.int 0))) (dC (.int 0))) (aa (d2 af (d2 af (dV 8) (dC (.int 0))) (dC (.int 1))) ae))))) (aC (dC (.bool false))) aO)
  (ag (au (bM (dB (d2 bZ (aA 7) (aK ae))) (aT (dB (aj wQ (aa (d2 af (aA 7) (d1 yC (dC (.int 1)))) (aa (d2 af (dV 8) (dC (.int 0))) ae)))))) (aC (dC (.bool false))) aO)
  (ag (iw 7 (d2 af (dV 8) (dC (.int 0))))
  (ag (aU 9 (aK (aa (aj wf (aa (dV 1) (aa (d2 af (dV 8) (dC (.int 0))) (aa (dC (.int 1)) ae)))) (aa (aj wf (aa (dV 1) (aa (d2 af (dV 8) (dC (.int 0))) (aa (d1 yC (dC (.int 1))) ae)))) ae))))
  (ag (aU 9 (d2 zR (aA 9) (aK (aa (aj wf (aa (dV 2) (aa (d2 af (dV 8) (dC (.int 0))) (aa (dC (.int 1)) ae)))) (aa (aj wf (aa (dV 2) (aa (d2 af (dV 8) (dC (.int 0))) (aa (d1 yC (dC (.int 1))) ae)))) ae)))))
  (au (cb (aT (dB (aj y6 (aa (ao 1 [] (iT (d2 xT (dV 8) (dC (.int 1)))) (gN 0) aD (d1 (yg "bool") (dV 0))) ae)))) (dB (d2 bZ (aj yv (aa (d2 xT (dV 8) (dC (.int 1))) ae)) (aA 9)))) (aC (dC (.bool false))) aO)))))))))
  (ag (ak 10 (d2 zR (d2 af (aA 3) (dC (.int 0))) (d2 af (aA 3) (dC (.int 1)))))
  (ag (cm 7 (aB [11] (iL (dV 7)) (gN 11)
  (ag (au (cb (aT (dB (aj jH (aa (d2 af (dV 11) (dC (.int 0))) (aa (dV 10) ae))))) (aT (dB (aj jH (aa (d2 af (dV 11) (dC (.int 1))) (aa (dV 10) ae)))))) (aC (dC (.bool false))) aO)
  (au (aT (dB (aj wH (aa (ao 2 [11] (iL (dV 10)) (gT 2 (aG (gN 0) (aG (gN 1) bJ))) aD (fi (aj zZ (aa (d2 af (dV 2) (dC (.int 0))) (aa (dV 0) (aa (dV 1) ae)))) (aj zZ (aa (d2 af (dV 2) (dC (.int 1))) (aa (dV 0) (aa (dV 1) ae)))))) ae)))) (aC (dC (.bool false))) aO))))
  (ag (aU 12 (aj yv (aa (dV 5) ae)))
  (ag (tV (aj wg (aa (bw 4 (dC (.int 1))) (aa (bw 4 (dC (.int 1))) ae))))
  (ag (jv 4 (dC (.int 0)) (d2 af (bw 4 (dC (.int 0))) (dC (.int 0))))
  (ag (au (cb (dB (d2 bZ (dV 5) (aA 12))) (dB (d2 bZ (aj wg (aa (d2 af (aA 3) (dC (.int 0))) (aa (bw 4 (dC (.int 1))) ae))) (aA 6)))) (aC (dC (.bool false))) aO)
  (aC (aj y6 (aa (ao 1 [7] (iL (dV 10)) (gN 0) aD (aj jq (aa (dV 0) (aa (dV 1) ae)))) ae)))))))))))))))))))))
end Nu
end
namespace Nu
section
variable{G:Gx}{ad:Nat->Addr}{fd:Nat->uz}
seal L2.PE L2.PT L2.PW L2.PA L2.PS L2.PSs L2.PG L2.PGs L2.PI L2.PO L2.PIf L2.PF L2.PL L2.PSr L2.PFs dV aA dC d1 d2 ae aa ax aK aj dB bM cb aT C6 zo zf zE zG qU w6 m9 qF yC cz mJ lC Lr zB yb cI bZ jD af fi Ls C9 ak aU ag aO aC au cm qi iw iL iT bI dU lE fj iG lG iC gN bJ aG gT aB ao aD bg zu vA wJ yv zR yV oN oS fS wm yM fT iX Rl j6 iI bN fm fU yD iD nh qt jv YX YM vU D0 jW iy Ms jC wK D1 wC Rm yg ja YO IA xM jQ IH jL y6 wH xT tV bw jp qD jb
local macro_rules
  | `(tactic| trivial) => do
  let I:=λ(x:String)=>Bt x.toName
  let f:=λ(s:String) g=>((s.splitOn " ").toArray.mapM g:Ft (Array (FG `tactic)))
    let v0 <- f "D4 cF nN n6 Mx nQ ot D5 D6 Nc lJ Nb rj rg" fun x => `(tactic| exact $(I x))
    let v1 <- f "dv U3" fun x => `(tactic| exact $(I x) _)
    let v2 <- f "bY MT lI D9" fun x => `(tactic| (refine $(I x) ?_ ?_ <;> trivial))
    let v3 <- f "nP G7 G4" fun x => `(tactic| (refine $(I x) ?_ <;> trivial))
    let v4 <- f "MV" fun x => `(tactic| (refine $(I x) ?_ ?_ ?_ <;> trivial))
    let v5 <- f "MW" fun x => `(tactic| (refine $(I x) _ (yk (by kernel_rfl)) ?_ <;> trivial))
    let v6 <- f "MZ" fun x => `(tactic| exact $(I x) _ (yk (by kernel_rfl)))
    `(tactic| first | exact nR (U3 _) $[| $v0:tactic]* $[| $v1:tactic]* $[| $v2:tactic]* $[| $v3:tactic]* $[| $v4:tactic]* $[| $v5:tactic]* $[| $v6:tactic]* | infer_instance)
local macro_rules
  | `(tactic| infer_instance) => do
  let I:=λ(x:String)=>Bt x.toName
  let f:=λ(s:String) g=>((s.splitOn " ").toArray.mapM g:Ft (Array (FG `tactic)))
    let v8 <- f "lL D8 E1 D7 nI E8 MQ Hy E9 MF F6 MC G9 mj ME oo E3 F9 Og re Oc mn MG MH MI F3 MD E6 E7 E2 E4 E5" fun x => `(tactic| (refine $(I x) ?_ ?_ <;> trivial))
    let v9 <- f "Hg lH F7 G2 F5 n7 HU nJ Hh F8 Of G1" fun x => `(tactic| (refine $(I x) ?_ <;> trivial))
    let v10 <- f "NB MS" fun x => `(tactic| (refine $(I x) ?_ ?_ ?_ <;> trivial))
    let v11 <- f "G8 MY Hl nV Hm" fun x => `(tactic| (refine $(I x) _ ?_ <;> trivial))
    let v12 <- f "nX p8" fun x => `(tactic| (refine $(I x) _ ?_ ?_ <;> trivial))
    let v13 <- f "Hc" fun x => `(tactic| (refine $(I x) _ ?_ ?_ ?_ <;> trivial))
    let v14 <- f "lM" fun x => `(tactic| (refine $(I x) _ _ ?_ ?_ <;> trivial))
    let v15 <- f "nZ MN MO ML Iz Hp Ib MM" fun x => `(tactic| (refine $(I x) (by first | exact jF (by assumption) | exact LY (by assumption)) ?_ ?_ <;> trivial))
    let v16 <- f "IP oK IQ" fun x => `(tactic| (refine $(I x) _ (by first | exact jF (by assumption) | exact LY (by assumption)) ?_ <;> trivial))
    let v17 <- f "n5 l7 oJ" fun x => `(tactic| (refine $(I x) _ (by first | exact jF (by assumption) | exact LY (by assumption)) ?_ ?_ <;> trivial))
    let v18 <- f "lX" fun x => `(tactic| (refine $(I x) _ (by first | exact jF (by assumption) | exact LY (by assumption)) ?_ ?_ ?_ <;> trivial))
    let v19 <- f "oR" fun x => `(tactic| (refine $(I x) _ _ (by first | exact jF (by assumption) | exact LY (by assumption)) ?_ <;> trivial))
    let v20 <- f "lP" fun x => `(tactic| (refine $(I x) (by first | exact jF (by assumption) | exact LY (by assumption)) ?_ ?_ ?_ <;> trivial))
    let v21 <- f "MX IS" fun x => `(tactic| (refine $(I x) _ (yk (by kernel_rfl)) ?_ <;> trivial))
    `(tactic| first $[| $v8:tactic]* $[| $v9:tactic]* $[| $v10:tactic]* $[| $v11:tactic]* $[| $v12:tactic]* $[| $v13:tactic]* $[| $v14:tactic]* $[| $v15:tactic]* $[| $v16:tactic]* $[| $v17:tactic]* $[| $v18:tactic]* $[| $v19:tactic]* $[| $v20:tactic]* $[| $v21:tactic]* | ac_rfl)
local macro_rules
  | `(tactic| ac_rfl) => do
  let I:=λ(x:String)=>Bt x.toName
  let f:=λ(s:String) g=>((s.splitOn " ").toArray.mapM g:Ft (Array (FG `tactic)))
    let v23 <- f "IG" fun x => `(tactic| (refine $(I x) _ ?_ (fun cl C rb => ⟨?_, ?_, ?_⟩) <;> trivial))
    let v24 <- f "IF" fun x => `(tactic| (refine $(I x) ?_ (fun cl C rb => ⟨?_, ?_, ?_⟩) <;> trivial))
    let v25 <- f "Hv/len og/list lV/list p7/int oC/range H6/enumerate l8/sorted Hw/abs IL/all oD/range H3/zip oH/zip H8/reversed n9/min n8/max IM/any p9/max" fun x => `(tactic| (refine $(I ((x.splitOn "/").head!)) rfl ($(I ("Txt.b_" ++ (x.splitOn "/").getLast!)) (by assumption)) ?_ <;> trivial))
    let v26 <- f "oT/max" fun x => `(tactic| (refine $(I ((x.splitOn "/").head!)) rfl ($(I ("Txt.b_" ++ (x.splitOn "/").getLast!)) (by assumption)) ?_ ?_ <;> trivial))
    let v27 <- f "int bool list tuple" fun x => `(tactic| (refine HW $(I ("isi_" ++ x)) rfl (Txt.b_isinstance (by assumption)) ?_ rfl ($(I ("Txt.b_" ++ x)) (by assumption)) $(I ("bt_" ++ x)) <;> trivial))
    let cc <- f "is_whole divisor point before sign_of line_of side_of turn met order_keys in_order by_points stretch stretches_of ends_of meet_on_line meet shared_ends near_pairs stop_at note lying_at stops pieces is_upright mixed fans_of flanks mask_of has law_cell_at law_turn law_before law_ahead law_sorted law_shape law_land_by law_map law_laid law_two law_amid law_on law_points law_hand law_cut law_through law" fun x => `(tactic| (refine Hk ($(I ("ok_" ++ x)) (by assumption)) ($(I ("Txt." ++ x)) (by assumption)) (by assumption) ?_ <;> trivial))
    let gg <- f "marks" fun x => `(tactic| (refine rh ($(I ("ok_" ++ x)) (by assumption)) ($(I ("Txt." ++ x)) (by assumption)) (by assumption) ?_ <;> trivial))
    let hh <- f "FIRST SECOND" fun x => `(tactic| exact rf rfl ($(I ("Txt.g_" ++ x)) (by assumption)))
    let dd <- f "note" fun x => `(tactic| (refine NV _ ($(I ("ok_" ++ x)) (by assumption)) ($(I ("Txt." ++ x)) (by assumption)) (by assumption) ?_ <;> trivial))
    `(tactic| first | (refine Ha _ (yk (by kernel_rfl)) Hb ?_ <;> trivial) $[| $v23:tactic]* $[| $v24:tactic]* $[| $v25:tactic]* $[| $v26:tactic]* $[| $v27:tactic]* $[| $cc:tactic]* $[| $gg:tactic]* $[| $hh:tactic]* $[| $dd:tactic]* | (refine fe ?_ <;> trivial) | (refine F4 ?_ <;> trivial) | (refine PW.pt ?_ <;> trivial) | refine JR ?_ | refine Zt ?_ | refine fe (JR ?_) | refine fe (Zt ?_) | refine hvG ?_)
def ok_is_whole(T:Txt G ad fd):zk G 1 (ad 0) (fd 0) ["thing"] j9:=T.is_whole.okD zat λcd A a hr=>by trivial
def ok_divisor(T:Txt G ad fd):zk G 1 (ad 1) (fd 1) ["one","other"] qP:=T.divisor.okD zd1 λcd A a hr=>by trivial
def ok_point(T:Txt G ad fd):zk G 2 (ad 2) (fd 2) ["x","y","w"] Yt:=T.point.okD zar λcd A a hr=>by trivial
def ok_before(T:Txt G ad fd):zk G 1 (ad 3) (fd 3) ["P","Q"] vL:=T.before.okD zc3 λcd A a hr=>by trivial
def ok_sign_of(T:Txt G ad fd):zk G 1 (ad 4) (fd 4) ["number"] YB:=T.sign_of.okD zdb λcd A a hr=>by trivial
def ok_line_of(T:Txt G ad fd):zk G 1 (ad 5) (fd 5) ["P","Q"] vC:=T.line_of.okD zau λcd A a hr=>by trivial
def ok_side_of(T:Txt G ad fd):zk G 2 (ad 6) (fd 6) ["line","P"] xE:=T.side_of.okD zaf λcd A a hr=>by trivial
def ok_turn(T:Txt G ad fd):zk G 3 (ad 7) (fd 7) ["P","Q","R"] qJ:=T.turn.okD rl λcd A a hr=>by trivial
def ok_met(T:Txt G ad fd):zk G 3 (ad 8) (fd 8) ["one","other"] Yp:=T.met.okD IU λcd A a hr=>by trivial
def ok_order_keys(T:Txt G ad fd):zk G 1 (ad 9) (fd 9) ["points"] vW:=T.order_keys.okD zb3 λcd A a hr=>by trivial
def ok_in_order(T:Txt G ad fd):zk G 3 (ad 10) (fd 10) ["points"] qe:=T.in_order_c.okD zbm λA a hr=>by
   trivial
   ·exact WS (P:=ad 50) (c0:=ad 49) (clos:=[("keys",a+1)]) (js:=[1]) (VG (kyP (Ix hr))) hr.depth rfl T.b_sorted (vm (by trivial)) (show xV "P" ["keys"] _ from qv rfl (by decide+kernel)) (.cons .nil rfl (by first|exact .inl rfl|exact .inr rfl) rfl) rfl rfl rfl (λ_ _ _ _=>rfl) (λfa c a rb=>by trivial) T.in_order_l
def ok_by_points(T:Txt G ad fd):zk G 3 (ad 11) (fd 11) ["things"] Yr:=T.by_points_c.okD za5 λA a hr=>by
   trivial
   ·exact WS (P:=ad 52) (c0:=ad 51) (clos:=[("keys",a+1)]) (js:=[3]) (VG (kyL (Ix hr))) hr.depth rfl T.b_sorted (vm (by trivial)) (show xV "thing" ["keys"] _ from qv rfl (by decide+kernel)) (.cons .nil rfl (by first|exact .inl rfl|exact .inr rfl) rfl) rfl rfl rfl (λ_ _ _ _=>rfl) (λfa c a rb=>by trivial) T.by_points_l
def ok_stretch(T:Txt G ad fd):zk G 2 (ad 13) (fd 13) ["P","Q"] Y0:=T.stretch.okD zdc λcd A a hr=>by trivial
def ok_stretches_of(T:Txt G ad fd):zk G 3 (ad 14) (fd 14) ["fences"] YT:=T.stretches_of.okD zc2 λcd A a hr=>by trivial
def ok_ends_of(T:Txt G ad fd):zk G 1 (ad 15) (fd 15) ["stretches"] jm:=T.ends_of.okD zch λcd A a hr=>by trivial
def ok_meet_on_line(T:Txt G ad fd):zk G 2 (ad 17) (fd 17) ["one","other"] YV:=T.meet_on_line.okD zbr λcd A a hr=>by trivial
def ok_meet(T:Txt G ad fd):zk G 4 (ad 16) (fd 16) ["one","other"] Y9:=T.meet.okD rm λcd A a hr=>by trivial
def ok_shared_ends(T:Txt G ad fd):zk G 1 (ad 26) (fd 26) ["common"] qu:=T.shared_ends.okD zbp λcd A a hr=>by trivial
def ok_near_pairs(T:Txt G ad fd):zk G 3 (ad 27) (fd 27) ["stretches"] YH:=T.near_pairs_c.okD zbi λA a hr=>by
   trivial
   ·exact WS (P:=ad 58) (c0:=ad 57) (clos:=[("stretches",a+1),("keys",a+9)]) (js:=[0,1]) (tR (kyP (Ix hr))) hr.depth rfl T.b_sorted (Iw rfl T.b_range (by trivial)) (show xV "k" ["stretches","keys"] _ from qv rfl (by decide+kernel)) (.cons (.cons .nil rfl (by first|exact .inl rfl|exact .inr rfl) rfl) rfl (by first|exact .inl rfl|exact .inr rfl) rfl) rfl rfl rfl (λ_ _ _ _=>rfl) (λfa c a rb=>by trivial) T.near_pairs_l
def ok_stop_at(T:Txt G ad fd):zk G 1 (ad 23) (fd 23) ["P","numbers","stretches"] Yw:=T.stop_at.okD zcl λcd A a hr=>by trivial
def ok_note(T:Txt G ad fd):Pq G 1 (ad 25) (fd 25) ["lying","P","number"] vG:=T.note.okW rn λcd A a hr=>by trivial
def ok_lying_at(T:Txt G ad fd):zk G 5 (ad 24) (fd 24) ["stretches"] Yy:=T.lying_at.okD zbk λcd A a hr=>by trivial
def ok_stops(T:Txt G ad fd):zk G 6 (ad 22) (fd 22) ["stretches"] YZ:=T.stops.okD zd5 λcd A a hr=>by trivial
def ok_pieces(T:Txt G ad fd):zk G 7 (ad 28) (fd 28) ["stretches"] Ym:=T.pieces.okD zd8 λcd A a hr=>by trivial
def ok_is_upright(T:Txt G ad fd):zk G 1 (ad 18) (fd 18) ["S"] YS:=T.is_upright.okD za9 λcd A a hr=>by trivial
def ok_mixed(T:Txt G ad fd):zk G 1 (ad 20) (fd 20) ["masks"] qQ:=T.mixed.okD zb6 λcd A a hr=>by trivial
def ok_fans_of(T:Txt G ad fd):zk G 6 (ad 21) (fd 21) ["stretches"] Ya:=T.fans_of_c.okD zae λA a hr=>by
   trivial
   ·exact Ja (P:=ad 56) (c0:=ad 55) (clos:=[("stretches",a+1),("fan",a+3),("S",a+2)]) (js:=[0,4,3]) T.halved JJ hr (by trivial) (show xV "k" ["stretches","fan","S"] _ from qv rfl (by decide+kernel)) (.cons (.cons (.cons .nil rfl (by first|exact .inl rfl|exact .inr rfl) rfl) rfl (by first|exact .inl rfl|exact .inr rfl) rfl) rfl (by first|exact .inl rfl|exact .inr rfl) rfl) rfl rfl rfl (λ_ _ _ _=>rfl) (λfa c A a rb hr=>by trivial) T.fans_of_l
def ok_flanks(T:Txt G ad fd):zk G 7 (ad 19) (fd 19) ["stretches","masks"] qN:=T.flanks_c.okD za4 λA a hr=>by
   trivial
   ·exact Ja (P:=ad 54) (c0:=ad 53) (clos:=[("standing",a+5),("lines",a+4),("P",a+3)]) (js:=[5,2,6]) T.halved JJ hr (by trivial) (show xV "k" ["standing","lines","P"] _ from qv rfl (by decide+kernel)) (.cons (.cons (.cons .nil rfl (by first|exact .inl rfl|exact .inr rfl) rfl) rfl (by first|exact .inl rfl|exact .inr rfl) rfl) rfl (by first|exact .inl rfl|exact .inr rfl) rfl) rfl rfl rfl (λ_ _ _ _=>rfl) (λfa c A a rb hr=>by trivial) T.flanks_l
def ok_mask_of(T:Txt G ad fd):zk G 1 (ad 30) (fd 30) ["owners","many"] jT:=T.mask_of.okD zd7 λcd A a hr=>by trivial
def ok_has(T:Txt G ad fd):zk G 1 (ad 31) (fd 31) ["mask","bit"] vk:=T.has.okD IV λcd A a hr=>by trivial
def ok_marks(T:Txt G ad fd):P5 G 8 (ad 29) (fd 29) ["one","other"] wg:=T.marks.okF za1 λcd A a rb hr=>by trivial
def ok_law_cell_at(T:Txt G ad fd):zk G 1 (ad 32) (fd 32) ["_law_script","_law_k"] yK:=T.law_cell_at.okD zcc λcd A a hr=>by trivial
def ok_law_turn(T:Txt G ad fd):zk G 1 (ad 33) (fd 33) ["_law_one","_law_two_here","_law_three"] yL:=T.law_turn.okD za7 λcd A a hr=>by trivial
def ok_law_before(T:Txt G ad fd):zk G 1 (ad 34) (fd 34) ["_law_one","_law_other"] xo:=T.law_before.okD zc8 λcd A a hr=>by trivial
def ok_law_ahead(T:Txt G ad fd):zk G 2 (ad 35) (fd 35) ["_law_one","_law_other"] wQ:=T.law_ahead.okD Z7 λcd A a hr=>by trivial
def ok_law_sorted(T:Txt G ad fd):zk G 3 (ad 36) (fd 36) ["_law_fences"] qh:=T.law_sorted.okD zcx λcd A a hr=>by trivial
def ok_law_shape(T:Txt G ad fd):zk G 2 (ad 37) (fd 37) ["_law_cells"] xY:=T.law_shape.okD zd6 λcd A a hr=>by trivial
def ok_law_land_by(T:Txt G ad fd):zk G 4 (ad 38) (fd 38) ["_law_corners"] jI:=T.law_land_by.okD zal λcd A a hr=>by trivial
def ok_law_map(T:Txt G ad fd):zk G 1 (ad 39) (fd 39) ["_law_cell"] v7:=T.law_map.okD zay λcd A a hr=>by trivial
def ok_law_laid(T:Txt G ad fd):zk G 1 (ad 40) (fd 40) ["_law_map_of","_law_spot"] vh:=T.law_laid.okD zbt λcd A a hr=>by trivial
def ok_law_two(T:Txt G ad fd):zk G 3 (ad 41) (fd 41) ["_law_script"] qZ:=T.law_two.okD Z0 λcd A a hr=>by trivial
def ok_law_amid(T:Txt G ad fd):zk G 1 (ad 42) (fd 42) ["_law_one","_law_two_here"] jN:=T.law_amid.okD Z6 λcd A a hr=>by trivial
def ok_law_on(T:Txt G ad fd):zk G 2 (ad 43) (fd 43) ["_law_spot","_law_one","_law_two_here"] zZ:=T.law_on.okD zaj λcd A a hr=>by trivial
def ok_law_points(T:Txt G ad fd):zk G 1 (ad 44) (fd 44) ["_law_found"] Yh:=T.law_points.okD zb1 λcd A a hr=>by trivial
def ok_law_hand(T:Txt G ad fd):zk G 2 (ad 45) (fd 45) ["_law_corners","_law_piece","_law_way"] wf:=T.law_hand.okD zck λcd A a hr=>by trivial
def ok_law_cut(T:Txt G ad fd):zk G 3 (ad 46) (fd 46) ["_law_spot","_law_fences"] jH:=T.law_cut.okD zad λcd A a hr=>by trivial
def ok_law_through(T:Txt G ad fd):zk G 3 (ad 47) (fd 47) ["_law_fence","_law_parts"] jq:=T.law_through.okD zc6 λcd A a hr=>by trivial
def ok_law(T:Txt G ad fd):zk G 9 (ad 48) (fd 48) ["_law_script"] F_law31:=T.law.okD IW λcd A a hr=>by trivial
end
end Nu
end Mine
set_option autoImplicit false
namespace My
section
noncomputable def G(a b:Int):Int:=(Int.gcd a b:Nat)
def zbb(a b:Int):0<=G a b:=Int.natCast_nonneg _
theorem WL{a b:Int}(h:0<=a)(hb:b=0):a=G a b:=by
 subst hb;unfold G;rw[Int.gcd_zero_right];lia
variable{a b:Int}
theorem jM(h:b ∣ a):a.fdiv b*b=a:=by
 have e:=BQ a b;have z:a.fmod b=0:=Int.fmod_eq_zero_of_dvd h;rw[z] at e;rw[uY];omega
theorem Ve{x f y:Int}(e:x*f=y)(hf:f≠0):x.natAbs<=y.natAbs:=by
 rw[<-e,Qb];exact DF _ (by lia)
theorem Z8{x f y:Int}(e:x*f=y)(h:(0<f/\0<y)\/(f<0/\y<0)):0<x:=by
 rcases(by lia:0<x\/x=0\/x<0) with hx|hx|hx
 ·exact hx
 ·rw[hx,pY] at e;lia
 ·exfalso
  rcases h with⟨h1,h2⟩|⟨h1,h2⟩
  ·have:=kx hx h1;lia
  ·have:=CS hx h1;lia
variable{m:Nat}
def zF{n:Nat}(h1:a.natAbs<2^m)(h2:b.natAbs<2^n):(a*b).natAbs<2^(m+n):=by
 rw[Qb,HL];exact DG h1 h2
theorem yT(h1:a.natAbs<2^m)(h2:b.natAbs<2^m):(a-b).natAbs<2^(m+1):=by
 rw[DY];lia
def zA{n:Nat}(h:a.natAbs<2^m)(hm:m<=n):a.natAbs<2^n:=Qg h (AH (by decide) hm)
end
section
noncomputable def g3(a b c:Int):Nat:=HP (HP a.natAbs b.natAbs) c.natAbs
def tX(a b:Int):(G a b).natAbs=HP a.natAbs b.natAbs:=by unfold G;rw[Eg];rfl
theorem G3(a b c:Int):G (G a b) c=(g3 a b c:Int):=by
 have h:(G (G a b) c).natAbs=g3 a b c:=by rw[tX,tX];rfl
 have h0:=zbb (G a b) c;lia
def JB(a b c:Int):g3 c a b=g3 a b c:=by
 unfold g3;rw[Nat.gcd_assoc,Nat.gcd_comm]
def Wa(a b c f:Int):g3 (a*f) (b*f) (c*f)=g3 a b c*f.natAbs:=by
 unfold g3;rw[Qb,Qb,Qb,FH,FH]
theorem Jn{a b c:Int}(h:c≠0):0<g3 a b c:=by
 unfold g3;exact Nat.gcd_pos_of_pos_right _ (by lia)
def Wi(a b c:Int):((g3 a b c:Nat):Int) ∣ a:=Ue.mpr (Co (Uz _ _) (Uz _ _))
def W6(a b c:Int):((g3 a b c:Nat):Int) ∣ b:=Ue.mpr (Co (Uz _ _) (gv _ _))
def Wq(a b c:Int):((g3 a b c:Nat):Int) ∣ c:=Ue.mpr (gv _ _)
structure Pt(n:Nat)(x y w:Int):Prop where
 pos:0<w
 one:g3 x y w=1
 lx:x.natAbs<2^n
 ly:y.natAbs<2^n
 lw:w.natAbs<2^n
variable{n:Nat}{x y w:Int}
theorem Pt.ne(h:Pt n x y w):w≠0:=by have:=h.pos;lia
def Pt.mono{m:Nat}(h:Pt m x y w)(hm:m<=n):Pt n x y w:=⟨h.pos,h.one,zA h.lx hm,zA h.ly hm,zA h.lw hm⟩
theorem Oj{f:Int}(hf:f.natAbs=g3 x y w)(hs:(0<f/\0<w)\/(f<0/\w<0))(lx:x.natAbs<2^n)(ly:y.natAbs<2^n)(lw:w.natAbs<2^n):Pt n (x.fdiv f) (y.fdiv f) (w.fdiv f):=by
 have hd:∀z:Int,((g3 x y w:Nat):Int) ∣ z->f ∣ z:=λz h=>by
  rw[<-hf] at h;exact GX.mp h
 have ex:=jM (hd x (Wi x y w));have ey:=jM (hd y (W6 x y w));have ew:=jM (hd w (Wq x y w));have hw:w≠0:=by lia
 have fn:f≠0:=by lia
 refine⟨Z8 ew hs,?_,um (Ve ex fn) lx,um (Ve ey fn) ly,um (Ve ew fn) lw⟩;have e:=Wa (x.fdiv f) (y.fdiv f) (w.fdiv f) f;rw[ex,ey,ew,hf] at e;have hp:=Jn (a:=x) (b:=y) hw;have e':1*g3 x y w=g3 (x.fdiv f) (y.fdiv f) (w.fdiv f)*g3 x y w:=by lia
 exact(Nat.eq_of_mul_eq_mul_right hp e').symm
noncomputable def bH(x y w:Int):Int:=if w<0 then-G (G w x) y else G (G w x) y
def Xb(x y w:Int):(bH x y w).natAbs=g3 x y w:=by
 unfold bH;rw[G3,JB]
 split<;>simp
theorem Xy(h:w≠0):(0<bH x y w/\0<w)\/(bH x y w<0/\w<0):=by
 unfold bH;have hp:=Jn (a:=x) (b:=y) h;rw[G3,JB]
 split
 ·exact .inr ⟨by lia,by lia⟩
 ·exact .inl ⟨by lia,by lia⟩
theorem Xc(h:w≠0):bH x y w≠0:=by rcases Xy (x:=x) (y:=y) h with z|z<;>lia
def je(x y w z:Int)(h:((g3 x y w:Nat):Int) ∣ z):bH x y w ∣ z:=by
 rw[<-Xb] at h;exact GX.mp h
theorem rq(h:w≠0):(bH x y w).natAbs<=w.natAbs:=by
 rw[Xb];exact Nat.le_of_dvd (by lia) (gv _ _)
noncomputable def IX(x y w:Int):Int:=x.fdiv (bH x y w)
noncomputable def IY(x y w:Int):Int:=y.fdiv (bH x y w)
noncomputable def IZ(x y w:Int):Int:=w.fdiv (bH x y w)
def Vm(h:w≠0)(lx:x.natAbs<2^n)(ly:y.natAbs<2^n)(lw:w.natAbs<2^n):Pt n (IX x y w) (IY x y w) (IZ x y w):=Oj (Xb x y w) (Xy h) lx ly lw
def Vx(x y w:Int):IX x y w*bH x y w=x:=jM (je _ _ _ _ (Wi x y w))
def JC(x y w:Int):IY x y w*bH x y w=y:=jM (je _ _ _ _ (W6 x y w))
def ZV(x y w:Int):IZ x y w*bH x y w=w:=jM (je _ _ _ _ (Wq x y w))
end
section
noncomputable def aw(z:Int):Int:=if 0<z then 1 else if z<0 then-1 else 0
variable{z:Int}
def Zl(h:0<z):aw z=1:=θ h
theorem VZ(h:z<0):aw z= -1:=by unfold aw;rw[η (by lia),θ h]
def wU:aw 0=0:=by decide
theorem xC(z:Int):(0<z/\aw z=1)\/(z<0/\aw z= -1)\/(z=0/\aw z=0):=by
 rcases(by lia:0<z\/z<0\/z=0) with h|h|h
 ·exact .inl ⟨h,Zl h⟩
 ·exact .inr (.inl ⟨h,VZ h⟩)
 ·exact .inr (.inr ⟨h,by rw[h];rfl⟩)
theorem zL:aw z=0↔z=0:=by
 rcases xC z with⟨h,e⟩|⟨h,e⟩|⟨h,e⟩<;>rw[e]<;>lia
noncomputable def dm(x1 y1 w1 x2 y2 w2:Int):Bool:=if x1*w2=x2*w1 then decide (y1*w2<y2*w1) else decide (x1*w2<x2*w1)
theorem wB{a b c u v w:Int}(hu:0<u)(hv:0<v)(hw:0<w)(h1:a*v<=b*u)(h2:b*w<=c*v):a*w<=c*u/\((a*v<b*u\/b*w<c*v)->a*w<c*u):=by
 have e1:(a*v)*w<=(b*u)*w:=UD h1 (kM hw);have e2:(b*w)*u<=(c*v)*u:=UD h2 (kM hu);have i1:v*(a*w)=(a*v)*w:=by grind
 have i2:v*(c*u)=(c*v)*u:=by grind
 have i3:(b*u)*w=(b*w)*u:=by grind
 refine⟨Int.le_of_mul_le_mul_left (by lia) hv,λh=>Int.lt_of_mul_lt_mul_left (a:=v) ?_ (kM hv)⟩
 rcases h with h|h
 ·have:=gw h hw;lia
 ·have:=gw h hu;lia
theorem rx(x y w:Int):dm x y w x y w=false:=by
 unfold dm;rw[θ rfl];exact ι (by lia)
variable{x1 y1 w1 x2 y2 w2:Int}
theorem y7:dm x1 y1 w1 x2 y2 w2=true↔(x1*w2<x2*w1\/(x1*w2=x2*w1/\y1*w2<y2*w1)):=by
 unfold dm
 split
 ·rename_i h
  rw[τ];lia
 ·rename_i h
  rw[τ];lia
theorem vi:dm x1 y1 w1 x2 y2 w2=false↔(x2*w1<x1*w2\/(x1*w2=x2*w1/\y2*w1<=y1*w2)):=by
 rw[<-BY,y7];lia
theorem zdd{x3 y3 w3:Int}(h1:0<w1)(h2:0<w2)(h3:0<w3)(a:dm x1 y1 w1 x2 y2 w2=true)(b:dm x2 y2 w2 x3 y3 w3=true):dm x1 y1 w1 x3 y3 w3=true:=by
 rw[y7] at a b⊢;have X:=wB (a:=x1) (b:=x2) (c:=x3) h1 h2 h3 (by lia) (by lia)
 rcases a with a|⟨a,a'⟩
 ·exact .inl (X.2 (.inl a))
 ·rcases b with b|⟨b,b'⟩
  ·exact .inl (X.2 (.inr b))
  ·have X':=wB (a:=x3) (b:=x2) (c:=x1) h3 h2 h1 (by lia) (by lia)
   have Y:=wB (a:=y1) (b:=y2) (c:=y3) h1 h2 h3 (by lia) (by lia)
   exact .inr ⟨Df X.1 X'.1,Y.2 (.inl a')⟩
theorem JP{n:Nat}(p:Pt n x1 y1 w1)(q:Pt n x2 y2 w2)(ex:x1*w2=x2*w1)(ey:y1*w2=y2*w1):x1=x2/\y1=y2/\w1=w2:=by
 have a:=Wa x1 y1 w1 w2;have b:=Wa x2 y2 w2 w1;rw[p.one,HM] at a;rw[q.one,HM] at b;rw[ex,ey,uY w1 w2] at a;have hw:w1=w2:=by
  have:=p.pos;have:=q.pos;lia
 subst hw;exact⟨AJ p.ne ex,AJ p.ne ey,rfl⟩
theorem JL{n:Nat}(p:Pt n x1 y1 w1)(q:Pt n x2 y2 w2)(h:dm x1 y1 w1 x2 y2 w2=dm x2 y2 w2 x1 y1 w1):x1=x2/\y1=y2/\w1=w2:=by
 cases e:dm x1 y1 w1 x2 y2 w2 with
 |true=>
  have e':=h.symm.trans e;rw[y7] at e e';exact(e.elim (λx=>e'.elim (λy=>HA x y) λy=>by rw[y.1] at x;exact Gg _ x) λx=>e'.elim (λy=>by rw[x.1] at y;exact Gg _ y) λy=>HA x.2 y.2).elim
 |false=>
  have e':=h.symm.trans e;rw[vi] at e e';exact JP p q (by omega) (by omega)
noncomputable def br(x1 y1 w1 x2 y2 w2:Int):Int:=y1*w2-w1*y2
noncomputable def bu(x1 y1 w1 x2 y2 w2:Int):Int:=w1*x2-x1*w2
noncomputable def bx(x1 y1 w1 x2 y2 w2:Int):Int:=x1*y2-y1*x2
noncomputable def aE(x1 y1 w1 x2 y2 w2 x3 y3 w3:Int):Int:=br x1 y1 w1 x2 y2 w2*x3+bu x1 y1 w1 x2 y2 w2*y3+bx x1 y1 w1 x2 y2 w2*w3
end
section
def J7(x y:Int):G y (x.fmod y)=G x y:=by
 unfold G;rw[Int.gcd_comm x y];have e:x.fmod y+x.fdiv y*y=x:=by rw[uY];exact BQ x y
 rw[<-Int.gcd_add_mul_right_right y (x.fmod y) (x.fdiv y),e]
theorem zbn(x1 y1 w1 x2 y2 w2:Int):aE x1 y1 w1 x2 y2 w2 x1 y1 w1=0:=by unfold aE br bu bx;grind
theorem Z9(x1 y1 w1 x2 y2 w2:Int):aE x1 y1 w1 x2 y2 w2 x2 y2 w2=0:=by unfold aE br bu bx;grind
theorem zcz{x1 y1 w1 x2 y2 w2:Int}(h:dm x1 y1 w1 x2 y2 w2=true):dm x2 y2 w2 x1 y1 w1=false:=by
 rw[y7] at h;rw[vi];lia
noncomputable def P7(x1 y1 w1 x2 y2 w2 x3 y3 w3:Int):Bool:=if aw (aE x1 y1 w1 x2 y2 w2 x3 y3 w3)=0 then(!dm x3 y3 w3 x1 y1 w1&& !dm x2 y2 w2 x3 y3 w3) else false
structure Q3 where
 x:Int
 y:Int
 w:Int
deriving DecidableEq
noncomputable def dt(a b c:Q3):Int:=aE a.x a.y a.w b.x b.y b.w c.x c.y c.w
noncomputable def dX(a b:Q3):Int:=b.x*a.w-a.x*b.w
noncomputable def dY(a b:Q3):Int:=b.y*a.w-a.y*b.w
def LP(u v:Int):Prop:=0<u\/(u=0/\0<v)
def Lt(s:Int)(a b:Q3):Prop:=LP (s*dX a b) (s*dY a b)
variable{A B C:Int}
theorem I0{u1 u2 v1 v2 w1 w2:Int}(e1:A*u1=B*v1+C*w1)(e2:A*u2=B*v2+C*w2)(hu:LP u1 u2)(hv:LP v1 v2)(hw:LP w1 w2)(hB:0<=B)(hC:0<=C):0<=A:=by
 have nn:∀{K a b:Int},0<=K->LP a b->0<=K*a/\(K*a=0->0<=K*b):=λ{K a b} hK h=>by
  rcases h with h|⟨h,h'⟩
  ·refine⟨kz hK (by lia),λe=>?_⟩
   rcases kX.mp e with e|e
   ·rw[e,pY];exact hW _
   ·lia
  ·exact⟨by rw[h,ph];exact hW _,λ_=>kz hK (by lia)⟩
 have nB:=nn hB hv;have nC:=nn hC hw;rcases hu with h|⟨h,h'⟩
 ·refine DZ.mp λz=>?_;have:=kx z h;lia
 ·rw[h,ph] at e1;have b0:B*v1=0:=by lia
  have c0:C*w1=0:=by lia
  have:=nB.2 b0;have:=nC.2 c0;refine DZ.mp λz=>?_;have:=kx z h';lia
theorem rz{u1 u2 v1 v2 w1 w2:Int}(e1:A*u1=B*v1+C*w1)(e2:A*u2=B*v2+C*w2)(hu:LP u1 u2)(hv:LP v1 v2)(hw:LP w1 w2)(hB:0<=B)(hC:0<C):0<A:=by
 have h0:=I0 e1 e2 hu hv hw hB (kM hC);rcases(by lia:0<A\/A=0) with h|h
 ·exact h
 exfalso
 rw[h,pY] at e1 e2;have b1:0<=B*v1:=by
  refine kz hB ?_;rcases hv with h|h<;>lia
 have c1:0<=C*w1:=by
  refine kz (kM hC) ?_;rcases hw with h|h<;>lia
 rcases hw with hw|⟨hw,P8⟩
 ·have:=kf hC hw;lia
 ·have c2:=kf hC P8;rcases hv with hv|⟨hv,P9⟩
  ·have b0:B*v1=0:=by lia
   rcases kX.mp b0 with z|z
   ·rw[z,pY] at e2;lia
   ·lia
  ·have:=kz hB (kM P9);lia
theorem S8(b c p q:Q3):dt b p q*dX b c=dt b c q*dX b p+ -dt b c p*dX b q:=by unfold dt dX aE br bu bx;grind
theorem S9(b c p q:Q3):dt b p q*dY b c=dt b c q*dY b p+ -dt b c p*dY b q:=by unfold dt dY aE br bu bx;grind
theorem rA(a b c:Q3):dt b a c= -dt a b c:=by unfold dt aE br bu bx;grind
theorem I3(a b c:Q3):dt b c a=dt a b c:=by unfold dt aE br bu bx;grind
theorem I5(a b:Q3):dt a b a=0:=by unfold dt aE br bu bx;grind
theorem JS(a b:Q3):dt a b b=0:=by unfold dt aE br bu bx;grind
theorem sc{s u v w:Int}(e:A*u=B*v+C*w):A*(s*u)=B*(s*v)+C*(s*w):=by
 have:A*(s*u)=s*(A*u):=by grind
 rw[this,e]
 grind
end
variable{a b:Int}
theorem tY{c d G:Int}(hb:0<b)(hd:0<d)(h:a*d<c*b)(hG:b*d<=G):a*G/b<c*G/d:=by
 have g0:0<=G:=Ez (kM (kf hb hd)) hG;have h0:a*G/b*b<=a*G:=GE _ (by lia)
 have h1:=UD h0 (kM hd);have h2:G*(a*d+1)<=G*(c*b):=hZ (by lia) g0
 refine Int.lt_of_lt_of_le (Int.lt_succ _) (BR hd (CM ?_ hb));generalize a*G/b=A at*
 calc (A+1)*d*b=A*b*d+b*d:=by grind
  _<=a*G*d+G:=Int.add_le_add h1 hG
  _=G*(a*d+1):=by grind
  _<=G*(c*b):=h2
  _=c*G*b:=by grind
theorem Ol{c d G:Int}(hb:0<b)(hd:0<d)(h:a*d=c*b):a*G/b=c*G/d:=by
 have e1:a*G/b=(a*G*d)/(b*d):=(Bm (a*G) b hd).symm;have e2:c*G/d=(c*G*b)/(d*b):=(Bm (c*G) d hb).symm;rw[e1,e2,uY d b]
 congr 1
 have:a*G*d=G*(a*d):=by grind
 rw[this,h]
 grind
noncomputable def bq(a b:Q3):Bool:=dm a.x a.y a.w b.x b.y b.w
variable{a b:Q3}
theorem xv:bq a b=true↔Lt 1 a b:=by
 unfold bq Lt LP dX dY;rw[y7];lia
def PQ(n:Nat)(a:Q3):Prop:=Pt n a.x a.y a.w
def xh{n:Nat}(ha:PQ n a)(hb:PQ n b)(h1:bq a b=false)(h2:bq b a=false):a=b:=by
 obtain⟨e1,e2,e3⟩:=JL ha hb (h1.trans h2.symm);obtain⟨x,y,w⟩:=a;obtain⟨x',y',w'⟩:=b
 simp only at e1 e2 e3
 rw[e1,e2,e3]
noncomputable def aQ(g:Int)(r:Q3):Int×Int:=(r.x*(g*g)/r.w,r.y*(g*g)/r.w)
theorem tZ{g:Int}(ha:0<a.w)(hb:0<b.w)(ga:a.w<=g)(gb:b.w<=g)(h:bq a b=true):L2.lt2 (aQ g a) (aQ g b)=true:=by
 have hG:a.w*b.w<=g*g:=Int.mul_le_mul ga gb (kM hb) (Ez (kM ha) ga);unfold bq at h;rw[y7] at h;unfold L2.lt2 L2.lexB aQ;rcases h with h|⟨h,h'⟩
 ·have:=tY ha hb h hG;rw[η (by lia)]
  exact ζ this
 ·rw[θ (Ol ha hb h)];exact ζ (tY ha hb h' hG)
end My
namespace Mine
open PySem L2 My
noncomputable def aY(a b p:Q3):Bool:=P7 a.x a.y a.w b.x b.y b.w p.x p.y p.w
def Q3.ext'{a b:Q3}(h:a.x=b.x/\a.y=b.y/\a.w=b.w):a=b:=by
 cases a;cases b;obtain⟨h1,h2,h3⟩:=h
 cases h1;cases h2;cases h3;rfl
variable{c d:Q3}{k u v:Int}
theorem VT{p:Q3}(hk:0<k)(hu:0<=u)(hv:0<=v)(ex:k*p.x=u*c.x+v*d.x)(ey:k*p.y=u*c.y+v*d.y)(ew:k*p.w=u*c.w+v*d.w)(hb:bq c d=true):aY c d p=true:=by
 unfold bq at hb;rw[y7] at hb;have dz:aE c.x c.y c.w d.x d.y d.w p.x p.y p.w=0:=by
  refine(kX.mp (show k*aE c.x c.y c.w d.x d.y d.w p.x p.y p.w=0 from ?_)).resolve_left (by lia)
  have:k*aE c.x c.y c.w d.x d.y d.w p.x p.y p.w=br c.x c.y c.w d.x d.y d.w*(k*p.x)+bu c.x c.y c.w d.x d.y d.w*(k*p.y)+bx c.x c.y c.w d.x d.y d.w*(k*p.w):=by unfold aE;grind
  rw[this,ex,ey,ew];unfold br bu bx;grind
 have x1:k*(p.x*c.w-c.x*p.w)=v*(d.x*c.w-c.x*d.w):=by grind
 have y1:k*(p.y*c.w-c.y*p.w)=v*(d.y*c.w-c.y*d.w):=by grind
 have x2:k*(d.x*p.w-p.x*d.w)=u*(d.x*c.w-c.x*d.w):=by grind
 have y2:k*(d.y*p.w-p.y*d.w)=u*(d.y*c.w-c.y*d.w):=by grind
 have sg:∀{z t r:Int},k*z=t*r->0<=t->0<r->0<=z/\(z=0->t=0):=λ{z t r} e ht hr=>by
  have h0:0<=t*r:=kz ht (kM hr);refine⟨?_,λhz=>?_⟩
  ·rcases UX z 0 with q|q
   ·have:=Ug hk q;lia
   ·exact q
  ·rw[hz,ph] at e;exact(kX.mp e.symm).resolve_right (by lia)
 have zz:∀{z t r:Int},k*z=t*r->t=0\/r=0->z=0:=λ{z t r} e h=>by
  have:t*r=0:=Int.mul_eq_zero.mpr h;rw[this] at e;exact(kX.mp e).resolve_left (by lia)
 have b1:dm p.x p.y p.w c.x c.y c.w=false:=by
  rw[vi];rcases hb with hb|⟨hb,hy⟩
  ·obtain⟨n1,n2⟩:=sg x1 hv (by lia)
   by_cases q:p.x*c.w-c.x*p.w=0
   ·have:=zz y1 (.inl (n2 q));exact .inr ⟨by lia,by lia⟩
   ·exact .inl (by lia)
  ·have q:=zz x1 (.inr (by lia))
   obtain⟨n1,n2⟩:=sg y1 hv (by lia)
   exact .inr ⟨by lia,by lia⟩
 have b2:dm d.x d.y d.w p.x p.y p.w=false:=by
  rw[vi];rcases hb with hb|⟨hb,hy⟩
  ·obtain⟨n1,n2⟩:=sg x2 hu (by lia)
   by_cases q:d.x*p.w-p.x*d.w=0
   ·have:=zz y2 (.inl (n2 q));exact .inr ⟨by lia,by lia⟩
   ·grind
  ·have q:=zz x2 (.inr (by lia))
   obtain⟨n1,n2⟩:=sg y2 hu (by lia)
   exact .inr ⟨by lia,by lia⟩
 unfold aY P7;rw[dz,wU,θ rfl,b1,b2];rfl
theorem btw{p:Q3}(hp:0<p.w)(hc:0<c.w)(hd:0<d.w)(hk:k≠0)(h:(0<=u/\0<=v)\/(u<=0/\v<=0))(ex:k*p.x=u*c.x+v*d.x)(ey:k*p.y=u*c.y+v*d.y)(ew:k*p.w=u*c.w+v*d.w)(hb:bq c d=true):aY c d p=true:=by
 rcases h with⟨hu,hv⟩|⟨hu,hv⟩
 ·have h1:=kz hu (kM hc);have h2:=kz hv (kM hd);have kp:0<k:=by
   rcases UX k 0 with q|q
   ·have:=kx q hp;lia
   ·lia
  exact VT kp hu hv ex ey ew hb
 ·have h1:=kz (show 0<= -u by lia) (kM hc)
  have h2:=kz (show 0<= -v by lia) (kM hd)
  rw[QG] at h1 h2;have kp:0< -k:=by
   rcases UX k 0 with q|q
   ·lia
   ·have:=kf (show 0<k by lia) hp
    lia
  refine VT kp (show 0<= -u by lia) (show 0<= -v by lia) ?_ ?_ ?_ hb
  ·rw[QG,QG,QG];lia
  ·rw[QG,QG,QG];lia
  ·grind
theorem vT(a b c d:Q3):dt a b d*c.x+ -dt a b c*d.x=dt c d a*b.x+ -dt c d b*a.x:=by unfold dt aE br bu bx;grind
theorem vV(a b c d:Q3):dt a b d*c.y+ -dt a b c*d.y=dt c d a*b.y+ -dt c d b*a.y:=by unfold dt aE br bu bx;grind
theorem wX(a b c d:Q3):dt a b d*c.w+ -dt a b c*d.w=dt c d a*b.w+ -dt c d b*a.w:=by unfold dt aE br bu bx;grind
theorem WF{s t:Int}(h:aw s≠aw t):(0<=t/\0<= -s)\/(t<=0/\ -s<=0):=by
 rcases xC s with⟨h1,e1⟩|⟨h1,e1⟩|⟨h1,e1⟩<;>rcases xC t with⟨h2,e2⟩|⟨h2,e2⟩|⟨h2,e2⟩<;>rw[e1,e2] at h<;>lia
theorem rB{a b p:Q3}(ha:0<a.w)(hb:0<b.w)(hc:0<c.w)(hd:0<d.w)(hp:0<p.w)(hk:k≠0)(cw:bq a b=true)(cG:bq c d=true)(hs:aw (dt a b c)≠aw (dt a b d))(ht:aw (dt c d a)≠aw (dt c d b))
  (ex:k*p.x=dt a b d*c.x+ -dt a b c*d.x)(ey:k*p.y=dt a b d*c.y+ -dt a b c*d.y)(ew:k*p.w=dt a b d*c.w+ -dt a b c*d.w):aY a b p=true/\aY c d p=true:=by
 refine⟨?_,btw hp hc hd hk (WF hs) ex ey ew cG⟩;rw[vT,Bu] at ex;rw[vV,Bu] at ey;rw[wX,Bu] at ew;refine btw hp ha hb hk ?_ ex ey ew cw;have:=WF ht;lia
inductive MR where
 |none
 |spot (p:Q3)
 |part (p q:Q3)
noncomputable def aH(a c:Q3):Q3:=if bq a c=true then c else a
noncomputable def aL(b d:Q3):Q3:=if bq b d=true then b else d
noncomputable def LZ(a b c d:Q3):MR:=if bq (aL b d) (aH a c)=true then .none else if(aH a c).x=(aL b d).x/\(aH a c).y=(aL b d).y/\(aH a c).w=(aL b d).w then .spot (aH a c) else .part (aH a c) (aL b d)
noncomputable def dL(a b c d:Q3):Int:=bu a.x a.y a.w b.x b.y b.w*bx c.x c.y c.w d.x d.y d.w-bx a.x a.y a.w b.x b.y b.w*bu c.x c.y c.w d.x d.y d.w
noncomputable def dM(a b c d:Q3):Int:=bx a.x a.y a.w b.x b.y b.w*br c.x c.y c.w d.x d.y d.w-br a.x a.y a.w b.x b.y b.w*bx c.x c.y c.w d.x d.y d.w
noncomputable def bB(a b c d:Q3):Int:=br a.x a.y a.w b.x b.y b.w*bu c.x c.y c.w d.x d.y d.w-bu a.x a.y a.w b.x b.y b.w*br c.x c.y c.w d.x d.y d.w
theorem xJ(a b c d:Q3):dL a b c d=dt a b d*c.x+ -dt a b c*d.x:=by unfold dL dt aE br bu bx;grind
theorem xI(a b c d:Q3):dM a b c d=dt a b d*c.y+ -dt a b c*d.y:=by unfold dM dt aE br bu bx;grind
theorem yQ(a b c d:Q3):bB a b c d=dt a b d*c.w+ -dt a b c*d.w:=by unfold bB dt aE br bu bx;grind
noncomputable def crP(a b c d:Q3):Q3:=⟨IX (dL a b c d) (dM a b c d) (bB a b c d),IY (dL a b c d) (dM a b c d) (bB a b c d),IZ (dL a b c d) (dM a b c d) (bB a b c d)⟩
noncomputable def iE(a b c d:Q3):Q3:=if aw (dt a b c)=0 then c else if aw (dt a b d)=0 then d else if aw (dt c d a)=0 then a else if aw (dt c d b)=0 then b else crP a b c d
noncomputable def dD(a b c d:Q3):MR:=
 if aw (dt a b c)=0/\aw (dt a b d)=0 then LZ a b c d
 else if aw (dt a b c)=aw (dt a b d) then .none
 else if aw (dt c d a)=aw (dt c d b) then .none
 else .spot (iE a b c d)
noncomputable def Q0(a b c d:Q3):Bool:=if aw (dt a b c)=0/\aw (dt a b d)=0 then(bq b c||bq d a) else(decide (aw (dt a b c)=aw (dt a b d))||decide (aw (dt c d a)=aw (dt c d b)))
def zt{a b:Q3}(h:bq a b=true):bq b a=false:=zcz h
def zq(a:Q3):bq a a=false:=rx _ _ _
def yt{n:Nat}{a b:Q3}(ha:PQ n a)(hb:PQ n b)(hc:PQ n c)(h1:bq a b=true)(h2:bq b c=true):bq a c=true:=zdd ha.pos hb.pos hc.pos h1 h2
def yn{n:Nat}{a b:Q3}(ha:PQ n a)(hb:PQ n b)(h1:¬bq a b=true)(h2:¬bq b a=true):a=b:=Q3.ext' (JL ha hb ((pS.mpr h1).trans (pS.mpr h2).symm))
theorem XL{a b:Q3}(hc:0<c.w)(hd:0<d.w)(hs:aw (dt a b c)≠aw (dt a b d)):bB a b c d≠0:=by
 rw[yQ];have h:=WF hs;intro z;have e:∀{s w:Int},0<w->0<=s->0<=s*w:=λhw hs=>kz hs (kM hw);rcases h with⟨h1,h2⟩|⟨h1,h2⟩
 ·have p1:=e hc h1;have p2:=e hd h2;have q1:=(kX.mp (show dt a b d*c.w=0 by lia)).resolve_right (by lia)
  have q2:=(kX.mp (show-dt a b c*d.w=0 by omega)).resolve_right (by lia)
  exact hs (by rw[show dt a b c=0 by lia,q1])
 ·have p1:=e hc (show 0<= -dt a b d by lia)
  have p2:=e hd (show 0<=dt a b c by lia)
  rw[QG] at p1;rw[QG] at z;have q1:=(kX.mp (show dt a b d*c.w=0 by lia)).resolve_right (by lia)
  have q2:=(kX.mp (show dt a b c*d.w=0 by lia)).resolve_right (by lia)
  exact hs (by rw[q1,q2])
def Xg{n:Nat}{a b:Q3}(ha:PQ n a)(hb:PQ n b)(hc:PQ n c)(hd:PQ n d)(cw:bq a b=true)(cG:bq c d=true)(q:¬bq (aL b d) (aH a c)=true):bq b c=false/\bq d a=false:=by
 unfold aH aL at q
 constructor
 ·rw[<-BY];intro z;have ac:=yt ha hb hc cw z;have bd:=yt hb hc hd z cG;rw[θ ac,θ bd] at q;exact q z
 ·rw[<-BY];intro z;have n1:¬bq a c=true:=λw=>by rw[zt (yt hc hd ha cG z)] at w;cases w
  have n2:¬bq b d=true:=λw=>by rw[zt (yt hd ha hb z cw)] at w;cases w
  rw[η n1,η n2] at q;exact q z
variable{p:Q3}
def yS{a b:Q3}(h0:dt a b p=0)(h1:bq p a=false)(h2:bq b p=false):aY a b p=true:=by
 unfold aY P7;unfold dt at h0;unfold bq at h1 h2;rw[h0,wU,θ rfl,h1,h2];rfl
def yI(a b:Q3):dt a b a=0:=zbn _ _ _ _ _ _
def yo(a b:Q3):dt a b b=0:=Z9 _ _ _ _ _ _
theorem vP{n:Nat}{a b:Q3}(ha:PQ n a)(hb:PQ n b)(cw:bq a b=true)(s0:dt a b c=0)(s1:dt a b d=0):dt c d a=0/\dt c d b=0:=by
 have ex:=vT a b c d;have ey:=vV a b c d;have ew:=wX a b c d;rw[s0,s1] at ex ey ew;simp only[pY,UH,UY] at ex ey ew;have h1:=ha.pos;have h2:=hb.pos;generalize dt c d a=t at*;generalize dt c d b=v at*;rw[QG] at ex ey ew
 by_cases ht:t=0
 ·subst ht;rw[pY] at ew;exact⟨rfl,(kX.mp (show v*a.w=0 by lia)).resolve_right (by lia)⟩
 ·exfalso
  have k1:t*(b.x*a.w-a.x*b.w)=0:=by grind
  have k2:t*(b.y*a.w-a.y*b.w)=0:=by grind
  have z1:=(kX.mp k1).resolve_left ht;have z2:=(kX.mp k2).resolve_left ht;unfold bq at cw;rw[y7] at cw;lia
def JA{n:Nat}{a b:Q3}(ha:PQ n a)(hb:PQ n b)(hc:PQ n c)(hd:PQ n d)(cw:bq a b=true)(cG:bq c d=true)(s0:dt a b c=0)(s1:dt a b d=0)(q:¬bq (aL b d) (aH a c)=true):
  (aY a b (aH a c)=true/\aY c d (aH a c)=true)/\aY a b (aL b d)=true/\aY c d (aL b d)=true:=by
 obtain⟨n1,n2⟩:=Xg ha hb hc hd cw cG q;obtain⟨t0,t1⟩:=vP ha hb cw s0 s1;refine⟨?_,?_⟩
 ·unfold aH
  by_cases e:bq a c=true
  ·rw[θ e];exact⟨yS s0 (zt e) n1,yS (yI c d) (zq c) (zt cG)⟩
  ·rw[η e];refine⟨yS (yI a b) (zq a) (zt cw),yS t0 (pS.mpr e) n2⟩
 ·unfold aL
  by_cases e:bq b d=true
  ·rw[θ e];exact⟨yS (yo a b) (zt cw) (zq b),yS t1 n1 (zt e)⟩
  ·rw[η e];exact⟨yS s1 n2 (pS.mpr e),yS (yo c d) (zt cG) (zq d)⟩
variable{q:Q3}
theorem JH{n:Nat}{a b:Q3}(ha:PQ n a)(hb:PQ n b)(hc:PQ n c)(hd:PQ n d)(cw:bq a b=true)(cG:bq c d=true)(h:dD a b c d=.part p q):
  Q0 a b c d=false/\(aw (dt a b c)=0/\aw (dt a b d)=0)/\PQ n p/\PQ n q/\bq p q=true/\(aY a b p=true/\aY c d p=true)/\(aY a b q=true/\aY c d q=true)/\(p=a\/p=c)/\(q=b\/q=d):=by
 unfold dD at h;unfold Q0
 by_cases l:aw (dt a b c)=0/\aw (dt a b d)=0
 ·rw[θ l] at h⊢;unfold LZ at h
  by_cases e:bq (aL b d) (aH a c)=true
  ·grind
  ·rw[η e] at h
   split at h
   ·cases h
   ·rename_i ne
    cases h;obtain⟨n1,n2⟩:=Xg ha hb hc hd cw cG e;obtain⟨o1,o2⟩:=JA ha hb hc hd cw cG (zL.mp l.1) (zL.mp l.2) e;have pf:PQ n (aH a c)/\(aH a c=a\/aH a c=c):=by
     unfold aH;split
     ·exact⟨hc,.inr rfl⟩
     ·exact⟨ha,.inl rfl⟩
    have ps:PQ n (aL b d)/\(aL b d=b\/aL b d=d):=by
     unfold aL;split
     ·exact⟨hb,.inl rfl⟩
     ·exact⟨hd,.inr rfl⟩
    refine⟨by rw[n1,n2];rfl,l,pf.1,ps.1,?_,o1,o2,pf.2,ps.2⟩
    cases eb:bq (aH a c) (aL b d) with
    |true=>rfl
    |false=>
     have:=yn pf.1 ps.1 (by rw[eb];decide) e
     exact absurd ⟨υ Q3.x this,υ Q3.y this,υ Q3.w this⟩ ne
 ·grind
variable{m:Nat}
theorem WX{n:Nat}{a b:Q3}(hm:n<=m)(ha:PQ n a)(hb:PQ n b)(hc:PQ n c)(hd:PQ n d)(cw:bq a b=true)(cG:bq c d=true)(hx:(dL a b c d).natAbs<2^m)(hy:(dM a b c d).natAbs<2^m)(hw:(bB a b c d).natAbs<2^m)(h:dD a b c d=.spot p):
  Q0 a b c d=false/\PQ m p/\aY a b p=true/\aY c d p=true/\((aw (dt a b c)=0/\aw (dt a b d)=0)->(p=b/\b=c)\/(p=d/\d=a)):=by
 have up:∀{z:Q3},PQ n z->PQ m z:=λh=>Pt.mono h hm;unfold dD at h;unfold Q0
 by_cases l:aw (dt a b c)=0/\aw (dt a b d)=0
 ·rw[θ l] at h⊢;unfold LZ at h
  by_cases e:bq (aL b d) (aH a c)=true
  ·rw[θ e] at h;cases h
  ·rw[η e] at h
   split at h
   ·rename_i eq
    cases h;obtain⟨n1,n2⟩:=Xg ha hb hc hd cw cG e;obtain⟨o1,o2⟩:=JA ha hb hc hd cw cG (zL.mp l.1) (zL.mp l.2) e;have eq:=Q3.ext' eq;refine⟨by rw[n1,n2];rfl,?_,o1.1,o1.2,λ_=>?_⟩
    ·unfold aH;split
     ·exact up hc
     ·exact up ha
    ·unfold aH aL at eq;unfold aH
     by_cases q1:bq a c=true<;>by_cases q2:bq b d=true
     ·grind
     ·rw[θ q1,η q2] at eq;rw[eq,zq] at cG;cases cG
     ·rw[η q1,θ q2] at eq;rw[eq,zq] at cw;cases cw
     ·grind
   ·cases h
 ·rw[η l] at h⊢
  by_cases q1:aw (dt a b c)=aw (dt a b d)
  ·rw[θ q1] at h;cases h
  ·by_cases q2:aw (dt c d a)=aw (dt c d b)
   ·grind
   ·rw[η q1,η q2] at h
    cases h;have wn:=XL (a:=a) (b:=b) hc.pos hd.pos q1;have key:∀{z:Q3}{k:Int},k≠0->PQ m z->k*z.x=dL a b c d->k*z.y=dM a b c d->k*z.w=bB a b c d->PQ m z/\aY a b z=true/\aY c d z=true:=λ{z k} hk hz e1 e2 e3=>
     ⟨hz,rB ha.pos hb.pos hc.pos hd.pos hz.pos hk cw cG q1 q2 (by rw[e1,xJ]) (by rw[e2,xI]) (by rw[e3,yQ])⟩
    have main:PQ m (iE a b c d)/\aY a b (iE a b c d)=true/\aY c d (iE a b c d)=true:=by
     unfold iE
     by_cases z1:aw (dt a b c)=0
     ·rw[θ z1];have y1:=zL.mp z1;refine key (k:=dt a b d) (λy=>q1 (by rw[y1,y])) (up hc) ?_ ?_ ?_
      ·rw[xJ,y1];simp
      ·rw[xI,y1];simp
      ·rw[yQ,y1];simp
     ·rw[η z1]
      by_cases z2:aw (dt a b d)=0
      ·rw[θ z2];have y2:=zL.mp z2;refine key (k:= -dt a b c) (λy=>z1 (zL.mpr (by lia))) (up hd) ?_ ?_ ?_
       ·rw[xJ,y2];simp
       ·rw[xI,y2];simp
       ·rw[yQ,y2];simp
      ·rw[η z2]
       by_cases z3:aw (dt c d a)=0
       ·rw[θ z3];have y3:=zL.mp z3;refine key (k:= -dt c d b) (λy=>q2 (by rw[y3,show dt c d b=0 by lia])) (up ha) ?_ ?_ ?_
        ·rw[xJ,vT,y3];simp
        ·rw[xI,vV,y3];simp
        ·rw[yQ,wX,y3];simp
       ·rw[η z3]
        by_cases z4:aw (dt c d b)=0
        ·rw[θ z4];have y4:=zL.mp z4;refine key (k:=dt c d a) (λy=>z3 (zL.mpr y)) (up hb) ?_ ?_ ?_
         ·rw[xJ,vT,y4];simp
         ·rw[xI,vV,y4];simp
         ·rw[yQ,wX,y4];simp
        ·rw[η z4];refine key (k:=bH (dL a b c d) (dM a b c d) (bB a b c d)) (Xc wn) (Vm wn hx hy hw) ?_ ?_ ?_
         ·rw[uY];exact Vx _ _ _
         ·rw[uY];exact JC _ _ _
         ·rw[uY];exact ZV _ _ _
    exact⟨by rw[ι q1,ι q2];rfl,main.1,main.2.1,main.2.2,λz=>absurd z l⟩
theorem Wx{n:Nat}{a b:Q3}{g:Int}(ha:PQ n a)(hb:PQ n b)(ga:a.w<=g)(gb:b.w<=g)(h:bq a b=false):lt2 (aQ g a) (aQ g b)=false:=by
 cases e:bq b a with
 |true=>
  have z:=tZ hb.pos ha.pos gb ga e
  cases e2:lt2 (aQ g a) (aQ g b) with
  |false=>rfl
  |true=>
   have:=dA.tr _ _ _ z e2;rw[dA.irr] at this
   cases this
 |false=>
  rw[xh ha hb h e];exact dA.irr _
theorem wG{a b:Q3}(ha:0<a.w)(hp:0<p.w)(hb:0<b.w)(h1:bq p a=false)(h2:bq b p=false):bq b a=false:=by
 unfold bq at*;rw[vi] at*;rcases h1 with h1|⟨h1,h1'⟩<;>rcases h2 with h2|⟨h2,N1⟩
 ·exact .inl ((wB (a:=a.x) (b:=p.x) (c:=b.x) ha hp hb (by lia) (by lia)).2 (.inl (by lia)))
 ·exact .inl ((wB (a:=a.x) (b:=p.x) (c:=b.x) ha hp hb (by lia) (by lia)).2 (.inl (by lia)))
 ·exact .inl ((wB (a:=a.x) (b:=p.x) (c:=b.x) ha hp hb (by lia) (by lia)).2 (.inr (by lia)))
 ·have q1:=(wB (a:=a.x) (b:=p.x) (c:=b.x) ha hp hb (by lia) (by lia)).1
  have q2:=(wB (a:=b.x) (b:=p.x) (c:=a.x) hb hp ha (by lia) (by lia)).1
  have q3:=(wB (a:=a.y) (b:=p.y) (c:=b.y) ha hp hb (by lia) (by lia)).1
  exact .inr ⟨by omega,q3⟩
theorem zj{a b:Q3}(h:aY a b p=true):dt a b p=0/\bq p a=false/\bq b p=false:=by
 unfold aY P7 at h;unfold dt bq
 by_cases e:aw (aE a.x a.y a.w b.x b.y b.w p.x p.y p.w)=0
 ·rw[θ e] at h;rw[pO,UL,UL] at h;exact⟨zL.mp e,h.1,h.2⟩
 ·grind
theorem Vn(a b p:Q3):p.w*dt a b p=dY a p*dX p b-dX a p*dY p b:=by unfold dt dX dY aE br bu bx;grind
theorem zb0{a b:Q3}(h:aY a b p=true)(hp:0<p.w):(a.y*p.w<=p.y*a.w\/b.y*p.w<=p.y*b.w)/\(p.y*a.w<=a.y*p.w\/p.y*b.w<=b.y*p.w):=by
 obtain⟨h0,h1,h2⟩:=zj h;unfold bq at h1 h2;rw[vi] at h1 h2;have e:=Vn a b p;rw[h0,ph] at e;have x1:dX a p=p.x*a.w-a.x*p.w:=rfl;have x2:dX p b=b.x*p.w-p.x*b.w:=rfl;have y1:dY a p=p.y*a.w-a.y*p.w:=rfl;have y2:dY p b=b.y*p.w-p.y*b.w:=rfl;generalize dX a p=X1 at*;generalize dX p b=X2 at*;generalize dY a p=Y1 at*;generalize dY p b=Y2 at*;have n1:0<=X1:=by lia
 have n2:0<=X2:=by lia
 constructor
 ·by_cases c1:a.y*p.w<=p.y*a.w
  ·exact .inl c1
  ·by_cases c2:b.y*p.w<=p.y*b.w
   ·exact .inr c2
   ·exfalso
    have k1:Y1<0:=by lia
    have k2:0<Y2:=by lia
    have z1:X1≠0:=λz=>by lia
    have m1:0<X1*Y2:=kf (by lia) k2
    have m2:Y1*X2<=0:=kj (by lia) n2
    lia
 ·by_cases c1:p.y*a.w<=a.y*p.w
  ·exact .inl c1
  ·by_cases c2:p.y*b.w<=b.y*p.w
   ·exact .inr c2
   ·exfalso
    have k1:0<Y1:=by lia
    have k2:Y2<0:=by lia
    have z1:X2≠0:=λz=>by lia
    have m1:X1*Y2<=0:=Ak n1 (by lia)
    have m2:0<Y1*X2:=kf k1 (by lia)
    lia
theorem Yv{a b c d G:Int}(hb:0<b)(hd:0<d)(hG:0<=G)(h:a*d<=c*b):a*G/b<=c*G/d:=by
 refine BR hd (CM ?_ hb);have h0:a*G/b*b<=a*G:=GE _ (by lia)
 have h1:=UD h0 (kM hd);have h2:=hZ h hG;generalize a*G/b=A at*
 calc A*d*b=A*b*d:=by grind
  _<=a*G*d:=h1
  _=G*(a*d):=by grind
  _<=G*(c*b):=h2
  _=c*G*b:=by grind
noncomputable def yr(g:Int)(s:Q3×Q3):Int:=if(aQ g s.2).2<(aQ g s.1).2 then(aQ g s.2).2 else(aQ g s.1).2
noncomputable def ym(g:Int)(s:Q3×Q3):Int:=if(aQ g s.2).2>(aQ g s.1).2 then(aQ g s.2).2 else(aQ g s.1).2
def iS(g:Int)(a b:Q3×Q3):Prop:=lt2 (aQ g a.2) (aQ g b.1)=false/\lt2 (aQ g b.2) (aQ g a.1)=false/\yr g a<=ym g b/\yr g b<=ym g a
def iS.symm{g:Int}{a b:Q3×Q3}(h:iS g a b):iS g b a:=⟨h.2.1,h.1,h.2.2.2,h.2.2.1⟩
theorem V3{g:Int}{s:Q3×Q3}(h1:0<s.1.w)(h2:0<s.2.w)(hp:0<p.w)(h:aY s.1 s.2 p=true):yr g s<=(aQ g p).2/\(aQ g p).2<=ym g s:=by
 have G0:0<=g*g:=by
  rcases UX g 0 with z|z
  ·exact kM (CS z z)
  ·exact kz z z
 obtain⟨q1,q2⟩:=zb0 h hp;unfold yr ym;have e1:∀r:Q3,(aQ g r).2=r.y*(g*g)/r.w:=λr=>rfl;simp only[e1];refine⟨?_,?_⟩
 ·rcases q1 with q|q
  ·have:=Yv h1 hp G0 q
   split<;>lia
  ·have:=Yv h2 hp G0 q
   split<;>lia
 ·rcases q2 with q|q
  ·have:=Yv hp h1 G0 q
   split<;>lia
  ·have:=Yv hp h2 G0 q
   split<;>lia
theorem rC{n:Nat}{g:Int}{a b:Q3×Q3}(ha:PQ n a.1)(Ta:PQ n a.2)(hb:PQ n b.1)(LU:PQ n b.2)(ga:a.1.w<=g)(ga':a.2.w<=g)(gb:b.1.w<=g)(gb':b.2.w<=g)(hp:0<p.w)(h1:aY a.1 a.2 p=true)(h2:aY b.1 b.2 p=true):iS g a b:=by
 obtain⟨_,i1,i2⟩:=zj h1;obtain⟨_,j1,j2⟩:=zj h2;have l1:=V3 (g:=g) ha.pos Ta.pos hp h1;have l2:=V3 (g:=g) hb.pos LU.pos hp h2;exact⟨Wx Ta hb ga' gb (wG hb.pos hp Ta.pos j1 i2),Wx LU ha gb' ga (wG ha.pos hp LU.pos i1 j2),by lia,by lia⟩
theorem mo(hp:aY c d p=true)(cd:bq c d=true)(ex:k*p.x=u*c.x+v*d.x)(ey:k*p.y=u*c.y+v*d.y)(ew:k*p.w=u*c.w+v*d.w):¬(0<u/\v<0)/\¬(u<0/\0<v):=by
 obtain⟨_,h1,h2⟩:=zj hp;unfold bq at h1 h2 cd;rw[vi] at h1 h2;rw[y7] at cd;have x1:k*(p.x*c.w-c.x*p.w)=v*(d.x*c.w-c.x*d.w):=by grind
 have y1:k*(p.y*c.w-c.y*p.w)=v*(d.y*c.w-c.y*d.w):=by grind
 have x2:k*(d.x*p.w-p.x*d.w)=u*(d.x*c.w-c.x*d.w):=by grind
 have y2:k*(d.y*p.w-p.y*d.w)=u*(d.y*c.w-c.y*d.w):=by grind
 have sg:∀{z t r:Int},k*z=t*r->0<=z->0<r->(0<t->0<k)/\(t<0->k<0):=λ{z t r} e hz hr=>by
  refine⟨λht=>?_,λht=>?_⟩
  ·have m:=kf ht hr;rcases UX 0 k with q|q
   ·exact q
   ·have:=kj q hz;lia
  ·have m:=kx ht hr;rcases UX k 0 with q|q
   ·exact q
   ·have:=kz q hz;lia
 have I6:(0<v->0<k)/\(v<0->k<0)/\(0<u->0<k)/\(u<0->k<0):=by
  rcases cd with cd|⟨cd,cy⟩
  ·obtain⟨a1,a2⟩:=sg x1 (by lia) (by lia)
   obtain⟨b1,b2⟩:=sg x2 (by lia) (by lia)
   exact⟨a1,a2,b1,b2⟩
  ·by_cases k0:k=0
   ·subst k0;rw[pY] at y1 y2;have r0:d.y*c.w-c.y*d.w≠0:=by lia
    have v0:=(kX.mp y1.symm).resolve_right r0;have u0:=(kX.mp y2.symm).resolve_right r0;lia
   ·have z0:d.x*c.w-c.x*d.w=0:=by lia
    rw[z0,ph] at x1 x2;have w1:=(kX.mp x1).resolve_left k0;have w2:=(kX.mp x2).resolve_left k0;obtain⟨a1,a2⟩:=sg y1 (by lia) (by lia)
    obtain⟨b1,b2⟩:=sg y2 (by lia) (by lia)
    exact⟨a1,a2,b1,b2⟩
 lia
theorem I7{a b:Q3}(ha:0<a.w)(hb:0<b.w)(hc:0<c.w)(hd:0<d.w)(q1:aw (dt a b c)≠aw (dt a b d))(q2:aw (dt c d a)≠aw (dt c d b)):
  ∃k:Int,k≠0/\k*(iE a b c d).x=dL a b c d/\k*(iE a b c d).y=dM a b c d/\k*(iE a b c d).w=bB a b c d:=by
 have wn:=XL (a:=a) (b:=b) hc hd q1;unfold iE
 by_cases z1:aw (dt a b c)=0
 ·rw[θ z1];have y1:=zL.mp z1;refine⟨dt a b d,λy=>q1 (by rw[y1,y]),?_,?_,?_⟩
  ·rw[xJ,y1];simp
  ·rw[xI,y1];simp
  ·rw[yQ,y1];simp
 ·rw[η z1]
  by_cases z2:aw (dt a b d)=0
  ·rw[θ z2];have y2:=zL.mp z2;refine⟨-dt a b c,λy=>z1 (zL.mpr (by lia)),?_,?_,?_⟩
   ·rw[xJ,y2];simp
   ·rw[xI,y2];simp
   ·rw[yQ,y2];simp
  ·rw[η z2]
   by_cases z3:aw (dt c d a)=0
   ·rw[θ z3];have y3:=zL.mp z3;refine⟨-dt c d b,λy=>q2 (by rw[y3,show dt c d b=0 by lia]),?_,?_,?_⟩
    ·rw[xJ,vT,y3];simp
    ·rw[xI,vV,y3];simp
    ·rw[yQ,wX,y3];simp
   ·rw[η z3]
    by_cases z4:aw (dt c d b)=0
    ·rw[θ z4];have y4:=zL.mp z4;refine⟨dt c d a,λy=>z3 (zL.mpr y),?_,?_,?_⟩
     ·rw[xJ,vT,y4];simp
     ·rw[xI,vV,y4];simp
     ·rw[yQ,wX,y4];simp
    ·rw[η z4];refine⟨bH (dL a b c d) (dM a b c d) (bB a b c d),Xc wn,?_,?_,?_⟩
     ·rw[uY];exact Vx _ _ _
     ·rw[uY];exact JC _ _ _
     ·rw[uY];exact ZV _ _ _
theorem Ze{z1 z2 p1 p2 X W:Int}(hk:k≠0)(e1:k*z1=X)(e2:k*z2=W)(h:p1*W=X*p2):z1*p2=p1*z2:=by
 have:k*(z1*p2)=k*(p1*z2):=by grind
 exact Int.eq_of_mul_eq_mul_left hk this
def I8{n:Nat}{a b:Q3}(hm:n<=m)(ha:PQ n a)(hb:PQ n b)(hc:PQ n c)(hd:PQ n d)(hx:(dL a b c d).natAbs<2^m)(hy:(dM a b c d).natAbs<2^m)(hw:(bB a b c d).natAbs<2^m)(wn:bB a b c d≠0):PQ m (iE a b c d):=by
 unfold iE
 split
 ·exact Pt.mono hc hm
 ·split
  ·exact Pt.mono hd hm
  ·split
   ·exact Pt.mono ha hm
   ·split
    ·exact Pt.mono hb hm
    ·exact Vm wn hx hy hw
theorem Ju{n:Nat}{a b:Q3}(hm:n<=m)(ha:PQ n a)(hb:PQ n b)(hc:PQ n c)(hd:PQ n d)(cw:bq a b=true)(cG:bq c d=true)(hx:(dL a b c d).natAbs<2^m)(hy:(dM a b c d).natAbs<2^m)(hw:(bB a b c d).natAbs<2^m)
  (wn:bB a b c d≠0)(hp:PQ m p)(ex:p.x*bB a b c d=dL a b c d*p.w)(ey:p.y*bB a b c d=dM a b c d*p.w)(h1:aY a b p=true)(h2:aY c d p=true):dD a b c d=.spot p:=by
 have q1:aw (dt a b c)≠aw (dt a b d):=λz=>by
  have e1:bB a b c d*p.x=(dt a b d*p.w)*c.x+(-dt a b c*p.w)*d.x:=by rw[uY,ex,xJ];grind
  have e2:bB a b c d*p.y=(dt a b d*p.w)*c.y+(-dt a b c*p.w)*d.y:=by rw[uY,ey,xI];grind
  have e3:bB a b c d*p.w=(dt a b d*p.w)*c.w+(-dt a b c*p.w)*d.w:=by rw[yQ];grind
  obtain⟨n1,n2⟩:=mo h2 cG e1 e2 e3;have w0:=hp.pos
  rcases xC (dt a b c) with⟨u1,v1⟩|⟨u1,v1⟩|⟨u1,v1⟩<;>rcases xC (dt a b d) with⟨u2,v2⟩|⟨u2,v2⟩|⟨u2,v2⟩<;>rw[v1,v2] at z<;>try lia
  ·exact n1 ⟨kf u2 w0,kx (by lia) w0⟩
  ·exact n2 ⟨kx u2 w0,kf (by lia) w0⟩
  ·apply wn
   rw[yQ,u1,u2]
   simp
 have q2:aw (dt c d a)≠aw (dt c d b):=λz=>by
  have e1:bB a b c d*p.x=(-dt c d b*p.w)*a.x+(dt c d a*p.w)*b.x:=by rw[uY,ex,xJ,vT];grind
  have e2:bB a b c d*p.y=(-dt c d b*p.w)*a.y+(dt c d a*p.w)*b.y:=by rw[uY,ey,xI,vV];grind
  have e3:bB a b c d*p.w=(-dt c d b*p.w)*a.w+(dt c d a*p.w)*b.w:=by rw[yQ,wX];grind
  obtain⟨n1,n2⟩:=mo h1 cw e1 e2 e3;have w0:=hp.pos
  rcases xC (dt c d a) with⟨u1,v1⟩|⟨u1,v1⟩|⟨u1,v1⟩<;>rcases xC (dt c d b) with⟨u2,v2⟩|⟨u2,v2⟩|⟨u2,v2⟩<;>rw[v1,v2] at z<;>try lia
  ·exact n2 ⟨kx (by lia) w0,kf u1 w0⟩
  ·exact n1 ⟨kf (by lia) w0,kx u1 w0⟩
  ·apply wn
   rw[yQ,wX,u1,u2]
   simp
 unfold dD;rw[η (λz=>q1 (z.1.trans z.2.symm)),η q1,η q2];obtain⟨k,k0,k1,k2,k3⟩:=I7 ha.pos hb.pos hc.pos hd.pos q1 q2;have ps:=I8 hm ha hb hc hd hx hy hw wn;have:=JP ps hp (Ze k0 k1 k3 ex) (Ze k0 k2 k3 ey);rw[Q3.ext' this]
theorem Yd(a b c d:Q3):dL c d a b= -dL a b c d/\dM c d a b= -dM a b c d/\bB c d a b= -bB a b c d:=by
 unfold dL dM bB;refine⟨?_,?_,?_⟩<;>grind
def jd{n:Nat}{a b:Q3}(ha:PQ n a)(hb:PQ n b)(hc:PQ n c)(hd:PQ n d):(dL a b c d).natAbs<2^(n+n+1+(n+n+1)+1)/\(dM a b c d).natAbs<2^(n+n+1+(n+n+1)+1)/\(bB a b c d).natAbs<2^(n+n+1+(n+n+1)+1):=by
 have l:∀{p q:Q3},PQ n p->PQ n q->(br p.x p.y p.w q.x q.y q.w).natAbs<2^(n+n+1)/\(bu p.x p.y p.w q.x q.y q.w).natAbs<2^(n+n+1)/\(bx p.x p.y p.w q.x q.y q.w).natAbs<2^(n+n+1):=λhp hq=>
  ⟨yT (zF hp.ly hq.lw) (zF hp.lw hq.ly),yT (zF hp.lw hq.lx) (zF hp.lx hq.lw),yT (zF hp.lx hq.ly) (zF hp.ly hq.lx)⟩
 obtain⟨a1,b1,c1⟩:=l ha hb;obtain⟨a2,b2,c2⟩:=l hc hd;exact⟨yT (zF b1 c2) (zF c1 b2),yT (zF c1 a2) (zF a1 c2),yT (zF a1 b2) (zF b1 a2)⟩
noncomputable def zQ:Q3×Q3:=(⟨0,0,1⟩,⟨0,0,1⟩)
def mr:MR->Q3->Prop
 |.none,_=>False
 |.spot q,p=>p=q
 |.part a b,p=>p=a\/p=b
noncomputable def Q1(ss:List (Q3×Q3))(x:Nat×Nat):MR:=dD (ss.getD x.1 zQ).1 (ss.getD x.1 zQ).2 (ss.getD x.2 zQ).1 (ss.getD x.2 zQ).2
def vE(ss:List (Q3×Q3))(q:Q3)(i:Nat):Prop:=∃e,ss[i]?=some e/\(q=e.1\/q=e.2)
def aZ(ss:List (Q3×Q3))(ps:List (Nat×Nat))(q:Q3)(i:Nat):Prop:=vE ss q i\/∃x,x∈ps/\(i=x.1\/i=x.2)/\mr (Q1 ss x) q
theorem Zj{n:Nat}{a b:Q3}(ha:PQ n a)(hb:PQ n b)(hc:PQ n c)(hd:PQ n d)(cw:bq a b=true)(cG:bq c d=true)(h:mr (dD a b c d) p):PQ (4*n+3) p/\aY a b p=true/\aY c d p=true:=by
 obtain⟨b1,b2,b3⟩:=jd ha hb hc hd
 cases e:dD a b c d with
 |none=>rw[e] at h;cases h
 |spot q=>
  rw[e] at h;have h':p=q:=h;subst h';obtain⟨_,p1,p2,p3,_⟩:=WX (m:=4*n+3) (by lia) ha hb hc hd cw cG (zA b1 (by lia)) (zA b2 (by lia)) (zA b3 (by lia)) e
  exact⟨p1,p2,p3⟩
 |part u v=>
  rw[e] at h;have h':p=u\/p=v:=h;obtain⟨_,_,p1,p2,_,p3,p4,_⟩:=JH ha hb hc hd cw cG e;rcases h' with rfl|rfl
  ·exact⟨Pt.mono p1 (by lia),p3.1,p3.2⟩
  ·exact⟨Pt.mono p2 (by lia),p4.1,p4.2⟩
theorem y8(a b p q r:Q3):dt a b r*dX p q=dt p q r*dX a b+dt a b p*dX r q+dt a b q*dX p r:=by unfold dt dX aE br bu bx;grind
theorem jU(a b p q r:Q3):dt a b r*dY p q=dt p q r*dY a b+dt a b p*dY r q+dt a b q*dY p r:=by unfold dt dY aE br bu bx;grind
theorem W9(h:bq p q=true):dX p q≠0\/dY p q≠0:=by
 have:=xv.mp h;unfold Lt LP at this;simp only[gA] at this;rcases this with h|⟨_,h⟩
 ·grind
 ·grind
variable{r:Q3}
def qW{a b:Q3}(Tb:bq p q=true)(hp:dt a b p=0)(hq:dt a b q=0)(hr:dt p q r=0):dt a b r=0:=by
 have e1:=y8 a b p q r;have e2:=jU a b p q r;rw[hp,hq,hr] at e1 e2;simp only[pY,UY] at e1 e2;rcases W9 Tb with h|h
 ·exact(kX.mp e1).resolve_right h
 ·exact(kX.mp e2).resolve_right h
def qn{n:Nat}{a b:Q3}(ha:PQ n a)(hb:PQ n b)(hp:PQ n p)(hq:PQ n q)(hr:PQ n r)(Tb:bq p q=true)(op:aY a b p=true)(oq:aY a b q=true)(h0:dt p q r=0)(h1:bq r p=false)(h2:bq q r=false):aY a b r=true:=by
 obtain⟨p1,p2,p3⟩:=zj op;obtain⟨q1,q2,q3⟩:=zj oq;exact yS (qW Tb p1 q1 h0) (wG ha.pos hp.pos hr.pos p2 h1) (wG hr.pos hq.pos hb.pos h2 q3)
theorem XW(a b:Q3):bB a b a b=0:=by unfold bB;grind
theorem Xm{a b:Q3}(h1:dt a b q=0)(h2:dt c d q=0):q.x*bB a b c d=dL a b c d*q.w/\q.y*bB a b c d=dM a b c d*q.w:=by
 unfold dt aE at h1 h2;unfold dL dM bB;generalize br a.x a.y a.w b.x b.y b.w=A at*;generalize bu a.x a.y a.w b.x b.y b.w=B at*;generalize bx a.x a.y a.w b.x b.y b.w=C at*;generalize br c.x c.y c.w d.x d.y d.w=A' at*;generalize bu c.x c.y c.w d.x d.y d.w=B' at*;generalize bx c.x c.y c.w d.x d.y d.w=C' at*
 constructor<;>grind
theorem I9(a b:Q3):br a.x a.y a.w b.x b.y b.w= -dY a b/\bu a.x a.y a.w b.x b.y b.w=dX a b:=by
 unfold br bu dX dY
 constructor<;>grind
theorem Ka{A B A1 B1 A2 B2:Int}(h:A≠0\/B≠0)(e1:A*B1-B*A1=0)(e2:A*B2-B*A2=0):A1*B2-B1*A2=0:=by
 have f1:A*(A1*B2-B1*A2)=0:=by grind
 have f2:B*(A1*B2-B1*A2)=0:=by grind
 rcases h with h|h
 ·exact(kX.mp f1).resolve_left h
 ·exact(kX.mp f2).resolve_left h
theorem t9{a b:Q3}(h:bq a b=true):br a.x a.y a.w b.x b.y b.w≠0\/bu a.x a.y a.w b.x b.y b.w≠0:=by
 obtain⟨e1,e2⟩:=I9 a b;rw[e1,e2];rcases W9 h with h|h
 ·exact .inr h
 ·grind
def Kb{a b e f:Q3}(h:bq a b=true)(h1:bB a b c d=0)(h2:bB a b e f=0):bB c d e f=0:=Ka (t9 h) h1 h2
theorem xW{a b:Q3}(hq:0<q.w)(cG:bq c d=true)(z:bB a b c d=0)(h1:dt a b q=0)(h2:dt c d q=0)(hr:dt c d r=0):dt a b r=0:=by
 have ln:=t9 cG;unfold bB at z;unfold dt aE at*;generalize br a.x a.y a.w b.x b.y b.w=A at*;generalize bu a.x a.y a.w b.x b.y b.w=B at*;generalize bx a.x a.y a.w b.x b.y b.w=C at*;generalize br c.x c.y c.w d.x d.y d.w=A' at*;generalize bu c.x c.y c.w d.x d.y d.w=B' at*;generalize bx c.x c.y c.w d.x d.y d.w=C' at*;have e:q.w*(A*r.x+B*r.y+C*r.w)=0:=by
  have f1:A'*(q.w*(A*r.x+B*r.y+C*r.w))=0:=by grind
  have f2:B'*(q.w*(A*r.x+B*r.y+C*r.w))=0:=by grind
  rcases ln with h|h
  ·exact(kX.mp f1).resolve_left h
  ·exact(kX.mp f2).resolve_left h
 exact(kX.mp e).resolve_left (by lia)
def X0(a b:Q3):dt a b a=0/\dt a b b=0:=⟨yI a b,yo a b⟩
def Yj{a b:Q3}(h:bq a b=true):aY a b a=true/\aY a b b=true:=⟨yS (yI a b) (zq a) (zt h),yS (yo a b) (zt h) (zq b)⟩
theorem ZU{n:Nat}{a b:Q3}(ha:PQ n a)(hb:PQ n b)(hc:PQ n c)(hd:PQ n d)(hq:PQ n q)(s0:dt a b c=0)(s1:dt a b d=0)(h1:aY a b q=true)(h2:aY c d q=true)(e:q=a\/q=b\/q=c\/q=d):mr (dD a b c d) q:=by
 obtain⟨_,i1,i2⟩:=zj h1;obtain⟨_,j1,j2⟩:=zj h2;unfold dD;rw[s0,s1,θ ⟨wU,wU⟩];have F:aH a c=q\/(bq (aH a c) q=true/\bq q (aH a c)=false):=by
  unfold aH
  split
  ·by_cases z:bq c q=true
   ·exact .inr ⟨z,j1⟩
   ·exact .inl (yn hc hq z (by rw[j1];decide))
  ·by_cases z:bq a q=true
   ·exact .inr ⟨z,i1⟩
   ·exact .inl (yn ha hq z (by rw[i1];decide))
 have S:aL b d=q\/(bq q (aL b d)=true/\bq (aL b d) q=false):=by
  unfold aL
  split
  ·by_cases z:bq q b=true
   ·exact .inr ⟨z,i2⟩
   ·exact .inl (yn hb hq (by rw[i2];decide) z)
  ·by_cases z:bq q d=true
   ·exact .inr ⟨z,j2⟩
   ·exact .inl (yn hd hq (by rw[j2];decide) z)
 have E:aH a c=q\/aL b d=q:=by
  rcases e with rfl|rfl|rfl|rfl
  ·left;unfold aH;rw[η (by rw[j1];decide)]
  ·right;unfold aL
   split
   ·rfl
   ·rename_i z
    exact yn hd hq (by rw[j2];decide) z
  ·left;unfold aH
   split
   ·rfl
   ·rename_i z
    exact yn ha hq z (by rw[i1];decide)
  ·right;unfold aL;rw[η (by rw[i2];decide)]
 have nb:¬bq (aL b d) (aH a c)=true:=by grind
 unfold LZ;rw[η nb]
 by_cases z:(aH a c).x=(aL b d).x/\(aH a c).y=(aL b d).y/\(aH a c).w=(aL b d).w
 ·rw[θ z];show q=aH a c;rcases E with E|E
  ·exact E.symm
  ·rw[<-E];exact(Q3.ext' z).symm
 ·rw[η z];rcases E with E|E
  ·exact .inl E.symm
  ·exact .inr E.symm
structure zr(n:Nat)(ss:List (Q3×Q3))(ps:List (Nat×Nat))(g:Int):Prop where
 ok:∀s,s∈ss->PQ n s.1/\PQ n s.2/\bq s.1 s.2=true
 gp:∀s,s∈ss->s.1.w<=g/\s.2.w<=g
 lt:∀e,e∈ps->e.1<ss.length/\e.2<ss.length
 all:∀a b,a<ss.length->b<ss.length->a≠b->iS g (ss.getD a zQ) (ss.getD b zQ)->(a,b)∈ps\/(b,a)∈ps
variable{i j:Nat}
section
variable{n:Nat}{ss:List (Q3×Q3)}{ps:List (Nat×Nat)}{g:Int}
theorem zg(h:i<ss.length):ss.getD i zQ∈ss:=by grind
def cZ(ss:List (Q3×Q3))(q:Q3)(i:Nat):Prop:=aY (ss.getD i zQ).1 (ss.getD i zQ).2 q=true
def yE:vE ss q i↔i<ss.length/\(q=(ss.getD i zQ).1\/q=(ss.getD i zQ).2):=by
 constructor
 ·rintro⟨e,h,z⟩;have hi:=(kH.mp h).1;rw[kE,h];exact⟨hi,z⟩
 ·rintro⟨hi,z⟩;rw[kE,kC hi] at z;exact⟨ss[i],kC hi,z⟩
theorem zr.lies(T:zr n ss ps g)(h:aZ ss ps q i):i<ss.length/\PQ (4*n+3) q/\cZ ss q i:=by
 rcases h with h|⟨x,hx,hi,hs⟩
 ·obtain⟨hi,z⟩:=yE.mp h;obtain⟨o1,o2,o3⟩:=T.ok _ (zg hi);refine⟨hi,?_⟩;unfold cZ;rcases z with z|z
  ·rw[z];exact⟨Pt.mono o1 (by lia),(Yj o3).1⟩
  ·rw[z];exact⟨Pt.mono o2 (by lia),(Yj o3).2⟩
 ·obtain⟨l1,l2⟩:=T.lt x hx;obtain⟨o1,o2,o3⟩:=T.ok _ (zg l1);obtain⟨r1,r2,r3⟩:=T.ok _ (zg l2);obtain⟨p1,p2,p3⟩:=Zj o1 o2 r1 r2 o3 r3 hs;rcases hi with rfl|rfl
  ·exact⟨l1,p1,p2⟩
  ·exact⟨l2,p1,p3⟩
def zr.pair(T:zr n ss ps g)(hi:i<ss.length)(hj:j<ss.length)(ne:i≠j)(hq:0<q.w)(oi:cZ ss q i)(oj:cZ ss q j):(i,j)∈ps\/(j,i)∈ps:=by
 obtain⟨o1,o2,o3⟩:=T.ok _ (zg hi);obtain⟨r1,r2,r3⟩:=T.ok _ (zg hj);obtain⟨g1,g2⟩:=T.gp _ (zg hi);obtain⟨g3,g4⟩:=T.gp _ (zg hj);exact T.all i j hi hj ne (rC o1 o2 r1 r2 g1 g2 g3 g4 hq oi oj)
def JZ(h:(i,j)∈ps\/(j,i)∈ps)(s1:mr (Q1 ss (i,j)) q)(s2:mr (Q1 ss (j,i)) q):aZ ss ps q i:=by
 rcases h with h|h
 ·exact .inr ⟨_,h,.inl rfl,s1⟩
 ·exact .inr ⟨_,h,.inr rfl,s2⟩
noncomputable def mu(ss:List (Q3×Q3))(i j:Nat):Int:=bB (ss.getD i zQ).1 (ss.getD i zQ).2 (ss.getD j zQ).1 (ss.getD j zQ).2
theorem zr.cross(T:zr n ss ps g)(hm:4*n+3<=m)(hi:i<ss.length)(hj:j<ss.length)(hq:PQ m q)(oi:cZ ss q i)(oj:cZ ss q j)(c:mu ss i j≠0):aZ ss ps q i:=by
 have ne:i≠j:=λz=>by
  subst z;exact c (XW _ _)
 obtain⟨o1,o2,o3⟩:=T.ok _ (zg hi);obtain⟨r1,r2,r3⟩:=T.ok _ (zg hj);obtain⟨ex,ey⟩:=Xm (zj oi).1 (zj oj).1;obtain⟨s1,s2,s3⟩:=Yd (ss.getD i zQ).1 (ss.getD i zQ).2 (ss.getD j zQ).1 (ss.getD j zQ).2;obtain⟨b1,b2,b3⟩:=jd o1 o2 r1 r2;obtain⟨d1,d2,d3⟩:=jd r1 r2 o1 o2;have up:∀{z:Int},z.natAbs<2^(n+n+1+(n+n+1)+1)->z.natAbs<2^m:=λh=>zA h (by lia)
 refine JZ (T.pair hi hj ne hq.pos oi oj) ?_ ?_
 ·show mr (dD _ _ _ _) q
  rw[Ju (by lia) o1 o2 r1 r2 o3 r3 (up b1) (up b2) (up b3) c hq ex ey oi oj]
  rfl
 ·show mr (dD _ _ _ _) q
  rw[Ju (by lia) r1 r2 o1 o2 r3 o3 (up d1) (up d2) (up d3) (by rw[s3];unfold mu at c;lia) hq (by rw[s1,s3,gB,QG,ex]) (by rw[s2,s3,gB,QG,ey]) oj oi]
  rfl
theorem zr.ends(T:zr n ss ps g){k:Nat}(hi:i<ss.length)(h:vE ss q k)(oi:cZ ss q i):aZ ss ps q i:=by
 obtain⟨hk,z⟩:=yE.mp h;obtain⟨_,hq,ok⟩:=T.lies (.inl h:aZ ss ps q k)
 by_cases e:i=k
 ·subst e;exact .inl h
 by_cases c:mu ss i k=0
 ·obtain⟨o1,o2,o3⟩:=T.ok _ (zg hi);obtain⟨r1,r2,r3⟩:=T.ok _ (zg hk);have up:∀{z:Q3},PQ n z->PQ (4*n+3) z:=λh=>Pt.mono h (by lia)
  have c':bB (ss.getD k zQ).1 (ss.getD k zQ).2 (ss.getD i zQ).1 (ss.getD i zQ).2=0:=by
   have:=(Yd (ss.getD i zQ).1 (ss.getD i zQ).2 (ss.getD k zQ).1 (ss.getD k zQ).2).2.2;unfold mu at c;lia
  have l1:=(zj oi).1;have l2:=(zj ok).1;have de:=X0 (ss.getD k zQ).1 (ss.getD k zQ).2;have df:=X0 (ss.getD i zQ).1 (ss.getD i zQ).2;refine JZ (T.pair hi hk e hq.pos oi ok) ?_ ?_
  ·exact ZU (up o1) (up o2) (up r1) (up r2) hq (xW hq.pos r3 c l1 l2 de.1) (xW hq.pos r3 c l1 l2 de.2) oi ok (.inr (.inr z))
  ·exact ZU (up r1) (up r2) (up o1) (up o2) hq (xW hq.pos o3 c' l2 l1 df.1) (xW hq.pos o3 c' l2 l1 df.2) ok oi (z.imp id .inl)
 ·exact T.cross (pL _) hi hk hq oi ok c
theorem JX{n:Nat}{a b:Q3}(ha:PQ n a)(hb:PQ n b)(hc:PQ n c)(hd:PQ n d)(cw:bq a b=true)(cG:bq c d=true)(s0:dt a b c=0)(s1:dt a b d=0)(h:mr (dD a b c d) q):(q=a\/q=b)\/(q=c\/q=d):=by
 obtain⟨b1,b2,b3⟩:=jd ha hb hc hd
 cases e:dD a b c d with
 |none=>rw[e] at h;cases h
 |spot p=>
  rw[e] at h;have h':q=p:=h;obtain⟨_,_,_,_,z⟩:=WX (m:=4*n+3) (by lia) ha hb hc hd cw cG (zA b1 (by lia)) (zA b2 (by lia)) (zA b3 (by lia)) e
  rcases z ⟨by rw[s0,wU],by rw[s1,wU]⟩ with⟨z,_⟩|⟨z,_⟩
  ·grind
  ·grind
 |part u v=>
  rw[e] at h;have h':q=u\/q=v:=h;obtain⟨_,_,_,_,_,_,_,z1,z2⟩:=JH ha hb hc hd cw cG e;rcases h' with h'|h'
  ·grind
  ·grind
def zr.full(T:zr n ss ps g)(hi:i<ss.length)(h:aZ ss ps q j)(oi:cZ ss q i):aZ ss ps q i:=by
 obtain⟨hj,hq,oj⟩:=T.lies h;rcases h with h|⟨x,hx,hxj,hs⟩
 ·exact T.ends hi h oi
 obtain⟨l1,l2⟩:=T.lt x hx;obtain⟨_,_,n1⟩:=T.lies (.inr ⟨x,hx,.inl rfl,hs⟩:aZ ss ps q x.1);obtain⟨_,_,n2⟩:=T.lies (.inr ⟨x,hx,.inr rfl,hs⟩:aZ ss ps q x.2);obtain⟨o1,o2,o3⟩:=T.ok _ (zg l1);obtain⟨r1,r2,r3⟩:=T.ok _ (zg l2);obtain⟨t1,t2,t3⟩:=T.ok _ (zg hi)
 by_cases c:mu ss x.1 x.2=0
 ·have de:=X0 (ss.getD x.2 zQ).1 (ss.getD x.2 zQ).2;rcases JX o1 o2 r1 r2 o3 r3 (xW hq.pos r3 c (zj n1).1 (zj n2).1 de.1) (xW hq.pos r3 c (zj n1).1 (zj n2).1 de.2) hs with z|z
  ·exact T.ends hi (yE.mpr ⟨l1,z⟩) oi
  ·exact T.ends hi (yE.mpr ⟨l2,z⟩) oi
 ·by_cases c1:mu ss i x.1=0
  ·by_cases c2:mu ss i x.2=0
   ·exact absurd (Kb t3 c1 c2) c
   ·exact T.cross (pL _) hi l2 hq oi n2 c2
  ·exact T.cross (pL _) hi l1 hq oi n1 c1
def bT(ss:List (Q3×Q3))(ps:List (Nat×Nat))(f:Q3×Q3):Prop:=∃i,aZ ss ps f.1 i/\aZ ss ps f.2 i/\bq f.1 f.2=true/\∀r,aZ ss ps r i->bq f.1 r=true->bq r f.2=true->False
def Tc(e f:Q3×Q3):Prop:=bq e.2 f.1=true\/bq f.2 e.1=true\/
 ((aw (dt e.1 e.2 f.1)=0/\aw (dt e.1 e.2 f.2)=0->e.2=f.1\/f.2=e.1)/\
  (¬(aw (dt e.1 e.2 f.1)=0/\aw (dt e.1 e.2 f.2)=0)->aw (dt e.1 e.2 f.1)=aw (dt e.1 e.2 f.2)\/aw (dt f.1 f.2 e.1)=aw (dt f.1 f.2 e.2)\/(e.1=f.1\/e.1=f.2)\/(e.2=f.1\/e.2=f.2)))
theorem zr.apart(T:zr n ss ps g){e f:Q3×Q3}(he:bT ss ps e)(hf:bT ss ps f)(ne:e≠f):Tc e f:=by
 obtain⟨i,a1,a2,a3,a4⟩:=he;obtain⟨j,b1,b2,b3,b4⟩:=hf;obtain⟨hi,p1,o1⟩:=T.lies a1;obtain⟨_,p2,o2⟩:=T.lies a2;obtain⟨hj,q1,r1⟩:=T.lies b1;obtain⟨_,q2,r2⟩:=T.lies b2;have up:∀{z:Q3},PQ n z->PQ (4*n+3) z:=λh=>Pt.mono h (by lia)
 obtain⟨s1,s2,s3⟩:=T.ok _ (zg hi);obtain⟨t1,t2,t3⟩:=T.ok _ (zg hj)
 by_cases x1:bq e.2 f.1=true
 ·exact .inl x1
 by_cases x2:bq f.2 e.1=true
 ·exact .inr (.inl x2)
 refine .inr (.inr ⟨λz=>?_,λz=>?_⟩)
 ·have z1:=zL.mp z.1;have z2:=zL.mp z.2;obtain⟨w1,w2⟩:=vP p1 p2 a3 z1 z2;have wi:∀{r:Q3}{k:Nat},aZ ss ps r k->dt e.1 e.2 r=0->bq e.1 r=true->bq r e.2=true->False:=λ{r k} h h0 h1 h2=>
   a4 r (T.full hi h (qn (up s1) (up s2) p1 p2 (T.lies h).2.1 a3 o1 o2 h0 (zt h1) (zt h2))) h1 h2
  have wj:∀{r:Q3}{k:Nat},aZ ss ps r k->dt f.1 f.2 r=0->bq f.1 r=true->bq r f.2=true->False:=λ{r k} h h0 h1 h2=>
   b4 r (T.full hj h (qn (up t1) (up t2) q1 q2 (T.lies h).2.1 b3 r1 r2 h0 (zt h1) (zt h2))) h1 h2
  by_cases y1:e.2=f.1
  ·exact .inl y1
  by_cases y2:f.2=e.1
  ·exact .inr y2
  exfalso
  have k1:bq f.1 e.2=true:=by
   cases h:bq f.1 e.2 with
   |true=>rfl
   |false=>exact absurd (yn p2 q1 x1 (by rw[h];decide)) y1
  have k2:bq e.1 f.2=true:=by
   cases h:bq e.1 f.2 with
   |true=>rfl
   |false=>exact absurd (yn q2 p1 x2 (by rw[h];decide)) y2
  by_cases m1:bq e.1 f.1=true
  ·exact wi b1 z1 m1 k1
  by_cases m2:bq f.1 e.1=true
  ·exact wj a1 w1 m2 k2
  have ee:=yn p1 q1 m1 m2
  by_cases m3:bq e.2 f.2=true
  ·grind
  by_cases m4:bq f.2 e.2=true
  ·grind
  exact ne (Uy ee (yn p2 q2 m3 m4))
 ·by_cases y1:aw (dt e.1 e.2 f.1)=aw (dt e.1 e.2 f.2)
  ·exact .inl y1
  by_cases y2:aw (dt f.1 f.2 e.1)=aw (dt f.1 f.2 e.2)
  ·exact .inr (.inl y2)
  refine .inr (.inr ?_);have em:dD e.1 e.2 f.1 f.2=.spot (iE e.1 e.2 f.1 f.2):=by
   unfold dD;rw[η z,η y1,η y2]
  obtain⟨c1,c2,c3⟩:=jd p1 p2 q1 q2;obtain⟨_,hx,x3,x4,_⟩:=WX (m:=4*(4*n+3)+3) (by lia) p1 p2 q1 q2 a3 b3 (zA c1 (by lia)) (zA c2 (by lia)) (zA c3 (by lia)) em
  generalize iE e.1 e.2 f.1 f.2=X at*;have lS:∀{z:Q3},PQ (4*n+3) z->PQ (4*(4*n+3)+3) z:=λh=>Pt.mono h (by lia)
  obtain⟨u1,u2,u3⟩:=zj x3;obtain⟨v1,v2,v3⟩:=zj x4;have oi:cZ ss X i:=qn (lS (up s1)) (lS (up s2)) (lS p1) (lS p2) hx a3 o1 o2 u1 u2 u3;have oj:cZ ss X j:=qn (lS (up t1)) (lS (up t2)) (lS q1) (lS q2) hx b3 r1 r2 v1 v2 v3;have cn:mu ss i j≠0:=λc=>z (by
   have l1:=(zj oi).1;have l2:=(zj oj).1;have g1:=xW hx.pos t3 c l1 l2 (zj r1).1;have g2:=xW hx.pos t3 c l1 l2 (zj r2).1;obtain⟨h1,h2⟩:=zj o1;obtain⟨h3,h4⟩:=zj o2;obtain⟨k1,k2⟩:=vP (up s1) (up s2) s3 h1 h3;exact⟨by rw[qW s3 k1 k2 g1,wU],by rw[qW s3 k1 k2 g2,wU]⟩)
  have cn':mu ss j i≠0:=λc=>cn (by
   have:=(Yd (ss.getD j zQ).1 (ss.getD j zQ).2 (ss.getD i zQ).1 (ss.getD i zQ).2).2.2;unfold mu at*;lia)
  have li:=T.cross (by lia) hi hj hx oi oj cn
  have lj:=T.cross (by lia) hj hi hx oj oi cn'
  have hX:=(T.lies li).2.1;have ei:X=e.1\/X=e.2:=by
   by_cases h1:bq e.1 X=true
   ·by_cases h2:bq X e.2=true
    ·grind
    ·exact .inr (yn hX p2 h2 (by rw[u3];decide))
   ·exact .inl (yn hX p1 (by rw[u2];decide) h1)
  have ej:X=f.1\/X=f.2:=by
   by_cases h1:bq f.1 X=true
   ·by_cases h2:bq X f.2=true
    ·grind
    ·exact .inr (yn hX q2 h2 (by rw[v3];decide))
   ·exact .inl (yn hX q1 (by rw[v2];decide) h1)
  rcases ei with ei|ei
  ·grind
  ·grind
end
end Mine
local macro_rules
  | `(tactic| simp! [$xs,*]) => do let f := fun (s : String) => (s.splitOn " ").toArray.map fun x => Lean.mkIdent x.toName; let q := f "bg ag ak aU cC aO aC au cm dq dV aA dC d1 d2 ae aa ax aK aj dB bM cb aT C6 fi Ls fT sF sR cD fP iL iT fJ Lu iC gN gT aG bJ fgt ti fQ Option.bind_some Option.bind_none Option.map_some Option.getD_some List.length_cons List.length_nil List.map_cons List.map_nil List.reduceReplicate List.cons_append List.nil_append List.getElem?_cons_zero List.getElem?_cons_succ List.set_cons_zero List.set_cons_succ List.modify_zero_cons List.modify_succ_cons List.foldl_cons List.foldl_nil Nat.reduceAdd Nat.reduceSub Nat.reduceEqDiff g6 mv mw my eE ite_true ite_false if_true if_false Bool.false_eq_true Bool.not_true Bool.not_false"; `(tactic| simp only [$[$q:term],*, ↓reduceIte, $xs,*])
local macro_rules
  | `(tactic| dsimp! [$xs,*]) => do let f := fun (s : String) => (s.splitOn " ").toArray.map fun x => Lean.mkIdent x.toName; let q := f "bg ag ak aU cC aO aC au cm dq dV aA dC d1 d2 ae aa ax aK aj dB bM cb aT C6 fi Ls fT sF sR cD fP iL iT fJ Lu iC gN gT aG bJ fgt ti fQ Option.bind_some Option.bind_none Option.map_some Option.getD_some List.length_cons List.length_nil List.map_cons List.map_nil List.reduceReplicate List.cons_append List.nil_append List.getElem?_cons_zero List.getElem?_cons_succ List.set_cons_zero List.set_cons_succ List.modify_zero_cons List.modify_succ_cons List.foldl_cons List.foldl_nil Nat.reduceAdd Nat.reduceSub Nat.reduceEqDiff g6 mv mw my eE ite_true ite_false if_true if_false Bool.false_eq_true Bool.not_true Bool.not_false ao aD bN fm aB iI fU Mr iX iq iw ic"; `(tactic| simp only [$[$q:term],*, ↓reduceIte, $xs,*])
namespace Mine
open PySem L2 My
section
variable{n:Nat}{i j:Int}{p q:Q3}
namespace Nu
def xj(h:n<=8000000):n<=ψ:=uR h (by decide)
def xd(h:n<=8000000):n<ψ:=um h (by decide)
def g6:(0<=ψ)=True:=eq_true (by decide)
def mv:(1<=ψ)=True:=eq_true (by decide)
def mw:(2<=ψ)=True:=eq_true (by decide)
def my:(3<=ψ)=True:=eq_true (by decide)
def eE:(4<=ψ)=True:=eq_true (by decide)
noncomputable def eQ(p:Q3):Dt:=.tuple [.int p.x,.int p.y,.int p.w]
noncomputable def eS(s:Q3×Q3):Dt:=.tuple [eQ s.1,eQ s.2]
def xm(p:Q3):af (eQ p) (.int 0)=some (.int p.x):=rfl
def xy(p:Q3):af (eQ p) (.int 1)=some (.int p.y):=rfl
def xa(p:Q3):af (eQ p) (.int 2)=some (.int p.w):=rfl
def zJ(s:Q3×Q3):af (eS s) (.int 0)=some (eQ s.1):=rfl
def zU(s:Q3×Q3):af (eS s) (.int 1)=some (eQ s.2):=rfl
def Om(a b c:Dt):af (.tuple [a,b,c]) (.int 0)=some a:=rfl
def On(a b c:Dt):af (.tuple [a,b,c]) (.int 1)=some b:=rfl
def Oo(a b c:Dt):af (.tuple [a,b,c]) (.int 2)=some c:=rfl
def qg(a b:Dt):af (.tuple [a,b]) (.int 0)=some a:=rfl
def qp(a b:Dt):af (.tuple [a,b]) (.int 1)=some b:=rfl
theorem Op{α:Type}{f:α->Dt}{xs:List α}{i:Nat}{a:α}(h:xs[i]?=some a):af (.list (xs.map f)) (.int i)=some (f a):=by
 show C8 (xs.map f) (i:Int)=_
 have hi:=(kH.mp h).1;unfold C8 ixN;rw[θ (by lia),θ (by rw[kJ];lia)]
 show(xs.map f)[i]?=_
 rw[kY,h];rfl
def SQ(p:Q3):Prop:=p.x.natAbs<2^100000/\p.y.natAbs<2^100000/\p.w.natAbs<2^100000
def SQ.of(h:PQ n p)(hn:n<=100000):SQ p:=⟨zA h.lx hn,zA h.ly hn,zA h.lw hn⟩
def Oq(h:mZ i j):zf (.int i) (.int j)=some (.int (i*j)):=by simp only[zf,kI,θ h]
def zC{m:Nat}(h1:i.natAbs<2^m)(h2:j.natAbs<2^n)(hm:m<=1000000:=by decide)(hn:n<=1000000:=by decide):zf (.int i) (.int j)=some (.int (i*j)):=Oq (S0 h1 h2 hm hn)
def u4(h:Y5 i j):zE (.int i) (.int j)=some (.int (i.fdiv j)):=by simp only[zE,kI,θ h]
def xb(i j:Int):zo (.int i) (.int j)=some (.int (i-j)):=rfl
def vF(i j:Int):zN (.int i) (.int j)=some (.int (i+j)):=rfl
def yP(i j:Int):cz (.int i) (.int j)=some (.bool (decide (i<j))):=rfl
def jO(i j:Int):lC (.int i) (.int j)=some (.bool (decide (j<i))):=rfl
def Ot(i j:Int):mJ (.int i) (.int j)=some (.bool (decide (i<=j))):=rfl
def Te(i j:Int):Lr (.int i) (.int j)=some (.bool (decide (j<=i))):=rfl
def yh(i j:Int):zB (.int i) (.int j)=some (.bool (decide (i=j))):=rfl
def yG(i j:Int):yb (.int i) (.int j)=some (.bool (!decide (i=j))):=rfl
def wV(i:Int):yC (.int i)=some (.int (-i)):=rfl
def fG(hp:SQ p)(hq:SQ q):(zf (.int p.x) (.int q.w)=some (.int (p.x*q.w))/\zf (.int p.y) (.int q.w)=some (.int (p.y*q.w))/\zf (.int p.w) (.int q.x)=some (.int (p.w*q.x))/\zf (.int p.w) (.int q.y)=some (.int (p.w*q.y))/\zf (.int p.x) (.int q.y)=some (.int (p.x*q.y))/\zf (.int p.y) (.int q.x)=some (.int (p.y*q.x))):=
 ⟨zC hp.1 hq.2.2,zC hp.2.1 hq.2.2,zC hp.2.2 hq.1,zC hp.2.2 hq.2.1,zC hp.1 hq.2.1,zC hp.2.1 hq.1⟩
def qI(hp:SQ p)(hq:SQ q):vL [eQ p,eQ q]=some (.bool (bq p q)):=by
 obtain⟨a1,a2,a3,a4,a5,a6⟩:=fG hp hq;obtain⟨b1,b2,b3,b4,b5,b6⟩:=fG hq hp;unfold vL
 by_cases c:p.x*q.w=q.x*p.w
 ·simp! [xm,xy,xa,a1,a2,b1,b2,yG,yP,ζ c,bq,dm,θ c]
 ·simp! [xm,xy,xa,a1,a2,b1,b2,yG,yP,ι c,bq,dm,η c]
def rD(i:Int):YB [.int i]=some (.int (aw i)):=by
 unfold YB aw
 by_cases c:0<i
 ·simp! [jO,yP,ζ c,θ c]
 ·by_cases c2:i<0
  ·simp! [jO,yP,ι c,ζ c2,η c,θ c2,wV]
  ·simp! [jO,yP,ι c,ι c2,η c,η c2,wV]
noncomputable def eL(p q:Q3):Dt:=.tuple [.int (br p.x p.y p.w q.x q.y q.w),.int (bu p.x p.y p.w q.x q.y q.w),.int (bx p.x p.y p.w q.x q.y q.w)]
def Y3(hp:SQ p)(hq:SQ q):vC [eQ p,eQ q]=some (eL p q):=by
 obtain⟨a1,a2,a3,a4,a5,a6⟩:=fG hp hq;unfold vC;simp! [xm,xy,xa,a1,a2,a3,a4,a5,a6,xb];rfl
def Ov(hp:SQ p)(hq:SQ q):(br p.x p.y p.w q.x q.y q.w).natAbs<2^200001/\(bu p.x p.y p.w q.x q.y q.w).natAbs<2^200001/\(bx p.x p.y p.w q.x q.y q.w).natAbs<2^200001:=
 ⟨zA (yT (zF hp.2.1 hq.2.2) (zF hp.2.2 hq.2.1)) (by decide),zA (yT (zF hp.2.2 hq.1) (zF hp.1 hq.2.2)) (by decide),zA (yT (zF hp.1 hq.2.1) (zF hp.2.1 hq.1)) (by decide)⟩
def vZ{r:Q3}(hp:SQ p)(hq:SQ q)(hr:SQ r):xE [eL p q,eQ r]=some (.int (aw (dt p q r))):=by
 obtain⟨l1,l2,l3⟩:=Ov hp hq;have a1:=zC l1 hr.1;have a2:=zC l2 hr.2.1;have a3:=zC l3 hr.2.2;unfold xE eL;simp! [Om,On,Oo,xm,xy,xa,a1,a2,a3,vF,rD];rfl
def rE{r:Q3}(hp:SQ p)(hq:SQ q)(hr:SQ r):qJ [eQ p,eQ q,eQ r]=some (.int (aw (dt p q r))):=by
 unfold qJ;simp! [Y3 hp hq,vZ hp hq hr]
noncomputable def pQ(p:Q3):EZ:=.tuple [.int p.x,.int p.y,.int p.w]
def WQ(p:Q3):cB (eQ p)=some (pQ p):=rfl
def JM(p:Q3):uq (pQ p)=true:=by
 simp[pQ,uq,uu,uH,QJ,ud]
def WT(p q:Q3):UA (pQ p) (pQ q)=decide (p=q):=by
 obtain⟨x,y,w⟩:=p;obtain⟨x',y',w'⟩:=q;simp only[pQ,UA,UG,AZ]
 by_cases h1:x=x'<;>by_cases h2:y=y'<;>by_cases h3:w=w'<;>simp[h1,h2,h3]
def yA(p q:Q3):cI (eQ p) (eQ q)=some (.bool (decide (p=q))):=by
 unfold cI;simp only[WQ,kG,JM,and_self,if_true,WT]
def Z3(hp:SQ p)(hq:SQ q)(ne:p≠q):Y0 [eQ p,eQ q]=some (eS (if bq p q=true then(p,q) else(q,p))):=by
 unfold Y0
 cases c:bq p q
 ·simp! [yA,ι ne,qI hp hq,c];rfl
 ·simp! [yA,ι ne,qI hp hq,c];rfl
end Nu
end
section
variable{α β:Type}
namespace Nu
def Gv(o:Option α)(P:α->Prop):Prop:=∃a,o=some a/\P a
def Gv.bind{o:Option α}{f:α->Option β}{P:α->Prop}{Q:β->Prop}(h:Gv o P)(k:∀a,P a->Gv (f a) Q):Gv (o.bind f) Q:=by
 obtain⟨a,rfl,p⟩:=h;exact k a p
noncomputable def ic(fg:List Nat):Ou->Option En
 |.nx Z=>some (fgt fg Z)
 |.ct Z=>some (fgt fg Z)
 |_=>none
theorem X5{α σ:Type}{e:α->Dt}{h:Dt->En->Option En}{b:En->Option Ou}{fg:List Nat}(env:σ->En)(J:Nat->σ->Prop):∀(xs:List α)(k:Nat)(s:σ),J k s->(∀i a s,xs[i]?=some a->J (k+i) s->∃s',((h (e a) (env s)).bind b).bind (ic fg)=some (env s')/\J (k+i+1) s')->∃s',zw h b fg (xs.map e) (env s)=some (.nx (env s'))/\J (k+xs.length) s'
 |[],k,s,h0,_=>⟨s,rfl,h0⟩
 |a::xs,k,s,h0,st=>by
  obtain⟨s1,e1,j1⟩:=st 0 a s rfl h0;obtain⟨s',e3,i3⟩:=X5 env J xs (k+1) s1 j1 λi d' s hd hi=>by
   have:=st (i+1) d' s hd (by rw[show k+(i+1)=k+1+i by lia];exact hi)
   rw[show k+(i+1)+1=k+1+i+1 by lia] at this
   exact this
  refine⟨s',?_,by rw[ku,show k+(xs.length+1)=k+1+xs.length by lia];exact i3⟩
  obtain⟨o,e4,e5⟩:=kA.mp e1;obtain⟨bA,e6,e7⟩:=kA.mp e4;rw[kZ,zw,e6,kG,e7,kG]
  cases o with
  |nx b9=>show zw h b fg (xs.map e) (fgt fg b9)=_;rw[show fgt fg b9=env s1 from pT e5];exact e3
  |ct b9=>show zw h b fg (xs.map e) (fgt fg b9)=_;rw[show fgt fg b9=env s1 from pT e5];exact e3
  |bk b9=>cases e5
  |rt d b9=>cases e5
def xz{σ:Type}{e:α->Dt}{h:Dt->En->Option En}{b:En->Option Ou}{fg:List Nat}{K:Ou->Option β}{P:β->Prop}{Z:En}{xs:List α}(env:σ->En)(J:Nat->σ->Prop)(s0:σ)(Tf:Z=env s0)(h0:J 0 s0)(st:∀i a s,xs[i]?=some a->J i s->∃s',((h (e a) (env s)).bind b).bind (ic fg)=some (env s')/\J (i+1) s')(k:∀s',J xs.length s'->Gv (K (.nx (env s'))) P):Gv ((zw h b fg (xs.map e) Z).bind K) P:=by
 subst Tf;obtain⟨s',e1,j1⟩:=X5 (h:=h) (b:=b) (fg:=fg) (e:=e) env J xs 0 s0 h0 λi a s hi hj=>by
  rw[Br] at hj⊢;exact st i a s hi hj
 rw[Br] at j1;rw[e1];exact k s' j1
theorem zW{α:Type}{f:Dt->Option (Option Dt)}{e h:α->Dt}:∀{xs:List α},(∀a∈xs,f (e a)=some (some (h a)))->xG f (xs.map e)=some (xs.map h)
 |[],_=>rfl
 |a::xs,H=>by
  rw[kZ,xG,H a (by simp),kG,zW λb hb=>H b (by simp[hb])]
  rfl
theorem wk{α:Type}{f:Dt->Option (Option Dt)}{e h:α->Dt}{c:α->Bool}:∀{xs:List α},(∀a∈xs,f (e a)=some (if c a=true then some (h a) else none))->xG f (xs.map e)=some ((xs.filter c).map h)
 |[],_=>rfl
 |a::xs,H=>by
  rw[kZ,xG,H a (by simp),kG,wk λb hb=>H b (by simp[hb]),kG,UE]
  cases c a<;>rfl
theorem yX{α β γ:Type}{f:α->Option β}{e:γ->α}{h:γ->β}:∀{xs:List γ},(∀a∈xs,f (e a)=some (h a))->zn f (xs.map e)=some (xs.map h)
 |[],_=>rfl
 |a::xs,H=>by
  rw[kZ,zn,H a (by simp),kG,yX λb hb=>H b (by simp[hb])]
  rfl
def rF{f:α->Option β}{h:α->β}{xs:List α}(H:∀a∈xs,f a=some (h a)):zn f xs=some (xs.map h):=by
 have:=yX (e:=λa=>a) (xs:=xs) H
 rwa [List.map_id'] at this
theorem Jf{lt:Nat->Nat->Bool}{i:Nat}:∀{l:List Nat},l.Pairwise (λa b=>lt a b=true)->(∀a∈l,lt a i=true\/lt i a=true)->(∀a∈l,∀b∈l,lt i a=true->lt a b=true->lt i b=true)->(jx lt i l).Pairwise λa b=>lt a b=true
 |[],_,_,_=>QK _ _
 |j::r,pw,tot,tr=>by
  obtain⟨p1,p2⟩:=uK.mp pw;unfold jx
  by_cases c:lt j i=true
  ·rw[θ c];refine uK.mpr ⟨λb hb=>?_,Jf p2 (λa ha=>tot a (by simp[ha])) λa ha b hb=>tr a (by simp[ha]) b (by simp[hb])⟩
   rcases kT.mp ((WV lt i r).mem_iff.mp hb) with e|e
   ·rw[e];exact c
   ·exact p1 b e
  ·rw[η c];have cj:=(tot j (by simp)).resolve_left c
   refine uK.mpr ⟨λb hb=>?_,pw⟩;rcases kT.mp hb with e|e
   ·rw[e];exact cj
   ·exact tr j (by simp) b hb cj (p1 b e)
theorem VA{lt:Nat->Nat->Bool}:∀{l:List Nat},l.Nodup->(∀a∈l,∀b∈l,a≠b->lt a b=true\/lt b a=true)->(∀a∈l,∀b∈l,∀c∈l,lt a b=true->lt b c=true->lt a c=true)->(xq lt l).Pairwise λa b=>lt a b=true
 |[],_,_,_=>.nil
 |i::r,nd,tot,tr=>by
  obtain⟨n1,n2⟩:=uU.mp nd;have m:∀a,a∈xq lt r->a∈r:=λa h=>(Ys lt r).mem_iff.mp h;unfold xq;refine Jf (VA n2 (λa ha b hb=>tot a (by simp[ha]) b (by simp[hb])) λa ha b hb c hc=>tr a (by simp[ha]) b (by simp[hb]) c (by simp[hc])) (λa ha=>tot a (by simp[m a ha]) i (by simp) λz=>n1 (z▸m a ha)) λa ha b hb=>tr i (by simp) a (by simp[m a ha]) b (by simp[m b hb])
theorem VV{lt:Nat->Nat->Bool}:∀{l:List Nat},l.Pairwise (λa b=>lt a b=true/\lt b a=false)->vO lt l=true
 |[],_=>rfl
 |i::r,pw=>by
  obtain⟨p1,p2⟩:=uK.mp pw;unfold vO;rw[VV p2,AZ,uS];intro j hj;obtain⟨h1,h2⟩:=p1 j hj;rw[h1,h2];rfl
theorem ZL{e:α->Dt}{lt:α->α->Bool}{lt':Nat->Nat->Bool}{xs:List α}(d0:α)(el:∀i j,i<xs.length->j<xs.length->lt' i j=lt (xs.getD i d0) (xs.getD j d0))(nd:xs.Nodup)(tot:∀a∈xs,∀b∈xs,a≠b->lt a b=true\/lt b a=true)(tr:∀a∈xs,∀b∈xs,∀c∈xs,lt a b=true->lt b c=true->lt a c=true)(irr:∀a∈xs,lt a a=false):
  ∃ys:List α,ys.Perm xs/\ys.Pairwise (λa b=>lt a b=true)/\nA (xs.map e).length (xs.map e) lt'=some (ys.map e):=by
 have gm:∀i,i∈kN xs.length->i<xs.length:=λi h=>kn.mp h;have gd:∀i,i<xs.length->xs.getD i d0∈xs:=λi h=>by rw[kE,kC h];exact pi h
 have gi:∀i j,i<xs.length->j<xs.length->xs.getD i d0=xs.getD j d0->i=j:=λi j hi hj z=>by
  rw[kE,kE,kC hi,kC hj] at z;have z:xs[i]=xs[j]:=z;rcases gu i j with l|l|l
  ·exact absurd z (pI.mp nd i j hi hj l)
  ·exact l
  ·exact absurd z.symm (pI.mp nd j i hj hi l)
 have pw:=VA (lt:=lt') (l:=kN xs.length) Fe (λa ha b hb ab=>by
   rw[el a b (gm a ha) (gm b hb),el b a (gm b hb) (gm a ha)];exact tot _ (gd a (gm a ha)) _ (gd b (gm b hb)) λz=>ab (gi a b (gm a ha) (gm b hb) z)) λa ha b hb c hc=>by
  rw[el a b (gm a ha) (gm b hb),el b c (gm b hb) (gm c hc),el a c (gm a ha) (gm c hc)];exact tr _ (gd a (gm a ha)) _ (gd b (gm b hb)) _ (gd c (gm c hc))
 have pm:=Ys lt' (kN xs.length);have ml:∀i,i∈xq lt' (kN xs.length)->i<xs.length:=λi h=>gm i (pm.mem_iff.mp h);refine⟨(xq lt' (kN xs.length)).map λi=>xs.getD i d0,?_,?_,?_⟩
 ·refine(pm.map _).trans ?_;have:(kN xs.length).map (λi=>xs.getD i d0)=xs:=by
   refine QU λi=>?_;rw[kY]
   by_cases c:i<xs.length
   ·rw[uA c,kC c];show some (xs.getD i d0)=_;rw[kE,kC c];rfl
   ·rw[pR (by rw[pM];lia),pR (by lia)];rfl
  rw[this]
 ·rw[List.pairwise_map];exact Aa (λ{a b} ha hb z=>by rw[<-el a b (ml a ha) (ml b hb)];exact z) pw
 ·unfold nA;rw[kJ,θ]
  ·refine υ some ?_;rw[uE];refine QS λi hi=>?_;have:=ml i hi;show(xs.map e).getD i .none=e (xs.getD i d0);rw[kE,kE,kY,kC this];rfl
  ·refine VV (Aa (λ{a b} ha hb z=>⟨z,?_⟩) pw);have la:=ml a ha;have lb:=ml b hb
   cases q:lt' b a with
   |false=>rfl
   |true=>
    rw[el a b la lb] at z;rw[el b a lb la] at q;have:=tr _ (gd a la) _ (gd b lb) _ (gd a la) z q;rw[irr _ (gd a la)] at this
    cases this
noncomputable def kQ(r:Q3):KT:=[.inl r.x,.inl r.y,.inl r.w]
def qz{p q:Q3}(h:kQ p=kQ q):p=q:=by
 obtain⟨x,y,w⟩:=p;obtain⟨x',y',w'⟩:=q;unfold kQ at h
 cases h;rfl
def wY(p:Q3):xQ (eQ p)=some (kQ p):=rfl
def wP{qs:List Q3}{p:Q3}:kQ p∈qs.map kQ↔p∈qs:=⟨λh=>let⟨q,hq,e⟩:=ki.mp h;qz e▸hq,λh=>ki.mpr ⟨p,h,rfl⟩⟩
def VK(qs:List Q3)(p:Q3):yR (qs.map kQ) (kQ p)=decide (p∈qs):=by
 unfold yR;exact ω.mpr wP
theorem jl{κ α β:Type}[DecidableEq κ]{k:β->κ}{f:β->α}(inj:∀a b,k a=k b->a=b):∀{qs:List β}{p:β},p∈qs->cq (qs.map k) (qs.map f) (k p)=some (f p)
 |[],_,h=>by cases h
 |q::qs,p,h=>by
  rw[kZ,kZ,cq]
  by_cases e:k q=k p
  ·rw[θ e,inj _ _ e]
  ·rw[η e];rcases kT.mp h with z|z
   ·exact absurd (by rw[z]) e
   ·exact jl inj z
def jr{f:Q3->Dt}{qs:List Q3}{p:Q3}(h:p∈qs):yy (.dT (qs.map kQ) (qs.map f)) (eQ p)=some (f p):=by
 show(xQ (eQ p)).bind _=_
 rw[wY];exact jl (λ_ _=>qz) h
def qB(ds:List Dt)(qs:List Q3)(p:Q3):yf (.dT (qs.map kQ) ds) (eQ p)=some (decide (p∈qs)):=by
 simp only[yf,wY,kG,VK]
noncomputable def eK(g:Int)(p:Q3):Dt:=.tuple [.int (aQ g p).1,.int (aQ g p).2]
structure Ow(ps qs:List Q3):Prop where
 nd:qs.Nodup
 mem:∀p,p∈qs↔p∈ps
 len:qs.length<=ps.length
def mV(n:Nat)(ps:List Q3):Prop:=∀p∈ps,PQ n p
theorem Kc(ps:List Q3)(hp:∀p∈ps,0<p.w):0<iJ (ps.map Q3.w) 1/\(∀p∈ps,p.w<=iJ (ps.map Q3.w) 1)/\((∃p∈ps,iJ (ps.map Q3.w) 1=p.w)\/iJ (ps.map Q3.w) 1=1):=by
 cases ps with
 |nil=>exact⟨(by decide),λp h=>(by cases h),.inr rfl⟩
 |cons p ps=>
  obtain⟨h1,h2,h3⟩:=Y6 (ps.map Q3.w) p.w;have e:iJ ((p::ps).map Q3.w) 1=(ps.map Q3.w).foldl max p.w:=rfl;rw[e];have:=hp p (by simp)
  refine⟨by lia,λq hq=>?_,.inl ?_⟩
  ·rcases kT.mp hq with rfl|hq
   ·exact h1
   ·exact h2 _ (ki.mpr ⟨q,hq,rfl⟩)
  ·rcases h3 with h3|h3
   ·exact⟨p,by simp,h3⟩
   ·obtain⟨q,hq,e⟩:=ki.mp h3;exact⟨q,by simp[hq],e.symm⟩
def Kd{f:Q3->Dt}{qs:List Q3}{p:Q3}(h:p∉qs)(l:qs.length<ψ):xi (.dT (qs.map kQ) (qs.map f)) (eQ p) (f p)=some (.dT ((qs++[p]).map kQ) ((qs++[p]).map f)):=by
 have n:kQ p∉qs.map kQ:=λz=>h (wP.mp z);simp only[xi,wY,kG];rw[θ (by rw[kJ];exact l)]
 unfold pK pV;rw[η n,η n,pD,pD];rfl
theorem W4{n:Nat}(hn:n<=8999){ps:List Q3}(hp:mV n ps)(hl:ps.length<=8000000):Gv (vW [.list (ps.map eQ)]) λd=>∃(g:Int)(qs:List Q3),d=.dT (qs.map kQ) (qs.map (eK g))/\0<g/\(∀p∈ps,p.w<=g)/\Ow ps qs:=by
 obtain⟨g0,gm,gi⟩:=Kc ps λp h=>(hp p h).pos;generalize eg:iJ (ps.map Q3.w) 1=g at*;have gb:g.natAbs<2^9000:=by
  rcases gi with⟨p,h,e⟩|e
  ·rw[e];exact zA (hp p h).lw (by lia)
  ·rw[e];exact Nat.one_lt_two_pow (by decide)
 have gg:(g*g).natAbs<2^18000:=zF gb gb;have m1:=zC gb gb;have im:zn yN (ps.map λp=>Dt.int p.w)=some (ps.map Q3.w):=yX λp _=>rfl;unfold vW;simp! [nh,ao,aD];rw[zW (e:=eQ) (h:=λp=>Dt.int p.w) λp _=>by simp! [xa]]
 simp! [im,yN,eg,m1,aB];rw[uL];refine xz (σ:=List Q3) (λqs=>[.fz (.list (ps.map eQ)),.fz (.int g),.fz (.int (g*g)),.ow false 1 (.dT (qs.map kQ) (qs.map (eK g))),.un]) (λi qs=>Ow (ps.take i) qs) [] rfl ⟨.nil,λp=>(by simp),pL _⟩ (λi p qs hi O=>?_) λqs O=>?_
 ·have hq:=hp p (kg hi);have fK:=(kH.mp hi).1;have lq:qs.length<=8000000:=uR O.len (by rw[uC];lia)
  have mm:∀q,q∈ps.take (i+1)↔q∈qs\/q=p:=λq=>by rw[pP,hi,pC,O.mem];simp
  by_cases c:p∈qs
  ·refine⟨qs,?_,O.nd,λq=>by rw[mm];exact⟨.inl,λz=>z.elim id λz=>z▸c⟩,uR O.len (by rw[uC,uC];lia)⟩
   simp! [ic,iI,qB,ζ c]
  ·have p1:=zC (m:=9000) (zA hq.lx (by lia)) gg
   have p2:=zC (m:=9000) (zA hq.ly (by lia)) gg
   have wn:p.w≠0:=hq.ne;have d1:∀z:Int,zE (.int z) (.int p.w)=some (.int (z/p.w)):=λz=>by
    rw[u4 ⟨wn,zA hq.lw (by lia)⟩,Ud _ (kM hq.pos)]
   have pt:=Kd (f:=eK g) c (xd lq);refine⟨qs++[p],?_,?_,λq=>by rw[mm,pC,pE],?_⟩
   ·simp! [ic,iI,qB,ι c,fU,Mr,xm,xy,xa,p1,p2,d1];rw[show(Dt.tuple [.int (p.x*(g*g)/p.w),.int (p.y*(g*g)/p.w)])=eK g p from rfl,pt];rfl
   ·exact QE.mpr ⟨O.nd,QK _ _,λa ha b hb e=>c (by rw[pE.mp hb] at e;exact e▸ha)⟩
   ·rw[kb,uh,uC];have:=O.len;rw[uC] at this;lia
 ·rw[uc] at O;simp! [];exact⟨_,rfl,g,qs,rfl,g0,gm,O⟩
end Nu
end
section
variable{n:Nat}{a b:Q3}
namespace Nu
theorem YN{g:Int}(ha:PQ n a)(hb:PQ n b)(ga:a.w<=g)(gb:b.w<=g):fD (aQ g a) (aQ g b)=bq a b:=by
 have e:fD (aQ g a) (aQ g b)=lt2 (aQ g a) (aQ g b):=by
  unfold fD lt2 lexB
  by_cases h:(aQ g a).1=(aQ g b).1
  ·grind
  ·grind
 rw[e]
 cases c:bq a b with
 |true=>exact tZ ha.pos hb.pos ga gb c
 |false=>exact Wx ha hb ga gb c
def Ke{g:Int}(ha:PQ n a)(hb:PQ n b)(ga:a.w<=g)(gb:b.w<=g)(h:aQ g a=aQ g b):a=b:=by
 have e1:=YN ha hb ga gb;have e2:=YN hb ha gb ga;have z:∀k,fD k k=false:=λk=>by unfold fD;rw[θ rfl,θ rfl]
 rw[h,z] at e1 e2;exact xh ha hb e1.symm e2.symm
theorem xr(ha:PQ n a)(hb:PQ n b)(ne:a≠b):bq a b=true\/bq b a=true:=by
 cases h1:bq a b with
 |true=>exact .inl rfl
 |false=>cases h2:bq b a with
  |true=>exact .inr rfl
  |false=>exact absurd (xh ha hb h1 h2) ne
def Up(os:List Q3):Prop:=os.Pairwise λa b=>bq a b=true
def VE(hn:n<=8999){ps:List Q3}(hp:mV n ps)(hl:ps.length<=8000000)(hb:∀os:List Q3,os.Nodup->(∀p∈os,p∈ps)->os.length<wz):Gv (qe [.list (ps.map eQ)]) λd=>∃os:List Q3,d=.list (os.map eQ)/\Up os/\(∀p,p∈os↔p∈ps)/\os.length<=ps.length:=by
 obtain⟨d,e,g,qs,rfl,g0,gm,O⟩:=W4 hn hp hl;have hq:∀q∈qs,PQ n q/\q.w<=g:=λq h=>⟨hp q ((O.mem q).mp h),gm q ((O.mem q).mp h)⟩;have lk:yD [.dT (qs.map kQ) (qs.map (eK g))]=some (.list (qs.map eQ)):=by
  show(if _ then _ else _)=_
  rw[θ,uE]
  ·rfl
  ·rw[uS];intro k hk;obtain⟨q,_,rfl⟩:=ki.mp hk;exact ζ (xj (by decide:3<=8000000))
 obtain⟨ys,pm,pw,es⟩:=ZL (e:=eQ) (lt:=bq) (lt':=λi j=>fD ((qs.map (aQ g)).getD i (0,0)) ((qs.map (aQ g)).getD j (0,0))) (xs:=qs) ⟨0,0,1⟩ (λi j hi hj=>by
   rw[kE,kE,kE,kE,kY,kY,kC hi,kC hj];have h1:=hq _ (pi hi);have h2:=hq _ (pi hj);exact YN h1.1 h2.1 h1.2 h2.2) O.nd (λa ha b hb ne=>xr (hq a ha).1 (hq b hb).1 ne) (λa ha b hb c hc=>yt (hq a ha).1 (hq b hb).1 (hq c hc).1) λa _=>zq a
 have m1:zn (λd=>bN (dV 1) (dV 0) [.fz d,.fz (.dT (qs.map kQ) (qs.map (eK g)))]) (qs.map eQ)=some (qs.map (eK g)):=yX λq h=>by simp! [bN,jr h]
 have m2:zn iy (qs.map (eK g))=some (qs.map (aQ g)):=yX λq h=>rfl;refine⟨.list (ys.map eQ),?_,ys,rfl,pw,λp=>(pm.mem_iff).trans (O.mem p),by rw[pm.length_eq];exact O.len⟩
 have lq:(qs.map eQ).length<wz:=by rw[kJ];exact hb qs O.nd λp h=>(O.mem p).mp h
 unfold qe;simp only[jC,bg,ag,ak,aC,aj,aa,ae,dV,sF,sR,cC,fQ,fJ,cD,kG,ku,UQ,kZ,UW,Bg,Qk,gO,UM,Qh,Uf,UF,Bc,EY,↓reduceIte,θ lq,e,lk,m2,es];rw[yX (h:=eK g) (e:=eQ) λq h=>by simp! [bN,jr h]]
 simp only[kG,m2,es,cD]
noncomputable def dg:List Q3->List Q3->Bool
 |[],ys=>decide (0<ys.length)
 |_::_,[]=>false
 |x::xs,y::ys=>if x=y then dg xs ys else bq x y
theorem ZA{n:Nat}{g:Int}:∀{xs ys:List Q3},(∀p∈xs,PQ n p/\p.w<=g)->(∀p∈ys,PQ n p/\p.w<=g)->cu (xs.map (aQ g)) (ys.map (aQ g))=dg xs ys
 |[],ys,_,_=>by rw[UW,cu,dg,kJ]
 |_::_,[],_,_=>rfl
 |x::xs,y::ys,hx,hy=>by
  have h1:=hx x (by simp)
  have h2:=hy y (by simp)
  rw[kZ,kZ,jX,dg]
  by_cases e:x=y
  ·rw[θ (by rw[e]),θ e]
   exact ZA (λp h=>hx p (by simp[h])) λp h=>hy p (by simp[h])
  ·rw[η (λz=>e (Ke h1.1 h2.1 h1.2 h2.2 z)),η e,<-YN h1.1 h2.1 h1.2 h2.2];unfold fD lt2 lexB
   by_cases h:(aQ g x).1=(aQ g y).1
   ·grind
   ·grind
theorem XX:∀a:List Q3,dg a a=false
 |[]=>rfl
 |x::xs=>by rw[dg,θ rfl];exact XX xs
theorem Jh{n:Nat}:∀{a b:List Q3},mV n a->mV n b->a≠b->dg a b=true\/dg b a=true
 |[],[],_,_,h=>absurd rfl h
 |[],_::_,_,_,_=>.inl (by rw[dg];exact ζ (BI _))
 |_::_,[],_,_,_=>.inr (by rw[dg];exact ζ (BI _))
 |x::xs,y::ys,hx,hy,ne=>by
  rw[dg,dg]
  by_cases e:x=y
  ·rw[θ e,θ e.symm];exact Jh (λp h=>hx p (by simp[h])) (λp h=>hy p (by simp[h])) λz=>ne (by rw[e,z])
  ·rw[η e,η (UR e)];exact xr (hx x (by simp)) (hy y (by simp)) e
theorem Jy{n:Nat}:∀{a b c:List Q3},mV n a->mV n b->mV n c->dg a b=true->dg b c=true->dg a c=true
 |[],[],_,_,_,_,h1,_=>by cases h1
 |[],_::_,[],_,_,_,_,h2=>by cases h2
 |[],_::_,_::_,_,_,_,_,_=>by rw[dg];exact ζ (BI _)
 |_::_,[],_,_,_,_,h1,_=>by cases h1
 |_::_,_::_,[],_,_,_,_,h2=>by cases h2
 |x::xs,y::ys,z::zs,hx,hy,hz,h1,h2=>by
  rw[dg] at h1 h2⊢
  by_cases e1:x=y
  ·rw[θ e1] at h1
   by_cases e2:y=z
   ·rw[θ e2] at h2;rw[θ (e1.trans e2)];exact Jy (λp h=>hx p (by simp[h])) (λp h=>hy p (by simp[h])) (λp h=>hz p (by simp[h])) h1 h2
   ·grind
  ·rw[η e1] at h1
   by_cases e2:y=z
   ·grind
   ·rw[η e2] at h2;have:=yt (hx x (by simp)) (hy y (by simp)) (hz z (by simp)) h1 h2
    rw[η (λw=>by rw[w,zq] at this;cases this)]
    exact this
theorem Yz{α:Type}{f:α->List Q3}{m:Nat}:∀(xs:List α),(∀a∈xs,(f a).length<=m)->(xs.flatMap f).length<=m*xs.length
 |[],_=>by simp
 |x::xs,h=>by
  rw[Cc,kb,ku,HB];have:=h x (by simp)
  have:=Yz (f:=f) xs λa ha=>h a (by simp[ha])
  lia
theorem Kf{α:Type}[DecidableEq α](hn:n<=8999){e:α->Dt}{pts:α->List Q3}(d0:α)(he:∀a,e a=.tuple ((pts a).map eQ))(inj:∀a b,pts a=pts b->a=b){xs:List α}(hp:∀a∈xs,mV n (pts a)){m:Nat}(hm:∀a∈xs,(pts a).length<=m)(hl:m*xs.length<=8000000)(nd:xs.Nodup)(hb:xs.length<wz):
  Gv (Yr [.list (xs.map e)]) λd=>∃ys:List α,d=.list (ys.map e)/\ys.Perm xs/\ys.Pairwise λa b=>dg (pts a) (pts b)=true:=by
 unfold Yr;simp! [aB];rw[uL];refine xz (σ:=List Q3×Sl) (λs=>[.fz (.list (xs.map e)),.ow false 1 (.list (s.1.map eQ)),s.2,.un]) (λi s=>s.1=(xs.take i).flatMap pts) ([],.un) rfl (by simp) (λi a s hi hs=>?_) λs hs=>?_
 ·have ha:=kg hi;have fK:=(kH.mp hi).1;have l0:s.1.length+(pts a).length<=ψ:=by
   rw[hs];have h1:=Yz (f:=pts) (m:=m) (xs.take (i+1)) λb hb=>hm b (UK hb);have:(xs.take (i+1)).flatMap pts=(xs.take i).flatMap pts++pts a:=by rw[pP,hi,Bo];simp
   rw[this,kb,uC] at h1;refine xj (uR h1 (uR (Nat.mul_le_mul_left m (Nat.min_le_right _ _)) hl))
  refine⟨(s.1++pts a,.fz (e a)),?_,?_⟩
  ·simp! [ic,iX,iq,he,kJ,θ l0,pD]
  ·show s.1++pts a=_
   rw[hs,pP,hi,Bo]
   simp
 ·rw[uc] at hs;obtain⟨s1,s2⟩:=s;have hs:s1=xs.flatMap pts:=hs;have hP:mV n s1:=λp h=>by
   rw[hs] at h;obtain⟨a,ha,h⟩:=QC.mp h;exact hp a ha p h
  have hL:s1.length<=8000000:=by rw[hs];exact uR (Yz xs hm) hl
  obtain⟨d,ek,g,qs,rfl,g0,gm,O⟩:=W4 hn hP hL;have hq:∀a∈xs,∀p∈pts a,p∈qs/\PQ n p/\p.w<=g:=λa ha p h=>by
   have:p∈s1:=by grind
   exact⟨(O.mem p).mpr this,hP p this,gm p this⟩
  obtain⟨ys,pm,pw,es⟩:=ZL (e:=e) (lt:=λa b=>dg (pts a) (pts b)) (lt':=λi j=>cu ((xs.map λa=>(pts a).map (aQ g)).getD i []) ((xs.map λa=>(pts a).map (aQ g)).getD j [])) (xs:=xs) d0 (λi j hi hj=>by
    rw[kE,kE,kE,kE,kY,kY,kC hi,kC hj];exact ZA (λp h=>(hq _ (pi hi) p h).2) λp h=>(hq _ (pi hj) p h).2) nd (λa ha b hb ne=>Jh (hp a ha) (hp b hb) λz=>ne (inj _ _ z)) (λa ha b hb c hc=>Jy (hp a ha) (hp b hb) (hp c hc)) λa _=>XX _
  have m2:zn Ms (xs.map λa=>Dt.list ((pts a).map (eK g)))=some (xs.map λa=>(pts a).map (aQ g)):=yX λa _=>by
   show zn iy ((pts a).map (eK g))=_
   exact yX λq h=>rfl
  have lq:(xs.map e).length<wz:=by rw[kJ];exact hb
  simp! [jC,ek,θ lq];rw[yX (h:=λa=>Dt.list ((pts a).map (eK g))) (e:=e) λa h=>by
   simp! [ao,aD,he];rw[zW (e:=eQ) (h:=eK g) λp eh=>by simp! [bN,jr (hq a h p eh).1]]
   simp only[kG]]
  simp only[kG,m2,es,cD];exact⟨_,rfl,ys,rfl,pm,pw⟩
noncomputable def ye(ss:List (Q3×Q3)):List Q3:=ss.flatMap λs=>[s.1,s.2]
theorem ZT{ss:List (Q3×Q3)}(hl:ss.length<=2000000):jm [.list (ss.map eS)]=some (.list ((ye ss).map eQ)):=by
 suffices Gv (jm [.list (ss.map eS)]) λd=>d=.list ((ye ss).map eQ) by obtain⟨d,e,rfl⟩:=this;exact e
 unfold jm;simp! [aB];rw[uL];refine xz (σ:=List Q3) (λs=>[.fz (.list (ss.map eS)),.ow false 1 (.list (s.map eQ)),.un]) (λi s=>s=ye (ss.take i)) [] rfl rfl (λi a s hi hs=>?_) λs hs=>?_
 ·have fK:=(kH.mp hi).1;have l0:s.length+2<=ψ:=by
   rw[hs];have h1:=Yz (f:=λs:Q3×Q3=>[s.1,s.2]) (m:=2) (ss.take i) λb _=>pL _;rw[uC] at h1;refine xj ?_;show(ye (ss.take i)).length+2<=_;unfold ye;lia
  refine⟨s++[a.1,a.2],?_,?_⟩
  ·simp! [ic,iX,iq,eS,kJ,θ l0,pD]
  ·rw[hs,pP,hi];unfold ye;rw[Bo];rfl
 ·rw[uc] at hs;subst hs;simp! [];exact⟨_,rfl,rfl⟩
noncomputable def zd(f:Q3×Q3):Q3×Q3:=if bq f.1 f.2=true then f else(f.2,f.1)
def rG{fs:List (Q3×Q3)}(h:∀f∈fs,SQ f.1/\SQ f.2/\f.1≠f.2):YT [.list (fs.map eS)]=some (.list ((fs.map zd).map eS)):=by
 unfold YT;simp! [ao,aD];rw[zW (e:=eS) (h:=λf=>eS (zd f)) λf hf=>by
  obtain⟨h1,h2,h3⟩:=h f hf;simp! [eS,Z3 h1 h2 h3];rfl]
 simp! [uE];rfl
end Nu
end
section
variable{i a b x:Int}{c d p:Q3}
namespace Nu
def Ox{j:Int}(h:j≠0):zG (.int i) (.int j)=some (.int (i.fmod j)):=by simp only[zG,kI,θ h]
def u5(i:Int):vA [.int i]=some (.int (if i<0 then-i else i)):=rfl
noncomputable def Kg:En->Option Bool:=dB (d2 yb (dV 3) (dC (.int 0)))
noncomputable def L0:En->Option Ou:=ag (ak 4 (d2 zG (dV 2) (dV 3))) (ag (ak 2 (dV 3)) (ak 3 (dV 4)))
noncomputable def rH(a b x y:Int):En:=[.fz (.int a),.fz (.int b),.fz (.int x),.fz (.int y),.un]
def Vl(n:Nat):cJ [4] Kg L0 (n+1) (rH a b x 0)=some (.nx (rH a b x 0)):=by
 rw[cJ];simp! [Kg,rH,yG,decide_true]
def VJ{y:Int}(n:Nat)(h:y≠0):cJ [4] Kg L0 (n+1) (rH a b x y)=cJ [4] Kg L0 n (rH a b y (x.fmod y)):=by
 rw[cJ];simp! [Kg,L0,rH,yG,ι h,Ox h]
theorem ZB{a b:Int}:∀(m:Nat)(x y:Int),0<=x->0<=y->y.natAbs<2^m->cJ [4] Kg L0 (2*m+1) (rH a b x y)=some (.nx (rH a b (G x y) 0))
 |0,x,y,hx,hy,h=>by
  have e:y=0:=by lia
  subst e;rw[<-WL hx rfl];exact Vl 0
 |m+1,x,y,hx,hy,h=>by
  by_cases c:y=0
  ·subst c;rw[<-WL hx rfl];exact Vl _
  ·rw[show 2*(m+1)+1=(2*m+2)+1 by lia,VJ _ c,<-J7]
   have r0:0<=x.fmod y:=BK x (by lia)
   have r1:x.fmod y<y:=CN x (by lia)
   generalize x.fmod y=r at*
   by_cases c2:r=0
   ·subst c2;rw[<-WL hy rfl];exact Vl _
   ·rw[show 2*m+2=(2*m+1)+1 by lia,VJ _ c2,<-J7]
    have s0:0<=y.fmod r:=BK y (by lia)
    have s1:y.fmod r<r:=CN y (by lia)
    have e:=BQ y r;refine ZB m r (y.fmod r) r0 s0 ?_;have q1:1<=y.fdiv r:=by
     rw[Ud _ (by lia)]
     exact BR (by lia) (by lia)
    have:r<=r*y.fdiv r:=by
     have:=hZ q1 (show 0<=r by lia)
     lia
    rw[DY] at h;lia
theorem V2{m:Nat}(h:b.natAbs<2^m)(hm:m<=19000):qP [.int a,.int b]=some (.int (G a b)):=by
 have e0:∀z:Int,(if z<0 then-z else z)=(z.natAbs:Int):=λz=>by split<;>lia
 have l:=ZB (a:=a) (b:=b) m (a.natAbs:Int) (b.natAbs:Int) (by lia) (by lia) (by lia)
 have eg:G (a.natAbs:Int) (b.natAbs:Int)=G a b:=by unfold G;simp only[Int.gcd,Eg]
 have l2:=WP l (40000-(2*m+1));rw[show 2*m+1+(40000-(2*m+1))=40000 by lia,eg] at l2
 unfold rH Kg L0 at l2;unfold qP;simp only[bg,ku,UQ,Bc,↓reduceIte,kZ,UW,Qk,gO,Bg,EY];rw[ag];simp only[ak,aj,aa,ae,dV,sF,UM,Qh,kG,u5,e0,Uf,UF];rw[cC,ag];simp only[ak,aj,aa,ae,dV,sF,UM,Qh,kG,u5,e0,Uf,UF];rw[cC,ag,wm,l2];rfl
def V8(i:Int):j9 [.int i]=some (.bool true):=rfl
theorem zc5{y w:Int}{m:Nat}(hx:x.natAbs<2^m)(hy:y.natAbs<2^m)(hw:w.natAbs<2^m)(hm:m<=8999)(nz:w≠0):Yt [.int x,.int y,.int w]=some (eQ ⟨IX x y w,IY x y w,IZ x y w⟩):=by
 have h1:=V2 (a:=w) (b:=x) hx (by lia)
 have h2:=V2 (a:=G w x) (b:=y) hy (by lia)
 have fl:=rq (x:=x) (y:=y) nz;have dv:∀z,zE (.int z) (.int (bH x y w))=some (.int (z.fdiv (bH x y w))):=λz=>u4 ⟨Xc nz,um fl (zA hw hm)⟩;unfold bH at dv;unfold Yt
 by_cases c:w<0
 ·rw[θ c] at dv;simp! [V8,yh,ι nz,h1,h2,yP,ζ c,wV,dv];unfold eQ IX IY IZ bH;rw[θ c]
 ·rw[η c] at dv;simp! [V8,yh,ι nz,h1,h2,yP,ι c,wV,dv];unfold eQ IX IY IZ bH;rw[η c]
variable{a b:Q3}
theorem Kh{n:Nat}(hn:4*n+3<=8999)(ha:PQ n a)(hb:PQ n b)(hc:PQ n c)(hd:PQ n d)(nz:bB a b c d≠0):Yp [eL a b,eL c d]=some (eQ (crP a b c d)):=by
 obtain⟨b1,b2,b3⟩:=jd ha hb hc hd;have l:∀{p q:Q3},PQ n p->PQ n q->(br p.x p.y p.w q.x q.y q.w).natAbs<2^9000/\(bu p.x p.y p.w q.x q.y q.w).natAbs<2^9000/\(bx p.x p.y p.w q.x q.y q.w).natAbs<2^9000:=λhp hq=>
  ⟨zA (yT (zF hp.ly hq.lw) (zF hp.lw hq.ly)) (by lia),zA (yT (zF hp.lw hq.lx) (zF hp.lx hq.lw)) (by lia),zA (yT (zF hp.lx hq.ly) (zF hp.ly hq.lx)) (by lia)⟩
 obtain⟨p1,p2,p3⟩:=l ha hb;obtain⟨q1,q2,q3⟩:=l hc hd;have m1:=zC p1 q2;have m2:=zC p2 q1;have m3:=zC p2 q3;have m4:=zC p3 q2;have m5:=zC p3 q1;have m6:=zC p1 q3;have ep:=zc5 b1 b2 b3 (by lia) nz
 unfold bB at nz;unfold dL dM bB at ep;unfold Yp eL;simp! [Om,On,Oo,m1,m2,m3,m4,m5,m6,xb,yh,ι nz,ep];rfl
noncomputable def eM:MR->Dt
 |.none=>.none
 |.spot p=>.tuple [.str "spot",eQ p]
 |.part p q=>.tuple [.str "part",eS (p,q)]
def Oy(a b c d:Int):cI (.tuple [.int a,.int b]) (.tuple [.int c,.int d])=some (.bool (decide (a=c/\b=d))):=by
 have t:∀a b:Int,cB (.tuple [.int a,.int b])=some (.tuple [.int a,.int b]):=λ_ _=>rfl;have s:∀a b:Int,uq (.tuple [.int a,.int b])=true:=λa b=>by simp[uq,uu,uH,QJ,ud]
 unfold cI;simp only[t,kG,s,and_self,if_true,UA,UG,AZ]
 by_cases h1:a=c<;>by_cases h2:b=d<;>simp[h1,h2]
theorem Ki(ha:SQ a)(hb:SQ b)(hc:SQ c)(hd:SQ d):YV [eS (a,b),eS (c,d)]=some (eM (LZ a b c d)):=by
 have e1:(if bq a c=true then some (eQ c) else some (eQ a))=some (eQ (aH a c)):=by unfold aH;split<;>rfl
 have e2:(if bq b d=true then some (eQ b) else some (eQ d))=some (eQ (aL b d)):=by unfold aL;split<;>rfl
 have f1:SQ (aH a c):=by unfold aH;split<;>assumption
 have f2:SQ (aL b d):=by unfold aL;split<;>assumption
 unfold YV LZ;simp! [zJ,zU,qI ha hc,qI hb hd,e1,e2,qI f2 f1,yA]
 by_cases c1:bq (aL b d) (aH a c)=true
 ·simp! [c1];rfl
 ·by_cases c2:aH a c=aL b d
  ·have Tg:(aH a c).x=(aL b d).x/\(aH a c).y=(aL b d).y/\(aH a c).w=(aL b d).w:=by rw[c2];exact⟨rfl,rfl,rfl⟩
   simp! [c1,yA,ζ c2,θ Tg];rfl
  ·have Tg:¬((aH a c).x=(aL b d).x/\(aH a c).y=(aL b d).y/\(aH a c).w=(aL b d).w):=λz=>c2 (Q3.ext' z);simp! [c1,yA,ι c2,η Tg];rfl
def Th(s t:Q3×Q3):yV (eS s) (eS t)=some (.tuple [eQ s.1,eQ s.2,eQ t.1,eQ t.2]):=by
 simp only[eS,yV,ku,UQ,Bc,eE,if_true,Qk,gO]
def Ti(a b c d:Int):yV (.tuple [.int a,.int b]) (.tuple [.int c,.int d])=some (.tuple [.int a,.int b,.int c,.int d]):=by
 simp only[yV,ku,UQ,Bc,eE,if_true,Qk,gO]
def Tj(a b c d a' b' c' d':Dt):fj [.tuple [a,b,c,d],.tuple [a',b',c',d']]=some [.tuple [a,a'],.tuple [b,b'],.tuple [c,c'],.tuple [d,d']]:=rfl
noncomputable def L6:En->Option Ou:=au (dB (d2 zB (dV 7) (dC (.int 0)))) (aC (ax (aa (dC (.str "spot")) (aa (dV 6) ae)))) aO
def Yi{x0 x1 x2 x3 x4 x5:Sl}{r:List Dt}(h:i=0):zw (gT 2 (aG (gN 6) (aG (gN 7) bJ))) L6 [6,7] (.tuple [eQ p,.int i]::r) [x0,x1,x2,x3,x4,x5,.un,.un]=some (.rt (.tuple [.str "spot",eQ p]) [x0,x1,x2,x3,x4,x5,.fz (eQ p),.fz (.int i)]):=by
 rw[zw];simp! [L6,yh,ζ h]
def Yb{x0 x1 x2 x3 x4 x5:Sl}{r:List Dt}(h:¬i=0):zw (gT 2 (aG (gN 6) (aG (gN 7) bJ))) L6 [6,7] (.tuple [eQ p,.int i]::r) [x0,x1,x2,x3,x4,x5,.un,.un]=zw (gT 2 (aG (gN 6) (aG (gN 7) bJ))) L6 [6,7] r [x0,x1,x2,x3,x4,x5,.un,.un]:=by
 rw[zw];simp! [L6,yh,ι h]
theorem rI{n:Nat}(hn:4*n+3<=8999)(ha:PQ n a)(hb:PQ n b)(hc:PQ n c)(hd:PQ n d):Y9 [eS (a,b),eS (c,d)]=some (eM (dD a b c d)):=by
 have sa:=SQ.of ha (by lia)
 have sb:=SQ.of hb (by lia)
 have sc:=SQ.of hc (by lia)
 have sd:=SQ.of hd (by lia)
 unfold Y9 dD;simp! [zJ,zU,Y3 sa sb,vZ sa sb sc,vZ sa sb sd,Oy]
 by_cases c1:aw (dt a b c)=0/\aw (dt a b d)=0
 ·simp! [ζ c1,Ki sa sb sc sd,θ c1]
 ·simp! [ι c1,η c1,qg,qp,yh]
  by_cases c2:aw (dt a b c)=aw (dt a b d)
  ·simp! [ζ c2,θ c2];rfl
  ·simp! [ι c2,η c2,zJ,zU,Y3 sc sd,vZ sc sd sa,vZ sc sd sb,qg,qp,yh]
   by_cases c3:aw (dt c d a)=aw (dt c d b)
   ·simp! [ζ c3,θ c3];rfl
   ·simp! [ι c3,η c3,aB,Th,Ti,Tj];unfold iE;rw[<-L6]
    by_cases z1:aw (dt a b c)=0
    ·rw[Yi z1,θ z1];rfl
    ·rw[Yb z1,η z1]
     by_cases z2:aw (dt a b d)=0
     ·rw[Yi z2,θ z2];rfl
     ·rw[Yb z2,η z2]
      by_cases z3:aw (dt c d a)=0
      ·rw[Yi z3,θ z3];rfl
      ·rw[Yb z3,η z3]
       by_cases z4:aw (dt c d b)=0
       ·rw[Yi z4,θ z4];rfl
       ·rw[Yb z4,η z4,zw];simp! [Kh hn ha hb hc hd (XL hc.pos hd.pos c2)];rfl
noncomputable def u6:MR->List Q3
 |.none=>[]
 |.spot p=>[p]
 |.part p q=>[p,q]
def Vp{r:MR}:p∈u6 r↔mr r p:=by
 cases r<;>simp[u6,mr]
def u7{x y:Str}(hx:uq (.str x)=true)(hy:uq (.str y)=true):cI (.str x) (.str y)=some (.bool (decide (x=y))):=by
 unfold cI;simp only[cB,kG,hx,hy,and_self,if_true,UA]
 congr 2
theorem zaa(r:MR):qu [eM r]=some (.tuple ((u6 r).map eQ)):=by
 cases r with
 |none=>rfl
 |spot p=>
  have s1:uq (.str (uW "spot"))=true:=by decide+kernel
  unfold qu eM;simp! [qg,qp,u7 s1 s1,decide_true,show jD (.tuple [.str "spot",eQ p]) .none=some (.bool false) from rfl];rfl
 |part p q=>
  have s1:uq (.str (uW "spot"))=true:=by decide+kernel
  have s2:uq (.str (uW "part"))=true:=by decide+kernel
  have e:¬(uW "part"=uW "spot"):=by decide
  unfold qu eM;simp! [qg,qp,u7 s2 s1,ι e,show jD (.tuple [.str "part",eS (p,q)]) .none=some (.bool false) from rfl];rfl
end Nu
end
section
variable{n:Nat}{ss:List (Q3×Q3)}
namespace Nu
noncomputable def eN(k:Nat):Dt:=.int (k:Int)
noncomputable def Q2(e:Nat×Nat):Dt:=.tuple [eN e.1,eN e.2]
def dN{α:Type}{f:α->Dt}{xs:List α}{i:Nat}(d0:α)(h:i<xs.length):af (.list (xs.map f)) (eN i)=some (f (xs.getD i d0)):=by
 rw[kE,kC h];exact Op (kC h)
def Kj(g:Int)(p q:Q3):ja (eK g p) (eK g q)=some (.bool (!lt2 (aQ g p) (aQ g q))):=rfl
theorem rJ(a b:Int×Int):fD a b=lt2 a b:=by
 unfold fD lt2 lexB
 by_cases h:a.1=b.1
 ·rw[θ h,θ h]
  by_cases h2:a.2=b.2
  ·rw[θ h2];exact(ι (by lia)).symm
  ·rw[η h2]
 ·rw[η h,η h]
theorem rK{r:Nat->Int×Int}{lt:Nat->Nat->Bool}(hl:∀i j,i<n->j<n->lt i j=lt2 (r i) (r j)):(yJ n λi j=>lt2 (r i) (r j)).Perm (kN n)/\∀a b,a<b->b<n->lt2 (r ((yJ n λi j=>lt2 (r i) (r j)).getD b 0)) (r ((yJ n λi j=>lt2 (r i) (r j)).getD a 0))=false:=by
 unfold yJ
 by_cases c:2<=n
 ·rw[θ c];refine⟨zK.ends (Vo (by lia)),λa b ab hb=>?_⟩
  have:=VU (n:=n) (k7.of dA r) (by lia) a b ab hb
  rw[kE,kE,Qy,Qy,<-UV,<-UV];exact this
 ·rw[η c];exact⟨.refl _,λa b ab hb=>by lia⟩
noncomputable def Tk:En->Option Ou:=ag (ak 8 (bN (dV 1) (d2 af (d2 af (dV 0) (dV 7)) (dC (.int 0)))))
  (ag (ak 9 (d2 af (aA 2) (dV 7)))
  (ag (ak 10 (d2 af (aA 3) (dV 7)))
  (ag (aU 6 (ao 1 [4,8] (iL (aA 6)) (gN 0) (dB (d2 ja (d2 af (aA 1) (dV 0)) (dV 2))) (dV 0)))
  (ag (aU 11 (ao 1 [2,10] (iL (aA 6)) (gN 0) (dB (d2 mJ (d2 af (aA 1) (dV 0)) (dV 2))) (dV 0)))
  (ag (iX 5 (iL (ao 1 [3,7,9] (iL (aA 11)) (gN 0) (dB (d2 Lr (d2 af (aA 1) (dV 0)) (dV 3))) (ax (aa (dV 2) (aa (dV 0) ae))))))
  (iw 6 (dV 7)))))))
noncomputable def Oz(ss:List (Q3×Q3))(kd:Dt)(g:Int)(s:List (Nat×Nat)×List Nat):En:=[.fz (.list (ss.map eS)),.fz kd,.ow false 1 (.list (ss.map λs=>.int (yr g s))),.ow false 1 (.list (ss.map λs=>.int (ym g s))),.ow false 1 (.list (ss.map λs=>eK g s.2)),.ow false 1 (.list (s.1.map Q2)),.ow false 1 (.list (s.2.map eN)),.un,.un,.un,.un,.un]
theorem rM{kd:Dt}{g:Int}{ps:List (Nat×Nat)}{st:List Nat}{m:Nat}(hk:∀s∈ss,yy kd (eQ s.1)=some (eK g s.1))(hm:m<ss.length)(fV:∀k∈st,k<ss.length)(hl:st.length<=100)(hp:ps.length<=100000):
  ((gN 7 (eN m) (Oz ss kd g (ps,st))).bind Tk).bind (ic [7,8,9,10,11])=some (Oz ss kd g (ps++(((st.filter λk=> !lt2 (aQ g (ss.getD k zQ).2) (aQ g (ss.getD m zQ).1)).filter λk=>decide (yr g (ss.getD k zQ)<=ym g (ss.getD m zQ))).filter λk=>decide (yr g (ss.getD m zQ)<=ym g (ss.getD k zQ))).map λk=>(m,k),(st.filter λk=> !lt2 (aQ g (ss.getD k zQ).2) (aQ g (ss.getD m zQ).1))++[m])):=by
 have e1:=dN (f:=eS) zQ hm;have e2:=dN (f:=λs=>Dt.int (yr g s)) zQ hm;have e3:=dN (f:=λs=>Dt.int (ym g s)) zQ hm;have e4:=hk _ (zg hm);have OA:∀k∈(st.filter λk=> !lt2 (aQ g (ss.getD k zQ).2) (aQ g (ss.getD m zQ).1)),k<ss.length:=λk h=>fV k (pG.mp h).1;generalize ef:(st.filter λk=> !lt2 (aQ g (ss.getD k zQ).2) (aQ g (ss.getD m zQ).1))=rN at*;have l2:rN.length<=100:=by rw[<-ef];exact uR (uF _ _) hl
 have Tl:∀k∈rN.filter λk=>decide (yr g (ss.getD k zQ)<=ym g (ss.getD m zQ)),k<ss.length:=λk h=>OA k (pG.mp h).1;generalize ef3:(rN.filter λk=>decide (yr g (ss.getD k zQ)<=ym g (ss.getD m zQ)))=Lz at*;have l3:Lz.length<=100:=by rw[<-ef3];exact uR (uF _ _) l2
 unfold Oz Tk
 dsimp! [e1,e2,e3,zJ,bN,e4,ao]
 rw[wk (e:=eN) (h:=eN) (c:=λk=> !lt2 (aQ g (ss.getD k zQ).2) (aQ g (ss.getD m zQ).1)) λk dH=>by
  dsimp! [dN (f:=λs:Q3×Q3=>eK g s.2) zQ (fV k dH),Kj]
  split<;>rfl]
 rw[ef]
 dsimp! []
 rw[wk (e:=eN) (h:=eN) (c:=λk=>decide (yr g (ss.getD k zQ)<=ym g (ss.getD m zQ))) λk dH=>by
  dsimp! [dN (f:=λs:Q3×Q3=>Dt.int (yr g s)) zQ (OA k dH),Ot]
  split<;>rfl]
 rw[ef3]
 dsimp! [iX]
 rw[wk (e:=eN) (h:=λk=>Q2 (m,k)) (c:=λk=>decide (yr g (ss.getD m zQ)<=ym g (ss.getD k zQ))) λk dH=>by
  dsimp! [dN (f:=λs:Q3×Q3=>Dt.int (ym g s)) zQ (Tl k dH),Te]
  split<;>rfl]
 have l4:(Lz.filter λk=>decide (yr g (ss.getD m zQ)<=ym g (ss.getD k zQ))).length<=100:=uR (uF _ _) l3;have l5:ps.length+(Lz.filter λk=>decide (yr g (ss.getD m zQ)<=ym g (ss.getD k zQ))).length<=ψ:=xj (by lia)
 have l6:rN.length<ψ:=xd (by lia)
 dsimp! [iq,kJ,θ l5,iw,θ l6,ic,pD,uE]
 rfl
def Ss(n:Nat)(ss:List (Q3×Q3)):Prop:=∀s∈ss,PQ n s.1/\PQ n s.2/\bq s.1 s.2=true
def xf{s:Q3×Q3}(h:s∈ss):s.1∈ye ss/\s.2∈ye ss:=⟨QC.mpr ⟨s,h,by simp⟩,QC.mpr ⟨s,h,by simp⟩⟩
def Ss.pts(ok:Ss n ss):mV n (ye ss):=λp h=>by
 obtain⟨s,hs,h⟩:=QC.mp h;simp only[kT,pe,or_false] at h;rcases h with rfl|rfl
 ·exact(ok s hs).1
 ·exact(ok s hs).2.1
theorem JT(ss:List (Q3×Q3)):(ye ss).length=2*ss.length:=by
 unfold ye
 induction ss with
 |nil=>rfl
 |cons s ss ih=>rw[Cc,kb,ih,ku];simp;lia
theorem rO(hn:n<=8999)(ok:Ss n ss)(hl:ss.length<64):Gv (YH [.list (ss.map eS)]) λd=>∃ps g,d=.list (ps.map Q2)/\zr n ss ps g/\ps.length<=4096:=by
 obtain⟨kd0,ek,g,qs,rfl,g0,gm,O⟩:=W4 hn ok.pts (by rw[JT];lia)
 have hk:∀p∈ye ss,yy (.dT (qs.map kQ) (qs.map (eK g))) (eQ p)=some (eK g p):=λp h=>jr ((O.mem p).mpr h);generalize ekd:Dt.dT (qs.map kQ) (qs.map (eK g))=kd at*;have k1:∀s∈ss,yy kd (eQ s.1)=some (eK g s.1):=λs h=>hk _ (xf h).1;have k2:∀s∈ss,yy kd (eQ s.2)=some (eK g s.2):=λs h=>hk _ (xf h).2;have OB:∀p:Q3,af (eK g p) (.int 1)=some (.int (aQ g p).2):=λp=>rfl;obtain⟨pm,up⟩:=rK (n:=ss.length) (r:=λi=>((kN ss.length).map λi=>aQ g (ss.getD i zQ).1).getD i (0,0)) (lt:=λi j=>lt2 (((kN ss.length).map λi=>aQ g (ss.getD i zQ).1).getD i (0,0)) (((kN ss.length).map λi=>aQ g (ss.getD i zQ).1).getD j (0,0))) λ_ _ _ _=>rfl;have er:∀i,i<ss.length->((kN ss.length).map λi=>aQ g (ss.getD i zQ).1).getD i (0,0)=aQ g (ss.getD i zQ).1:=λi hi=>by
  rw[kE,kY,uA hi];rfl
 unfold YH
 dsimp! [ZT (show ss.length<=2000000 by lia),ek]
 rw[zW (e:=eS) (h:=λs=>Dt.int (yr g s)) λs hs=>by
  dsimp! [zJ,zU,k1 s hs,k2 s hs,OB,wJ];rfl]
 dsimp! []
 rw[zW (e:=eS) (h:=λs=>Dt.int (ym g s)) λs hs=>by
  dsimp! [zJ,zU,k1 s hs,k2 s hs,OB,wJ];rfl]
 dsimp! []
 rw[zW (e:=eS) (h:=λs=>eK g s.2) λs hs=>by
  dsimp! [zJ,zU,k2 s hs]]
 dsimp! [YO,zu,kJ]
 rw[θ ⟨by lia,by lia⟩]
 dsimp! [xX,zn,uk]
 rw[rF (h:=λi=>eK g (ss.getD i zQ).1) λi hi=>by
  have hi:=kn.mp hi;have:=dN (f:=eS) zQ hi;unfold eN at this
  dsimp! [this,zJ,k1 _ (zg hi)]]
 simp only[kG];rw[yX (f:=iy) (h:=λi=>aQ g (ss.getD i zQ).1) λi hi=>rfl];simp only[kG,rJ,fJ];generalize (yJ ss.length λi j=>lt2 (((kN ss.length).map λi=>aQ g (ss.getD i zQ).1).getD i (0,0)) (((kN ss.length).map λi=>aQ g (ss.getD i zQ).1).getD j (0,0)))=pp at*;have ln:pp.length=ss.length:=by rw[pm.length_eq,pM]
 have pn:∀a,a<ss.length->pp.getD a 0<ss.length:=λa ha=>by
  rw[kE,kC (by lia)]
  exact kn.mp (pm.mem_iff.mp (pi (by lia)))
 have up':∀a b,a<b->b<ss.length->lt2 (aQ g (ss.getD (pp.getD b 0) zQ).1) (aQ g (ss.getD (pp.getD a 0) zQ).1)=false:=λa b ab hb=>by
  rw[<-er _ (pn b hb),<-er _ (pn a (by lia))]
  exact up a b ab hb
 rw[uL,<-Tk];refine xz (e:=eN) (xs:=pp) (σ:=List (Nat×Nat)×List Nat) (Oz ss kd g) (λi s=>s.2.length<=i/\s.1.length<=64*i/\(∀k∈s.2,k<ss.length)/\
   (∀a,a<i->pp.getD a 0∈s.2\/∃m,m<i/\lt2 (aQ g (ss.getD (pp.getD a 0) zQ).2) (aQ g (ss.getD (pp.getD m 0) zQ).1)=true)/\
   (∀a b,a<b->b<i->iS g (ss.getD (pp.getD a 0) zQ) (ss.getD (pp.getD b 0) zQ)->(pp.getD b 0,pp.getD a 0)∈s.1)/\∀e∈s.1,e.1<ss.length/\e.2<ss.length) ([],[]) rfl
  ⟨pL _,pL _,λk hk=>(by cases hk),λa ha=>(by lia),λa b _ hb=>(by lia),λe he=>(by cases he)⟩ (λi m s hi hs=>?_) λs hs=>?_
 ·obtain⟨ps,st⟩:=s;obtain⟨h1,h2,h3,h4,h5,h6⟩:=hs;dsimp only at h1 h2 h3 h4 h5 h6;have fL:i<ss.length:=by rw[<-ln];exact(kH.mp hi).1
  have em:pp.getD i 0=m:=by rw[kE,hi];rfl
  have hm:=pn i fL;rw[em] at hm;have t:=rM (ps:=ps) k1 hm h3 (by lia) (by lia)
  refine⟨_,t,?_⟩;generalize ef:(st.filter λk=> !lt2 (aQ g (ss.getD k zQ).2) (aQ g (ss.getD m zQ).1))=rN;have rP:∀k,k∈rN↔k∈st/\(!lt2 (aQ g (ss.getD k zQ).2) (aQ g (ss.getD m zQ).1))=true:=λk=>by rw[<-ef];exact pG
  have l2:rN.length<=i:=by rw[<-ef];exact uR (uF _ _) h1
  refine⟨by simp only[kb,uh];lia,?_,λk hk=>?_,λa ha=>?_,λa b ab hb L7=>?_,λe he=>?_⟩
  ·simp only[kb,kJ];have:=uF (λk=>decide (yr g (ss.getD m zQ)<=ym g (ss.getD k zQ))) (rN.filter λk=>decide (yr g (ss.getD k zQ)<=ym g (ss.getD m zQ)));have:=uF (λk=>decide (yr g (ss.getD k zQ)<=ym g (ss.getD m zQ))) rN;lia
  ·rcases pC.mp hk with z|z
   ·exact h3 k ((rP k).mp z).1
   ·rw[pE.mp z];exact hm
  ·by_cases ai:a=i
   ·subst ai;rw[em];exact .inl (uG _ (pE.mpr rfl))
   ·rcases h4 a (by lia) with h|⟨m',ou,z⟩
    ·cases ef':lt2 (aQ g (ss.getD (pp.getD a 0) zQ).2) (aQ g (ss.getD m zQ).1) with
     |false=>exact .inl (uP _ ((rP _).mpr ⟨h,by rw[ef'];rfl⟩))
     |true=>exact .inr ⟨i,by lia,by rw[em];exact ef'⟩
    ·exact .inr ⟨m',by lia,z⟩
  ·by_cases bi:b=i
   ·subst bi;rw[em] at L7⊢;obtain⟨Tn,n2',n3',n4'⟩:=L7;have fV:pp.getD a 0∈st:=by
     rcases h4 a ab with h|⟨m',ou,z⟩
     ·exact h
     ·exfalso
      have u:=up' m' b ou fL;rw[em] at u;have:lt2 (aQ g (ss.getD (pp.getD a 0) zQ).2) (aQ g (ss.getD m zQ).1)=true:=by
       by_cases eq:aQ g (ss.getD m zQ).1=aQ g (ss.getD (pp.getD m' 0) zQ).1
       ·rw[eq];exact z
       ·rcases dA.tot _ _ eq with q|q
        ·rw[u] at q;cases q
        ·exact dA.tr _ _ _ z q
      rw[this] at Tn
      cases Tn
    exact uG _ (ki.mpr ⟨pp.getD a 0,pG.mpr ⟨pG.mpr ⟨(rP _).mpr ⟨fV,by rw[Tn];rfl⟩,ζ n3'⟩,ζ n4'⟩,rfl⟩)
   ·exact uP _ (h5 a b ab (by lia) L7)
  ·rcases pC.mp he with h|h
   ·exact h6 e h
   ·obtain⟨q,Ie,rfl⟩:=ki.mp h;exact⟨hm,h3 q ((rP q).mp (pG.mp (pG.mp Ie).1).1).1⟩
 ·obtain⟨ps,st⟩:=s;obtain⟨h1,h2,h3,h4,h5,h6⟩:=hs;dsimp only at h1 h2 h3 h4 h5 h6;rw[ln] at h2 h5
  dsimp! [Oz]
  refine⟨_,rfl,ps,g,rfl,⟨ok,λs hs=>⟨gm _ (xf hs).1,gm _ (xf hs).2⟩,h6,λa b ha hb ab L7=>?_⟩,by lia⟩
  have fnd:∀a,a<ss.length->∃ia,ia<ss.length/\pp.getD ia 0=a:=λa ha=>by
   have hm:a∈pp:=pm.mem_iff.mpr (kn.mpr ha);obtain⟨ia,hia⟩:=pF.mp hm;have l1:=(kH.mp hia).1;refine⟨ia,by lia,?_⟩
   rw[kE,hia];rfl
  obtain⟨ia,a1,a2⟩:=fnd a ha;obtain⟨ib,b1,b2⟩:=fnd b hb;rcases gu ia ib with z|z|z
  ·have:=h5 ia ib z b1 (by rw[a2,b2];exact L7)
   rw[a2,b2] at this;exact .inr this
  ·exact absurd (by rw[<-a2,<-b2,z]) ab
  ·have:=h5 ib ia z a1 (by rw[a2,b2];exact L7.symm)
   rw[a2,b2] at this;exact .inl this
end Nu
end
section
namespace Nu
noncomputable def eJ(ns:List Nat):Dt:=.dK (ns.map λk:Nat=>(.inl (k:Int):dh)) (ns.map λ_=>.bool true)
noncomputable def eY(L:List (Q3×List Nat)):Dt:=.dT ((L.map pH).map kQ) (L.map λx=>eJ x.2)
structure Ly(L:List (Q3×List Nat))(R:Q3->Nat->Prop):Prop where
 nd:(L.map pH).Nodup
 nn:∀x∈L,x.2.Nodup/\x.2≠[]
 iff:∀p i,R p i↔∃ns,(p,ns)∈L/\i∈ns
variable{ns:List Nat}
theorem VX{i:Nat}:(.inl (i:Int):dh)∈ns.map (λk:Nat=>(.inl (k:Int):dh))↔i∈ns:=by grind
theorem Xw{κ:Type}[DecidableEq κ]:∀{ks:List κ}{k:κ},k∈ks->∃j,zV ks k=some j/\ks[j]?=some k
 |[],_,h=>by cases h
 |k'::ks,k,h=>by
  unfold zV
  by_cases e:k'=k
  ·rw[θ e,e];exact⟨0,rfl,rfl⟩
  ·rw[η e];obtain⟨j,h1,h2⟩:=Xw ((kT.mp h).resolve_left λz=>e z.symm);exact⟨j+1,by rw[h1];rfl,h2⟩
theorem jP{κ:Type}[DecidableEq κ]:∀{ks:List κ}{k:κ},k∉ks->zV ks k=none
 |[],_,_=>rfl
 |k'::ks,k,h=>by
  unfold zV;rw[η λe=>h (by simp[e]),jP λz=>h (by simp[z])];rfl
theorem WK{α β:Type}{f:α->β}{a b:α}:∀{l:List α}{j:Nat},l[j]?=some a->f a=f b->(l.set j b).map f=l.map f
 |[],_,h,_=>by cases h
 |c::l,0,h,e=>by cases h;simp[e]
 |c::l,j+1,h,e=>by
  rw[UF,kZ,kZ,WK (by simpa using h) e]
theorem ZW{i:Nat}(l:ns.length<ψ):xi (eJ ns) (eN i) (.bool true)=some (eJ (if i∈ns then ns else ns++[i])):=by
 unfold eJ eN;simp only[xi,wu,kG,kJ,θ l]
 congr 1
 unfold pK pV
 by_cases c:i∈ns
 ·rw[θ (VX.mpr c),θ (VX.mpr c),θ c]
  congr 1
  clear c l
  induction ns with
  |nil=>rfl
  |cons k ns ih=>rw[kZ,kZ,UT,ih];split<;>rfl
 ·grind
def jK{m:Nat}(nd:ns.Nodup)(h:∀k∈ns,k<m):ns.length<=m:=by
 have:=List.Nodup.length_le_of_subset nd (l₂:=kN m) λk hk=>kn.mpr (h k hk)
 rwa [pM] at this
def L8(R:Q3->Nat->Prop)(p:Q3)(i:Nat):Q3->Nat->Prop:=λq j=>R q j\/(q=p/\j=i)
theorem rQ{L:List (Q3×List Nat)}{R:Q3->Nat->Prop}(h:Ly L R)(hR:∀q j,R q j->j<64)(hL:L.length<=900000)(p:Q3)(i:Nat):Gv (vG (eY L) [eQ p,eN i]) λd=>∃L',d=eY L'/\Ly L' (L8 R p i)/\L'.length<=L.length+1:=by
 have hk:yf (eY L) (eQ p)=some (decide (p∈L.map pH)):=qB _ _ _;have u8:∀x∈L,x.2.length<ψ:=λx hx=>xd (uR (jK (h.nn x hx).1 λk hk=>hR x.1 k ((h.iff x.1 k).mpr ⟨x.2,hx,hk⟩)) (by decide))
 unfold vG
 by_cases c:p∈L.map pH
 ·have cK:kQ p∈(L.map pH).map kQ:=wP.mpr c;obtain⟨j,hj,ej⟩:=Xw cK;rw[kY,kY] at ej;obtain⟨q,ej,eq⟩:=uO.mp ej;obtain⟨x,ex,To⟩:=uO.mp ej;have Tp:x.1=p:=To.trans (qz eq);obtain⟨x1,ns⟩:=x;subst Tp;have hx:=kg ex;have ix:yU (eY L) (eQ x1)=some j:=by simp only[eY,yU,wY,kG,hj]
  have ch:(yx (eY L))[j]?=some (eJ ns):=by simp only[eY,yx,kY,ex,gK]
  have pj:=ZW (i:=i) (u8 _ hx);have i9:=(kH.mp ex).1;have msm:=WK (f:=pH) (b:=(x1,if i∈ns then ns else ns++[i])) ex rfl;refine⟨eY (L.set j (x1,if i∈ns then ns else ns++[i])),?_,_,rfl,⟨?_,λx Tq=>?_,λq k=>?_⟩,by rw[UP];lia⟩
  ·dsimp! [vU,jW,as2,hk,ζ c,qt,ix,ch,pj,nu,w2]
   congr 1
   unfold setCh eY;dsimp only;rw[msm,FI]
  ·rw[msm];exact h.nd
  ·rcases List.mem_or_eq_of_mem_set Tq with z|z
   ·exact h.nn x z
   ·rw[z];obtain⟨n1,n2⟩:=h.nn _ hx;dsimp only at n1 n2⊢
    by_cases m:i∈ns
    ·rw[θ m];exact⟨n1,n2⟩
    ·grind
  ·have iu:∀k,k∈(if i∈ns then ns else ns++[i])↔k∈ns\/k=i:=λk=>by
    by_cases m:i∈ns
    ·rw[θ m];exact⟨.inl,λz=>z.elim id λz=>z▸m⟩
    ·rw[η m,pC,pE]
   have un:∀ms,(x1,ms)∈L->ms=ns:=λms hm=>by
    obtain⟨a,ha⟩:=pF.mp hm;have la:=(kH.mp ha).1;have:a=j:=by
     have n1:(L.map pH)[a]?=some x1:=by rw[kY,ha];rfl
     have n2:(L.map pH)[j]?=some x1:=by rw[kY,ex];rfl
     rcases gu a j with z|z|z
     ·have:=pI.mp h.nd a j (by rw[kJ];lia) (by rw[kJ];lia) z
      rw[kC (by rw[kJ];lia)] at n1 n2
      exact absurd ((pT n1).trans (pT n2).symm) this
     ·exact z
     ·have:=pI.mp h.nd j a (by rw[kJ];lia) (by rw[kJ];lia) z
      rw[kC (by rw[kJ];lia)] at n1 n2
      exact absurd ((pT n2).trans (pT n1).symm) this
    subst this;rw[ex] at ha
    cases ha;rfl
   have hset:∀y,y∈L.set j (x1,if i∈ns then ns else ns++[i])↔(y=(x1,if i∈ns then ns else ns++[i]))\/(y∈L/\y.1≠x1):=λy=>by
    constructor
    ·intro hy;obtain⟨a,ha⟩:=pF.mp hy;rw[gY] at ha
     by_cases e:j=a
     ·rw[θ e,θ (by lia)] at ha
      exact .inl (pT ha).symm
     ·rw[η e] at ha;refine .inr ⟨kg ha,λz=>?_⟩;have la:=(kH.mp ha).1;have n1:(L.map pH)[a]?=some x1:=by rw[kY,ha];show some y.1=_;rw[z]
      have n2:(L.map pH)[j]?=some x1:=by rw[kY,ex];rfl
      rw[kC (by rw[kJ];lia)] at n1 n2
      rcases Eh e with z|z
      ·exact pI.mp h.nd j a (by rw[kJ];lia) (by rw[kJ];lia) z ((pT n2).trans (pT n1).symm)
      ·exact pI.mp h.nd a j (by rw[kJ];lia) (by rw[kJ];lia) z ((pT n1).trans (pT n2).symm)
    ·rintro(rfl|⟨hy,ne⟩)
     ·exact kg (i:=j) (by rw[BF i9])
     ·obtain⟨a,ha⟩:=pF.mp hy;refine kg (i:=a) ?_;rw[AG λz=>?_]
      ·exact ha
      ·rw[<-z,ex] at ha;cases ha;exact ne rfl
   unfold L8;rw[h.iff]
   constructor
   ·grind
   ·grind
 ·have cK:kQ p∉(L.map pH).map kQ:=λz=>c (wP.mp z);have ad:Yu (eY L) (eQ p) (.dK [] [])=some (eY (L++[(p,[])])):=by
   simp only[eY,Yu,wY,kG];rw[θ ⟨by rw[kJ,kJ];exact xd (by lia),by rw[VK];exact ι c⟩,pD,pD,pD]
   rfl
  have pos:zV ((L.map pH).map kQ++[kQ p]) (kQ p)=some L.length:=by
   clear ad hk u8 hR;have:∀ks:List KT,kQ p∉ks->zV (ks++[kQ p]) (kQ p)=some ks.length:=λks=>by
    induction ks with
    |nil=>intro _;show zV [kQ p] (kQ p)=_;unfold zV;rw[θ rfl];rfl
    |cons k ks ih=>
     intro n;rw[Qk];unfold zV;rw[η λe=>n (by simp[e]),ih λz=>n (by simp[z])];rfl
   have:=this _ cK;rw[kJ,kJ] at this;exact this
  have ix:yU (eY (L++[(p,[])])) (eQ p)=some L.length:=by
   simp only[eY,yU,wY,kG,pD,kZ,UW,pos]
  have ch:(yx (eY (L++[(p,[])])))[L.length]?=some (eJ []):=by
   simp only[eY,yx,pD,kZ,UW];rw[uJ (by rw[kJ];lia),kJ,DW]
   rfl
  have pj:=ZW (ns:=[]) (i:=i) (by decide)
  rw[η (by simp)] at pj
  refine⟨eY (L++[(p,[i])]),?_,_,rfl,⟨?_,λx Tq=>?_,λq k=>?_⟩,by rw[kb];exact pL _⟩
  ·dsimp! [vU,jW,as2,hk,ι c,YX,ad,qt,ix,ch,pj,nu,w2]
   congr 1
   unfold setCh eY;simp only[pD,kZ,UW];rw[List.set_append_right _ _ (by rw[kJ];lia),kJ,DW]
   rfl
  ·rw[pD];exact QE.mpr ⟨h.nd,QK _ _,λa ha b hb e=>c (by rw[pE.mp hb] at e;have e:a=p:=e;exact e▸ha)⟩
  ·rcases pC.mp Tq with z|z
   ·exact h.nn x z
   ·rw[pE.mp z];exact⟨QK _ _,by simp⟩
  ·unfold L8;rw[h.iff]
   constructor
   ·rintro(⟨ms,hm,dH⟩|⟨rfl,rfl⟩)
    ·exact⟨ms,uP _ hm,dH⟩
    ·exact⟨[k],uG _ (by simp),by simp⟩
   ·grind
end Nu
variable{L:List (Q3×List Nat)}{R:Q3->Nat->Prop}{ss:List (Q3×Q3)}
namespace Nu
def w5{α σ β:Type}{e:α->Dt}{h:Dt->En->Option En}{b:En->Option Ou}{fg:List Nat}{K:Ou->Option β}{P:β->Prop}{Z:En}{xs:List α}(env:σ->En)(J:Nat->σ->Prop)(s0:σ)(Tf:Z=env s0)(h0:J 0 s0)(st:∀i a s,xs[i]?=some a->J i s->Gv (((h (e a) (env s)).bind b).bind (ic fg)) λZ=>∃s',Z=env s'/\J (i+1) s')(k:∀s',J xs.length s'->Gv (K (.nx (env s'))) P):Gv ((zw h b fg (xs.map e) Z).bind K) P:=
 xz env J s0 Tf h0 (λi a s hi hj=>let⟨_,e1,s',e2,j⟩:=st i a s hi hj;⟨s',by rw[e1,e2],j⟩) k
theorem VW{α:Type}{f:α->Dt}(d0:α)(xs:List α):iG [.list (xs.map f)]=some ((kN xs.length).map λk=>.tuple [eN k,f (xs.getD k d0)]):=by
 show some _=_
 congr 1
 rw[kJ];refine QU λi=>?_;rw[gV,kY,kY]
 by_cases c:i<xs.length
 ·rw[uA c,kC c];show some _=some (Dt.tuple [eN i,f (xs.getD i d0)]);rw[kE,kC c];rfl
 ·rw[pR (by rw[pM];lia),pR (l:=xs) (by lia)];rfl
def LS(L:List (Q3×List Nat))(s:Sl):Prop:=s=.ow false 2 (eY L)\/(L=[]/\s=.ow false 1 (.dT [] []))
theorem LS.as2{L:List (Q3×List Nat)}{s:Sl}(h:LS L s):as2 s=some (false,eY L):=by
 rcases h with rfl|⟨rfl,rfl⟩<;>rfl
def LS.frz{s:Sl}(h:LS L s):dq s=.fz (eY L):=by
 rcases h with rfl|⟨rfl,rfl⟩<;>rfl
def Ly.congr{R':Q3->Nat->Prop}(h:Ly L R)(e:∀p i,R p i↔R' p i):Ly L R':=⟨h.nd,h.nn,λp i=>(e p i).symm.trans (h.iff p i)⟩
noncomputable def L9(ss:List (Q3×Q3))(s:(List (Q3×List Nat))×Sl):En:=[.fz (.list (ss.map eS)),s.2,.un,.un,.un,.un,.un]
theorem Z1{q:Q3}{i k:Nat}:(k<i/\vE ss q k)\/(k=i/\i<ss.length/\(q=(ss.getD i zQ).1\/q=(ss.getD i zQ).2))↔k<i+1/\vE ss q k:=by
 rw[yE]
 constructor
 ·rintro(⟨h,h2⟩|⟨rfl,h⟩)
  ·exact⟨by lia,h2⟩
  ·exact⟨by lia,h⟩
 ·rintro⟨h,h2⟩
  by_cases c:k=i
  ·subst c;exact .inr ⟨rfl,h2⟩
  ·exact .inl ⟨by lia,h2⟩
def WY{s1:Sl}{ss:Sl}{x2 x3 x4 x5 x6:Sl}(hL:Ly L R)(hs:LS L s1)(hR:∀q j,R q j->j<64)(hl:L.length<=900000)(p:Q3)(i:Nat)(ga:En->Option (List Dt))(eg:ga [ss,s1,x2,x3,x4,x5,x6]=some [eQ p,eN i]):
  Gv (D0 1 vG ga [ss,s1,x2,x3,x4,x5,x6]) λo=>∃L',o=.nx [ss,.ow false 2 (eY L'),x2,x3,x4,x5,x6]/\Ly L' (L8 R p i)/\L'.length<=L.length+1:=by
 obtain⟨d,e,L',rfl,h1,h2⟩:=rQ hL hR hl p i;refine⟨_,?_,L',rfl,h1,h2⟩
 dsimp! [D0,eg,hs.as2,e]
theorem zan{n:Nat}(hn:4*n+3<=8999)(ok:Ss n ss)(hl:ss.length<64):Gv (Yy [.list (ss.map eS)]) λd=>∃L ps g,d=eY L/\zr n ss ps g/\Ly L (aZ ss ps)/\L.length<=20000:=by
 obtain⟨d0,en,ps,g,rfl,T,lps⟩:=rO (by lia) ok hl
 unfold Yy
 dsimp! [VW zQ]
 rw[uL];refine w5 (σ:=(List (Q3×List Nat))×Sl) (L9 ss) (λi s=>Ly s.1 (λq k=>k<i/\vE ss q k)/\LS s.1 s.2/\s.1.length<=2*i) ([],.ow false 1 (.dT [] [])) rfl ⟨⟨.nil,λx hx=>(by cases hx),λp i=>⟨λz=>(by lia),λ⟨_,z,_⟩=>(by cases z)⟩⟩,.inr ⟨rfl,rfl⟩,pL _⟩ (λi k s hi hs=>?_) λs hs=>?_
 ·obtain⟨L,s1⟩:=s;obtain⟨hL,hS,bW⟩:=hs;dsimp only at hL hS bW;have fL:i<ss.length:=by have:=(kH.mp hi).1;rwa [pM] at this
  rw[uA fL] at hi
  cases hi;have e2:eS (ss.getD i zQ)=.tuple ([(ss.getD i zQ).1,(ss.getD i zQ).2].map eQ):=rfl
  dsimp! [L9,e2]
  refine w5 (e:=eQ) (xs:=[(ss.getD i zQ).1,(ss.getD i zQ).2]) (σ:=(List (Q3×List Nat))×Sl) (λs=>[.fz (.list (ss.map eS)),s.2,.fz (eN i),.fz (.tuple ([(ss.getD i zQ).1,(ss.getD i zQ).2].map eQ)),.un,.un,.un]) (λj s=>Ly s.1 (λq k=>(k<i/\vE ss q k)\/(k=i/\q∈[(ss.getD i zQ).1,(ss.getD i zQ).2].take j))/\LS s.1 s.2/\s.1.length<=2*i+j) (L,s1) rfl ⟨hL.congr λp k=>by simp,hS,bW⟩ (λj p s hj hs=>?_) λs hs=>?_
  ·obtain⟨L2,s2⟩:=s;obtain⟨lc,fH,cx⟩:=hs;dsimp only at lc fH cx;have i9:j<2:=(kH.mp hj).1;simp only[gN,kG,Uf,UF];refine(WY lc fH (λq k h=>by rcases h with⟨h,_⟩|⟨h,_⟩<;>lia) (by lia) p i _ (by dsimp! [])).bind λo hw=>?_
   obtain⟨L3,eo,h3,l3⟩:=hw;subst eo;refine⟨_,rfl,(L3,.ow false 2 (eY L3)),rfl,h3.congr λq k=>?_,.inl rfl,by dsimp only;lia⟩
   unfold L8;rw[pP,hj,pC];simp only[Bd,pE]
   constructor
   ·rintro((z|z)|⟨z1,z2⟩)
    ·exact .inl z
    ·exact .inr ⟨z.1,.inl z.2⟩
    ·exact .inr ⟨z2,.inr z1⟩
   ·rintro(z|⟨z1,z2|z2⟩)
    ·exact .inl (.inl z)
    ·exact .inl (.inr ⟨z1,z2⟩)
    ·exact .inr ⟨z2,z1⟩
  ·obtain⟨L2,s2⟩:=s;obtain⟨lc,fH,cx⟩:=hs;dsimp only at lc fH cx
   dsimp! [ic]
   refine⟨_,rfl,(L2,s2),rfl,lc.congr λq k=>?_,fH,by simp only[ku,UQ] at cx⊢;lia⟩
   rw[<-Z1];simp only[ku,UQ,List.take_succ_cons,List.take_nil,kT,pe,or_false]
   constructor
   ·rintro(z|⟨z1,z2⟩)
    ·exact .inl z
    ·exact .inr ⟨z1,fL,z2⟩
   ·rintro(z|⟨z1,_,z2⟩)
    ·exact .inl z
    ·exact .inr ⟨z1,z2⟩
 ·obtain⟨L,s1⟩:=s;obtain⟨hL,hS,bW⟩:=hs;dsimp only at hL hS bW;rw[pM] at hL bW
  dsimp! [L9,en]
  rw[uL];have hb:∀q k,aZ ss ps q k->k<64:=λq k h=>Nat.lt_trans (T.lies h).1 hl;refine w5 (σ:=(List (Q3×List Nat))×Sl) (L9 ss) (λi s=>Ly s.1 (aZ ss (ps.take i))/\LS s.1 s.2/\s.1.length<=128+4*i) (L,s1) rfl ⟨hL.congr λq k=>?_,hS,by dsimp only;lia⟩ (λi x s hi hs=>?_) λs hs=>?_
  ·unfold aZ;rw[Uc];refine⟨λh=>.inl h.2,λh=>?_⟩;rcases h with h|⟨x,hx,_⟩
   ·exact⟨(yE.mp h).1,h⟩
   ·cases hx
  ·obtain⟨L2,s2⟩:=s;obtain⟨lc,fH,cx⟩:=hs;dsimp only at lc fH cx;obtain⟨a,b⟩:=x;have hx:=kg hi;have fL:=(kH.mp hi).1;obtain⟨la,lb⟩:=T.lt _ hx;dsimp only at la lb;obtain⟨o1,o2,_⟩:=ok _ (zg la);obtain⟨r1,r2,_⟩:=ok _ (zg lb);have em:=rI hn o1 o2 r1 r2;have eS':∀s:Q3×Q3,eS s=eS (s.1,s.2):=λs=>rfl
   dsimp! [L9,Q2,dN (f:=eS) zQ la,dN (f:=eS) zQ lb]
   rw[eS' (ss.getD a zQ),eS' (ss.getD b zQ),em]
   dsimp! [zaa]
   have ind:∀q k,aZ ss (ps.take i) q k->aZ ss ps q k:=λq k h=>by
    rcases h with h|⟨y,hy,z⟩
    ·exact .inl h
    ·exact .inr ⟨y,UK hy,z⟩
   generalize er:dD (ss.getD a zQ).1 (ss.getD a zQ).2 (ss.getD b zQ).1 (ss.getD b zQ).2=r;have lr:(u6 r).length<=2:=by cases r<;>simp[u6]
   refine w5 (σ:=(List (Q3×List Nat))×Sl) (λs=>[.fz (.list (ss.map eS)),s.2,.un,.un,.un,.fz (eN a),.fz (eN b)]) (λj s=>Ly s.1 (λq k=>aZ ss (ps.take i) q k\/(q∈(u6 r).take j/\(k=a\/k=b)))/\LS s.1 s.2/\s.1.length<=128+4*i+2*j) (L2,s2) rfl ⟨lc.congr λp k=>by simp,fH,cx⟩ (λj p s hj hs=>?_) λs hs=>?_
   ·obtain⟨L3,s3⟩:=s;obtain⟨Ma,OC,mz⟩:=hs;dsimp only at Ma OC mz;have i9:j<2:=Qg (kH.mp hj).1 lr;have bd:∀q k,(aZ ss (ps.take i) q k\/(q∈(u6 r).take j/\(k=a\/k=b)))->k<64:=λq k h=>by
     rcases h with h|⟨_,h⟩
     ·exact hb q k (ind q k h)
     ·lia
    simp only[gN,kG,Uf,UF,ag];rw[uL];refine(WY Ma OC bd (by lia) p a _ (by dsimp! [])).bind λo hw=>?_
    obtain⟨L4,eo,h4,l4⟩:=hw;subst eo;rw[cC];refine(WY h4 (.inl rfl) (λq k h=>by rcases h with h|⟨_,h⟩;exact bd q k h;lia) (by lia) p b _ (by dsimp! [])).bind λo hw=>?_
    obtain⟨L5,eo,h5,l5⟩:=hw;subst eo;refine⟨_,rfl,(L5,.ow false 2 (eY L5)),rfl,h5.congr λq k=>?_,.inl rfl,by dsimp only;lia⟩
    unfold L8;rw[pP,hj,pC];simp only[Bd,pE]
    constructor
    ·rintro(((z|z)|⟨z1,z2⟩)|⟨z1,z2⟩)
     ·exact .inl z
     ·exact .inr ⟨.inl z.1,z.2⟩
     ·exact .inr ⟨.inr z1,.inl z2⟩
     ·exact .inr ⟨.inr z1,.inr z2⟩
    ·rintro(z|⟨z1|z1,z2⟩)
     ·exact .inl (.inl (.inl z))
     ·exact .inl (.inl (.inr ⟨z1,z2⟩))
     ·rcases z2 with z2|z2
      ·exact .inl (.inr ⟨z1,z2⟩)
      ·exact .inr ⟨z1,z2⟩
   ·obtain⟨L3,s3⟩:=s;obtain⟨Ma,OC,mz⟩:=hs;dsimp only at Ma OC mz;rw[uc] at Ma
    dsimp! [ic]
    refine⟨_,rfl,(L3,s3),rfl,Ma.congr λq k=>?_,OC,by dsimp only;lia⟩
    unfold aZ;rw[pP,hi];simp only[Bd]
    constructor
    ·rintro((z|⟨y,hy,z⟩)|⟨z1,z2⟩)
     ·exact .inl z
     ·exact .inr ⟨y,uP _ hy,z⟩
     ·refine .inr ⟨(a,b),uG _ (by simp),z2,?_⟩
      show mr (dD _ _ _ _) q
      rw[er];exact Vp.mp z1
    ·rintro(z|⟨y,hy,z,sh⟩)
     ·exact .inl (.inl z)
     ·rcases pC.mp hy with hy|hy
      ·exact .inl (.inr ⟨y,hy,z,sh⟩)
      ·rw[pE.mp hy] at z sh;refine .inr ⟨Vp.mpr ?_,z⟩;rw[<-er];exact sh
  ·obtain⟨L2,s2⟩:=s;obtain⟨lc,fH,cx⟩:=hs;dsimp only at lc fH cx;rw[uc] at lc;simp only[L9,cC,cm,Dm,Do,fH.frz]
   dsimp! []
   exact⟨_,rfl,L2,ps,g,rfl,T,lc,by lia⟩
end Nu
end
section
namespace Nu
def ql(ss:List (Q3×Q3))(q:Q3):Prop:=(∃s∈ss,q=s.1\/q=s.2)\/∃s∈ss,∃t∈ss,aY s.1 s.2 q=true/\aY t.1 t.2 q=true/\bB s.1 s.2 t.1 t.2≠0
structure cA(N:Nat)(ss:List (Q3×Q3))(q:Q3)(s:Q3×Q3):Prop where
 mem:s∈ss
 on:aY s.1 s.2 q=true
 pq:PQ N q
 st:ql ss q
def wD(N:Nat)(ss:List (Q3×Q3))(f:Q3×Q3):Prop:=∃s,cA N ss f.1 s/\cA N ss f.2 s/\bq f.1 f.2=true/\∀r,cA N ss r s->bq f.1 r=true->bq r f.2=true->False
def wA{ss:List (Q3×Q3)}{s:Q3×Q3}(h:s∈ss):∃i,i<ss.length/\ss.getD i zQ=s:=by
 obtain⟨i,hi,e⟩:=pW.mp h;exact⟨i,hi,by rw[kE,kC hi];exact e⟩
section
variable{n:Nat}{ss:List (Q3×Q3)}{ps:List (Nat×Nat)}{g:Int}(T:zr n ss ps g)
include T
theorem y5{q:Q3}{i:Nat}:aZ ss ps q i↔i<ss.length/\cA (4*n+3) ss q (ss.getD i zQ):=by
 constructor
 ·intro h;obtain⟨hi,pq,on⟩:=T.lies h;refine⟨hi,zg hi,on,pq,?_⟩;rcases h with h|⟨x,hx,_,h⟩
  ·obtain⟨l,z⟩:=yE.mp h;exact .inl ⟨_,zg l,z⟩
  ·obtain⟨l1,l2⟩:=T.lt x hx;obtain⟨a1,a2,a3⟩:=T.ok _ (zg l1);obtain⟨b1,b2,b3⟩:=T.ok _ (zg l2);obtain⟨_,o1,o2⟩:=Zj a1 a2 b1 b2 a3 b3 h
   by_cases c:bB (ss.getD x.1 zQ).1 (ss.getD x.1 zQ).2 (ss.getD x.2 zQ).1 (ss.getD x.2 zQ).2=0
   ·have z1:=xW pq.pos b3 c (zj o1).1 (zj o2).1 (yI _ _);have z2:=xW pq.pos b3 c (zj o1).1 (zj o2).1 (yo _ _);rcases JX a1 a2 b1 b2 a3 b3 z1 z2 h with z|z
    ·exact .inl ⟨_,zg l1,z⟩
    ·exact .inl ⟨_,zg l2,z⟩
   ·exact .inr ⟨_,zg l1,_,zg l2,o1,o2,c⟩
 ·intro⟨hi,l⟩;rcases l.st with⟨s,hs,z⟩|⟨s,hs,t,ht,o1,o2,c⟩
  ·obtain⟨k,hk,e⟩:=wA hs;exact T.ends hi (yE.mpr ⟨hk,by rw[e];exact z⟩) l.on
  ·obtain⟨j,hj,e⟩:=wA hs;obtain⟨k,hk,e'⟩:=wA ht;have:aZ ss ps q j:=T.cross (pL _) hj hk l.pq (by unfold cZ;rw[e];exact o1) (by unfold cZ;rw[e'];exact o2) (by unfold mu;rw[e,e'];exact c)
   exact T.full hi this l.on
theorem jA{f:Q3×Q3}:bT ss ps f↔wD (4*n+3) ss f:=by
 constructor
 ·intro⟨i,h1,h2,h3,h4⟩;obtain⟨hi,l1⟩:=(y5 T).mp h1;exact⟨_,l1,((y5 T).mp h2).2,h3,λr hr=>h4 r ((y5 T).mpr ⟨hi,hr⟩)⟩
 ·intro⟨s,h1,h2,h3,h4⟩;obtain⟨i,hi,e⟩:=wA h1.mem;subst e;exact⟨i,(y5 T).mpr ⟨hi,h1⟩,(y5 T).mpr ⟨hi,h2⟩,h3,λr hr=>h4 r ((y5 T).mp hr).2⟩
end
structure OD(N:Nat)(ss:List (Q3×Q3)):Prop where
 pt:∀l:List Q3,l.Nodup->(∀q∈l,PQ N q/\ql ss q)->l.length<wz
 pc:∀l:List (Q3×Q3),l.Nodup->(∀f∈l,wD N ss f)->l.length<wz
end Nu
variable{ss:List (Q3×Q3)}
namespace Nu
noncomputable def fb(ss:List (Q3×Q3))(q:Q3):List Nat:=(kN ss.length).filter λk=>aY (ss.getD k zQ).1 (ss.getD k zQ).2 q
def vS{q:Q3}{k:Nat}:k∈fb ss q↔k<ss.length/\cZ ss q k:=by
 unfold fb cZ;rw[pG,kn]
def XA(ss:List (Q3×Q3))(q:Q3):(fb ss q).Pairwise (·<·):=Bh _ List.pairwise_lt_range
def rR(ss:List (Q3×Q3))(q:Q3):(fb ss q).length<=ss.length:=uR (uF _ _) (by rw[pM];exact pL _)
def Kk(ss:List (Q3×Q3))(q:Q3):(fb ss q).Nodup:=(XA ss q).imp λh=>ut h
noncomputable def u9(ss:List (Q3×Q3))(q:Q3):List Nat:=(fb ss q).filter λk=>decide ((ss.getD k zQ).1=q)
noncomputable def iU(ss:List (Q3×Q3))(q:Q3):List Nat:=(fb ss q).filter λk=> !(decide ((ss.getD k zQ).1=q)||decide ((ss.getD k zQ).2=q))
noncomputable def rS(ss:List (Q3×Q3))(q:Q3):List Nat:=(fb ss q).filter λk=>decide ((ss.getD k zQ).2=q)
noncomputable def eT(ss:List (Q3×Q3))(q:Q3):Dt:=.tuple [eQ q,.list ((u9 ss q).map eN),.list ((iU ss q).map eN),.list ((rS ss q).map eN)]
def rT(p:Q3)(s:Q3×Q3):D1 true true (eQ p) (eS s)=some (.bool (!(decide (s.1=p)||decide (s.2=p)))):=by
 have t:we [eQ s.1,eQ s.2]=some [pQ s.1,pQ s.2]:=rfl;have c:∀q,(pQ q).canLay0=true:=λq=>by simp[pQ,uu,uH]
 have d:(pQ p).depth<=60:=by simp[pQ,QJ,ud]
 have a:uH [pQ s.1,pQ s.2]=true:=by simp[uH,c]
 unfold D1 eS;simp only[WQ,kG,if_true,Lu,t];rw[θ ⟨c p,a,d⟩];simp only[List.any_cons,List.any_nil,WT,Gc]
def zbw{q:Q3}:Yw [eQ q,.list ((fb ss q).map eN),.list (ss.map eS)]=some (eT ss q):=by
 have hi:∀k∈fb ss q,af (.list (ss.map eS)) (eN k)=some (eS (ss.getD k zQ)):=λk hk=>dN zQ (vS.mp hk).1;unfold Yw
 dsimp! []
 rw[wk (e:=eN) (h:=eN) (c:=λk=>decide ((ss.getD k zQ).1=q)) λk hk=>by
  dsimp! [hi k hk,zJ,yA]
  split<;>rfl]
 dsimp! []
 rw[wk (e:=eN) (h:=eN) (c:=λk=> !(decide ((ss.getD k zQ).1=q)||decide ((ss.getD k zQ).2=q))) λk hk=>by
  dsimp! [hi k hk,rT]
  split<;>rfl]
 dsimp! []
 rw[wk (e:=eN) (h:=eN) (c:=λk=>decide ((ss.getD k zQ).2=q)) λk hk=>by
  dsimp! [hi k hk,zU,yA]
  split<;>rfl]
 dsimp! []
 rfl
def rU{a b:List Nat}(ha:a.Nodup)(hb:b.Nodup)(h:∀k,k∈a↔k∈b):a.Perm b:=(CO ha hb).mpr h
theorem VN{ns ms:List Nat}(nd:ns.Nodup)(up:ms.Pairwise (·<·))(h:∀k,k∈ns↔k∈ms)(l:ns.length<64):wC [.list (ns.map eN)]=some (.list (ms.map eN)):=by
 have m:zn yN (ns.map eN)=some (ns.map λk:Nat=>(k:Int)):=yX λk _=>rfl;have pm:=(rU nd (up.imp λh=>ut h) h).map λk:Nat=>(k:Int);have e:jJ (ns.map λk:Nat=>(k:Int))=ms.map λk:Nat=>(k:Int):=WW ((Vd _).trans pm) (XC _) (List.Pairwise.map _ (λa b h=>by lia) up)
 simp only[wC,fJ,kG,m,kJ,θ l,e,uE];rfl
theorem zd3{n:Nat}(hn:4*n+3<=8999)(ok:Ss n ss)(hl:ss.length<64)(fw:OD (4*n+3) ss):Gv (YZ [.list (ss.map eS)]) λd=>∃os ps g,d=.list (os.map (eT ss))/\zr n ss ps g/\Up os/\(∀q,q∈os↔∃i,aZ ss ps q i)/\os.length<=20000:=by
 obtain⟨d,el,L,ps,g,rfl,T,hL,ll⟩:=zan hn ok hl;have km:∀q,q∈L.map pH↔∃i,aZ ss ps q i:=λq=>by
  constructor
  ·intro h;obtain⟨⟨a,ns⟩,h1,rfl⟩:=ki.mp h;obtain⟨k,hk⟩:=List.exists_mem_of_ne_nil _ (hL.nn _ h1).2;exact⟨k,(hL.iff _ _).mpr ⟨ns,h1,hk⟩⟩
  ·rintro⟨i,h⟩;obtain⟨ns,h1,_⟩:=(hL.iff _ _).mp h;exact ki.mpr ⟨_,h1,rfl⟩
 have kl:yD [eY L]=some (.list ((L.map pH).map eQ)):=by
  unfold eY yD;dsimp only;rw[θ,uE]
  ·rfl
  ·rw[uS];intro k hk;obtain⟨q,_,rfl⟩:=ki.mp hk;exact ζ (xj (by decide:3<=8000000))
 obtain⟨d2,ei,os,rfl,up,hm,lo⟩:=VE (n:=4*n+3) hn (ps:=L.map pH) (λq h=>by
  obtain⟨i,hi⟩:=(km q).mp h;exact(T.lies hi).2.1) (by rw[kJ];lia) (λos nd hs=>fw.pt os nd λq hq=>by
   obtain⟨i,hi⟩:=(km q).mp (hs q hq);have:=((y5 T).mp hi).2;exact⟨this.pq,this.st⟩)
 rw[kJ] at lo;have ho:∀q,q∈os↔∃i,aZ ss ps q i:=λq=>(hm q).trans (km q);have gt:∀q∈os,∃ns,yy (eY L) (eQ q)=some (eJ ns)/\ns.Nodup/\∀k,k∈ns↔k∈fb ss q:=λq hq=>by
  obtain⟨i,hi⟩:=(ho q).mp hq;obtain⟨x,hx,e⟩:=ki.mp ((hm q).mp hq);have key:∀(M:List (Q3×List Nat)),(M.map pH).Nodup->x∈M->cq ((M.map pH).map kQ) (M.map λx=>eJ x.2) (kQ x.1)=some (eJ x.2):=λM nd hx=>by
   induction M with
   |nil=>cases hx
   |cons y M ih=>
    rw[kZ,kZ,kZ,cq];rw[kZ] at nd;obtain⟨n1,n2⟩:=uU.mp nd
    by_cases c:kQ y.1=kQ x.1
    ·rw[θ c];rcases kT.mp hx with z|z
     ·rw[z]
     ·exact absurd (ki.mpr ⟨x,z,(qz c).symm⟩) n1
    ·grind
  subst e;refine⟨x.2,?_,(hL.nn x hx).1,λk=>?_⟩
  ·simp only[eY,yy,wY,kG];exact key L hL.nd hx
  ·rw[vS]
   constructor
   ·intro hk;obtain⟨h1,_,h2⟩:=T.lies ((hL.iff x.1 k).mpr ⟨x.2,hx,hk⟩);exact⟨h1,h2⟩
   ·rintro⟨h1,h2⟩;obtain⟨ns,h3,h4⟩:=(hL.iff x.1 k).mp (T.full h1 hi h2);have:x.2=ns:=by
     have a:=key L hL.nd hx;have b:cq ((L.map pH).map kQ) (L.map λx=>eJ x.2) (kQ x.1)=some (eJ ns):=by
      have:∀(M:List (Q3×List Nat)),(M.map pH).Nodup->(x.1,ns)∈M->x∈M->x.2=ns:=λM nd h1 h2=>by
       induction M with
       |nil=>cases h1
       |cons y M ih=>
        rw[kZ] at nd;obtain⟨n1,n2⟩:=uU.mp nd;rcases kT.mp h1 with z1|z1<;>rcases kT.mp h2 with z2|z2
        ·rw[z2,<-z1]
        ·rw[<-z1] at n1;exact absurd (ki.mpr ⟨x,z2,rfl⟩) n1
        ·grind
        ·exact ih n2 z1 z2
      rw[<-this L hL.nd h3 hx];exact a
     have:∀(M:List (Q3×List Nat)),(M.map pH).Nodup->(x.1,ns)∈M->x∈M->x.2=ns:=λM nd h1 h2=>by
      induction M with
      |nil=>cases h1
      |cons y M ih=>
       rw[kZ] at nd;obtain⟨n1,n2⟩:=uU.mp nd;rcases kT.mp h1 with z1|z1<;>rcases kT.mp h2 with z2|z2
       ·rw[z2,<-z1]
       ·grind
       ·grind
       ·exact ih n2 z1 z2
     exact this L hL.nd h3 hx
    rw[this];exact h4
 refine⟨.list (os.map (eT ss)),?_,os,ps,g,rfl,T,up,ho,by lia⟩
 unfold YZ
 dsimp! [el,kl,ei]
 rw[zW (e:=eQ) (h:=eT ss) λq hq=>by
  obtain⟨ns,h1,h2,h3⟩:=gt q hq;have Mo:ns.length<64:=um (jK h2 λk hk=>(vS.mp ((h3 k).mp hk)).1) hl;have lk:yD [eJ ns]=some (.list (ns.map eN)):=by
   simp only[eJ,yD,uE];rfl
  dsimp! [h1,lk,VN h2 (XA ss q) h3 Mo,zbw]]
 dsimp! []
end Nu
end
section
variable{K:List (Nat×Q3)}{k:Nat}{q:Q3}{os:List Q3}
namespace Nu
noncomputable def k2(f:Q3×Q3):KT:=[.inr [f.1.x,f.1.y,f.1.w],.inr [f.2.x,f.2.y,f.2.w]]
def XB{f f':Q3×Q3}(h:k2 f=k2 f'):f=f':=by
 obtain⟨⟨_,_,_⟩,_,_,_⟩:=f;obtain⟨⟨_,_,_⟩,_,_,_⟩:=f'
 cases h;rfl
def Wl(f:Q3×Q3):xQ (eS f)=some (k2 f):=rfl
noncomputable def eO(O:List ((Q3×Q3)×List Nat)):Dt:=.dT ((O.map pH).map k2) (O.map λx=>.list (x.2.map eN))
structure Wn(O:List ((Q3×Q3)×List Nat))(mA:Q3×Q3->Prop)(L:Q3×Q3->List Nat):Prop where
 nd:(O.map pH).Nodup
 mem:∀f,mA f↔f∈O.map pH
 val:∀x∈O,x.2=L x.1
variable{O:List ((Q3×Q3)×List Nat)}{mA:Q3×Q3->Prop}{L:Q3×Q3->List Nat}
def Wn.congr{OE:Q3×Q3->Prop}{L':Q3×Q3->List Nat}(h:Wn O mA L)(hM:∀f,mA f↔OE f)(hL:∀f,mA f->L f=L' f):Wn O OE L':=
 ⟨h.nd,λf=>(hM f).symm.trans (h.mem f),λx hx=>(h.val x hx).trans (hL _ ((h.mem _).mpr (ki.mpr ⟨x,hx,rfl⟩)))⟩
theorem rV{α β:Type}{O:List (α×β)}(nd:(O.map pH).Nodup){j:Nat}{a:α}{b c:β}(h:O[j]?=some (a,b)){y:α×β}(hy:y∈O.set j (a,c)):y=(a,c)\/(y∈O/\y.1≠a):=by
 have hj:=(kH.mp h).1;obtain⟨i,hi⟩:=pF.mp hy;rw[gY] at hi
 by_cases e:j=i
 ·rw[θ e,θ (by lia)] at hi
  exact .inl (pT hi).symm
 ·rw[η e] at hi;refine .inr ⟨kg hi,λz=>?_⟩;have la:=(kH.mp hi).1;have n1:(O.map pH)[i]?=some a:=by rw[kY,hi];show some y.1=_;rw[z]
  have n2:(O.map pH)[j]?=some a:=by rw[kY,h];rfl
  rw[kC (by rw[kJ];lia)] at n1 n2
  rcases Eh e with z|z
  ·exact pI.mp nd j i (by rw[kJ];lia) (by rw[kJ];lia) z ((pT n2).trans (pT n1).symm)
  ·exact pI.mp nd i j (by rw[kJ];lia) (by rw[kJ];lia) z ((pT n1).trans (pT n2).symm)
variable{f:Q3×Q3}
def Zh{fs:List (Q3×Q3)}:k2 f∈fs.map k2↔f∈fs:=⟨λh=>let⟨q,hq,e⟩:=ki.mp h;XB e▸hq,λh=>ki.mpr ⟨f,h,rfl⟩⟩
theorem rW(h:Wn O mA L)(f:Q3×Q3)(k:Nat)(hn:¬mA f->L f=[])(hO:O.length<=7000000)(hL:(L f).length<=1000):
  Gv (ni (eO O) (eS f) (eN k)) λd=>∃O',d=eO O'/\Wn O' (λx=>mA x\/x=f) (λx=>if x=f then L f++[k] else L x)/\O'.length<=O.length+1:=by
 have l0:O.length<ψ:=xd (by lia)
 by_cases c:f∈O.map pH
 ·obtain⟨j,hj,ej⟩:=Xw (Zh.mpr c);rw[kY,kY] at ej;obtain⟨q,ej,eq⟩:=uO.mp ej;obtain⟨x,ex,To⟩:=uO.mp ej;have Tp:x.1=f:=To.trans (XB eq);obtain⟨x1,ns⟩:=x;subst Tp;dsimp only at*;have hx:=kg ex;have hv:ns=L x1:=h.val _ hx;have ms:=WK (f:=pH) (b:=(x1,ns++[k])) ex rfl;have l1:ns.length<ψ:=by rw[hv];exact xd (by lia)
  refine⟨eO (O.set j (x1,ns++[k])),?_,_,rfl,⟨by rw[ms];exact h.nd,λg=>?_,λy hy=>?_⟩,by rw[UP];lia⟩
  ·unfold eO ni;simp only[Wl,Pn,kG,kJ,θ l0,hj,kY,ex,gK,θ l1,ms,FI,pD,kZ,UW]
  ·rw[ms,<-h.mem];exact⟨λz=>z.elim id λz=>z▸(h.mem _).mpr c,.inl⟩
  ·rcases rV h.nd ex hy with z|⟨z1,z2⟩
   ·rw[z,θ rfl,hv]
   ·rw[η z2];exact h.val y z1
 ·have nm:¬mA f:=λz=>c ((h.mem f).mp z);have pn:zV ((O.map pH).map k2) (k2 f)=none:=jP λz=>c (Zh.mp z);refine⟨eO (O++[(f,[k])]),?_,_,rfl,⟨?_,λg=>?_,λy hy=>?_⟩,by rw[kb];exact pL _⟩
  ·unfold eO ni;simp only[Wl,kG,kJ,θ l0,pn,pD,kZ,UW]
  ·rw[pD];exact QE.mpr ⟨h.nd,QK _ _,λa ha b hb e=>c (by rw[pE.mp hb] at e;have e:a=f:=e;exact e▸ha)⟩
  ·rw[pD,pC,h.mem]
   simp
  ·rcases pC.mp hy with z|z
   ·rw[η λe=>c (ki.mpr ⟨y,z,e⟩)];exact h.val y z
   ·rw[pE.mp z,θ rfl,hn nm];rfl
noncomputable def eR(K:List (Nat×Q3)):Dt:=.dK (K.map λx=>(.inl (x.1:Int):dh)) (K.map λx=>eQ x.2)
noncomputable def bK:List (Nat×Q3)->Nat->Option Q3
 |[],_=>none
 |x::K,k=>if x.1=k then some x.2 else bK K k
theorem Zr{k:Nat}:∀(K:List (Nat×Q3)),yy (eR K) (eN k)=(bK K k).map eQ
 |[]=>rfl
 |x::K=>by
  have ih:=Zr (k:=k) K;simp only[eR,eN,yy,wu,kG] at ih⊢;rw[kZ,kZ,cq,bK,ih]
  by_cases e:x.1=k
  ·rw[θ (by rw[e]),θ e];rfl
  ·rw[η (λz=>e (by have:=Fu z;lia)),η e]
theorem Kl(k:Nat)(p:Q3)(l:K.length<=7000000):∃K',xi (eR K) (eN k) (eQ p)=some (eR K')/\K'.length<=K.length+1/\∀j,bK K' j=if j=k then some p else bK K j:=by
 have l0:(K.map λx=>(.inl (x.1:Int):dh)).length<ψ:=by rw[kJ];exact xd (by lia)
 by_cases c:(.inl (k:Int):dh)∈K.map λx=>(.inl (x.1:Int):dh)
 ·refine⟨K.map λx=>if x.1=k then(x.1,p) else x,?_,by rw[kJ];lia,λj=>?_⟩
  ·unfold eR eN;simp only[xi,wu,kG,θ l0]
   congr 1
   unfold pK pV;rw[θ c,θ c];clear c l0 l
   congr 1
   ·rw[uE];refine QS λx _=>?_;show _=(Gp ((if x.1=k then(x.1,p) else x).1:Int):dh)
    split<;>rfl
   ·induction K with
    |nil=>rfl
    |cons x K ih=>
     rw[kZ,kZ,UT,kZ,kZ,ih]
     by_cases e:x.1=k
     ·rw[θ (by rw[e]),θ e]
     ·rw[η (λz=>e (by have:=Fu z;lia)),η e]
  ·have hk:∃x∈K,x.1=k:=by
    obtain⟨x,hx,e⟩:=ki.mp c;exact⟨x,hx,by have:=Fu e;lia⟩
   clear c l0 l
   induction K with
   |nil=>obtain⟨x,hx,_⟩:=hk;cases hx
   |cons x K ih=>
    rw[kZ,bK,bK]
    by_cases e:x.1=k
    ·rw[θ e];dsimp only
     by_cases ej:j=k
     ·rw[θ (by rw[e,ej]),θ ej]
     ·have nj:¬x.1=j:=λz=>ej (z.symm.trans e);rw[η nj,η ej,η nj]
      by_cases dH:∃x∈K,x.1=k
      ·rw[ih dH,η ej]
      ·congr 1
       have:∀M:List (Nat×Q3),(¬∃x∈M,x.1=k)->(M.map λx=>if x.1=k then(x.1,p) else x)=M:=λM hM=>by
        conv=>rhs;rw[<-List.map_id M]
        exact QS λx hx=>η λz=>hM ⟨x,hx,z⟩
       exact this K dH
    ·have dH:∃x∈K,x.1=k:=by
      obtain⟨y,hy,z⟩:=hk;rcases kT.mp hy with w|w
      ·rw[w] at z;exact absurd z e
      ·exact⟨y,w,z⟩
     rw[η e]
     by_cases ej:x.1=j
     ·rw[θ ej,θ ej,η λz=>e (ej.trans z)]
     ·rw[η ej,η ej,ih dH]
 ·refine⟨K++[(k,p)],?_,by rw[kb];exact pL _,λj=>?_⟩
  ·unfold eR eN;simp only[xi,wu,kG,θ l0]
   congr 1
   unfold pK pV;rw[η c,η c,pD,pD];rfl
  ·have hk:∀x∈K,x.1≠k:=λx hx z=>c (ki.mpr ⟨x,hx,by rw[z]⟩)
   clear c l0 l
   induction K with
   |nil=>
    show(if k=j then some p else none)=_
    by_cases e:j=k
    ·rw[θ e,θ e.symm]
    ·rw[η e,η λz=>e z.symm];rfl
   |cons x K ih=>
    rw[Qk,bK,bK,ih λy hy=>hk y (by simp[hy])]
    by_cases e:x.1=j
    ·rw[θ e,θ e,η λz=>hk x (by simp) (e.trans z)]
    ·rw[η e,η e]
noncomputable def zH(ss:List (Q3×Q3))(f:Q3×Q3):List Nat:=(fb ss f.2).filter λk=>aY (ss.getD k zQ).1 (ss.getD k zQ).2 f.1
def xg{ss:List (Q3×Q3)}:k∈zH ss f↔k<ss.length/\cZ ss f.1 k/\cZ ss f.2 k:=by
 unfold zH;rw[pG,vS];exact⟨λ⟨⟨a,b⟩,c⟩=>⟨a,c,b⟩,λ⟨a,b,c⟩=>⟨⟨a,c⟩,b⟩⟩
noncomputable def mQ(ss:List (Q3×Q3))(q:Q3):List Nat:=(fb ss q).filter λk=>decide ((ss.getD k zQ).1≠q)
def YE{ss:List (Q3×Q3)}:k∈mQ ss q↔(k<ss.length/\cZ ss q k)/\(ss.getD k zQ).1≠q:=by
 unfold mQ;rw[pG,vS,τ]
section
variable{n:Nat}{ss:List (Q3×Q3)}{ps:List (Nat×Nat)}{g:Int}
def Wc(T:zr n ss ps g)(hk:k<ss.length):(ss.getD k zQ).1≠(ss.getD k zQ).2:=λz=>by
 have:=(T.ok _ (zg hk)).2.2;rw[z,zq] at this
 cases this
def Tr{a b p r:Q3}(hab:bq a b=true)(hp:dt a b p=0)(hq:dt a b q=0)(hr:dt a b r=0):dt p q r=0:=by
 have e1:=y8 a b p q r;have e2:=jU a b p q r;rw[hp,hq,hr] at e1 e2;simp only[pY,UY] at e1 e2;rcases W9 hab with h|h
 ·exact(kX.mp e1.symm).resolve_right h
 ·exact(kX.mp e2.symm).resolve_right h
theorem bT.nb(T:zr n ss ps g)(h:bT ss ps f){i:Nat}(hi:i<ss.length)(o1:cZ ss f.1 i)(o2:cZ ss f.2 i):aZ ss ps f.1 i/\aZ ss ps f.2 i/\∀r,aZ ss ps r i->bq f.1 r=true->bq r f.2=true->False:=by
 obtain⟨j,h1,h2,h3,h4⟩:=h;obtain⟨j1,j2,j3⟩:=T.lies h1;obtain⟨_,j4,j5⟩:=T.lies h2;refine⟨T.full hi h1 o1,T.full hi h2 o2,λr hr r1 r2=>h4 r ?_ r1 r2⟩;obtain⟨_,r3,r4⟩:=T.lies hr;obtain⟨s1,s2,s3⟩:=T.ok _ (zg j1);have up:∀{z:Q3},PQ n z->PQ (4*n+3) z:=λh=>Pt.mono h (by lia)
 have c1:=(zj o1).1;have c2:=(zj o2).1;have c3:=(zj r4).1;obtain⟨t1,t2,t3⟩:=T.ok _ (zg hi);have cl:dt f.1 f.2 r=0:=Tr t3 c1 c2 c3;exact T.full j1 hr (qn (up s1) (up s2) j2 j4 r3 h3 j3 j5 cl (zt r1) (zt r2))
def Km(T:zr n ss ps g)(hl:ss.length<64)(q:Q3):wC [.list ((iU ss q++rS ss q).map eN)]=some (.list ((mQ ss q).map eN)):=by
 have mem:∀k,k∈iU ss q++rS ss q↔k∈mQ ss q:=λk=>by
  unfold iU rS;rw[pC,pG,pG,YE,vS];simp only[Fv,pO,UL,decide_eq_false_iff_not,τ]
  constructor
  ·rintro(⟨h1,h2,_⟩|⟨h1,h2⟩)
   ·exact⟨h1,h2⟩
   ·exact⟨h1,λz=>Wc T h1.1 (z.trans h2.symm)⟩
  ·rintro⟨h1,h2⟩
   by_cases e:(ss.getD k zQ).2=q
   ·exact .inr ⟨h1,e⟩
   ·exact .inl ⟨h1,h2,e⟩
 have nd:(iU ss q++rS ss q).Nodup:=by
  have n0:=Kk ss q;refine QE.mpr ⟨n0.filter _,n0.filter _,λx hx y hy z=>?_⟩;have h1:=(pG.mp hx).2;have h2:=ξ (pG.mp hy).2;rw[z] at h1;simp only[Fv,pO,UL,decide_eq_false_iff_not] at h1;exact h1.2 h2
 exact VN nd (Bh _ (XA ss q)) mem (um (jK nd λk hk=>(YE.mp ((mem k).mp hk)).1.1) hl)
def Kn(ss:List (Q3×Q3))(ps:List (Nat×Nat))(dn:List Q3)(K:List (Nat×Q3)):Prop:=∀i q,aZ ss ps q i->q∈dn->(∀r,r∈dn->aZ ss ps r i->bq q r=false)->q≠(ss.getD i zQ).2->bK K i=some q
theorem Vv{T:Q3->Prop}:∀{l:List Q3},Up l->(∃r,r∈l/\T r)->∃p,p∈l/\T p/\∀r,r∈l->T r->bq p r=false
 |[],_,⟨r,h,_⟩=>by cases h
 |a::l,pw,⟨r,hr,ht⟩=>by
  obtain⟨p1,p2⟩:=uK.mp pw
  by_cases z:∃r,r∈l/\T r
  ·obtain⟨p,h1,h2,h3⟩:=Vv p2 z;refine⟨p,uM _ h1,h2,λr hr tr=>?_⟩;rcases kT.mp hr with rfl|hr
   ·exact zt (p1 p h1)
   ·exact h3 r hr tr
  ·have ea:∀r,r∈a::l->T r->r=a:=λr hr tr=>by
    rcases kT.mp hr with h|h
    ·exact h
    ·exact absurd ⟨r,h,tr⟩ z
   exact⟨a,uN,ea r hr ht▸ht,λr hr tr=>by rw[ea r hr tr];exact zq a⟩
def xO{l:List Q3}(pw:Up l){r:Q3}(hk:l[k]?=some q):(r∈l.take k->bq r q=true)/\(r∈l->bq r q=true->r∈l.take k):=by
 have fK:=(kH.mp hk).1;have sp:l=l.take k++(q::l.drop (k+1)):=by
  conv=>lhs;rw[<-Qz k l]
  rw[Qw fK]
  congr 2
  have:=kC fK;rw[hk] at this;exact(pT this).symm
 have Q4:=pw;unfold Up at Q4;rw[sp,Ql] at Q4;refine⟨λh=>Q4.2.2 r h q uN,λh hb=>?_⟩;rw[sp] at h;rcases pC.mp h with h|h
 ·exact h
 ·rcases kT.mp h with h|h
  ·rw[h,zq] at hb;cases hb
  ·have:=(uK.mp Q4.2.1).1 r h;rw[zt hb] at this
   cases this
theorem XY(T:zr n ss ps g)(pw:Up os)(ho:∀q,q∈os↔∃i,aZ ss ps q i){K:List (Nat×Q3)}{k i:Nat}{q:Q3}(hk:os[k]?=some q)(hq:aZ ss ps q i)(n1:(ss.getD i zQ).1≠q)(R:Kn ss ps (os.take k) K):
  ∃p,aZ ss ps p i/\bT ss ps (p,q)/\bK K i=some p:=by
 obtain⟨hi,pq,oq⟩:=T.lies hq;obtain⟨s1,s2,s3⟩:=T.ok _ (zg hi);obtain⟨_,i1,i2⟩:=zj oq;have up:∀{z:Q3},PQ n z->PQ (4*n+3) z:=λh=>Pt.mono h (by lia)
 have l1:aZ ss ps (ss.getD i zQ).1 i:=.inl (yE.mpr ⟨hi,.inl rfl⟩);have b1:bq (ss.getD i zQ).1 q=true:=by
  cases h:bq (ss.getD i zQ).1 q with
  |true=>rfl
  |false=>exact absurd (yn (up s1) pq (by rw[h];decide) (by rw[i1];decide)) n1
 obtain⟨p,h1,h2,h3⟩:=Vv (T:=λr=>aZ ss ps r i) (List.Pairwise.sublist (Aw k os) pw) ⟨_,(xO pw hk).2 ((ho _).mpr ⟨i,l1⟩) b1,l1⟩;have bp:=(xO pw hk (r:=p)).1 h1;refine⟨p,h2,⟨i,h2,hq,bp,λr hr r1 r2=>?_⟩,R i p h2 h1 h3 λz=>by rw[z,i2] at bp;cases bp⟩
 have:=h3 r ((xO pw hk).2 ((ho _).mpr ⟨i,hr⟩) r2) hr;rw[r1] at this
 cases this
def Kn.next(pw:Up os){K':List (Nat×Q3)}(hk:os[k]?=some q){bt:List Nat}(hbt:∀i,i∈bt↔aZ ss ps q i/\(ss.getD i zQ).2≠q)(hv:∀i:Nat,bK K' i=if i∈bt then some q else bK K i)(R:Kn ss ps (os.take k) K):Kn ss ps (os.take (k+1)) K':=λi r hr hm hl hn=>by
 have et:os.take (k+1)=os.take k++[q]:=by rw[pP,hk];rfl
 rw[et] at hm hl;rw[hv i];rcases pC.mp hm with hm|hm
 ·have nq:¬aZ ss ps q i:=λz=>by
   have:=hl q (uG _ (pE.mpr rfl)) z;rw[(xO pw hk).1 hm] at this
   cases this
  rw[η (λz=>nq ((hbt i).mp z).1)];exact R i r hr hm (λx hx=>hl x (uP _ hx)) hn
 ·have e:=pE.mp hm;subst e;rw[θ ((hbt i).mpr ⟨hr,λz=>hn z.symm⟩)]
def V6(T:zr n ss ps g)(pw:Up os)(ho:∀q,q∈os↔∃i,aZ ss ps q i){K:List (Nat×Q3)}{k:Nat}{f:Q3×Q3}(hk:os[k]?=some f.2)(R:Kn ss ps (os.take k) K)(hf:bT ss ps f)(i:Nat):(i∈mQ ss f.2/\(bK K i).getD zQ.1=f.1)↔i∈zH ss f:=by
 rw[xg,YE];have lyq:∃i,aZ ss ps f.2 i:=let⟨i,_,h,_⟩:=hf;⟨i,h⟩;obtain⟨i0,l0⟩:=lyq;obtain⟨j0,k1,k2,k3,k4⟩:=hf;have hf:bT ss ps f:=⟨j0,k1,k2,k3,k4⟩
 constructor
 ·rintro⟨⟨⟨h1,h2⟩,h3⟩,h4⟩;obtain⟨p,p1,p2,p3⟩:=XY T pw ho hk (T.full h1 l0 h2) h3 R;rw[p3] at h4;have h4:p=f.1:=h4;exact⟨h1,by rw[<-h4];exact(T.lies p1).2.2,h2⟩
 ·rintro⟨h1,h2,h3⟩;obtain⟨m1,m2,m3⟩:=bT.nb T hf h1 h2 h3;have Px:(ss.getD i zQ).1≠f.2:=λz=>by
   obtain⟨_,i1,_⟩:=zj h2;rw[z,k3] at i1
   cases i1
  refine⟨⟨⟨h1,h3⟩,Px⟩,?_⟩;obtain⟨p,p1,p2,p3⟩:=XY T pw ho hk m2 Px R;rw[p3];show p=f.1;obtain⟨_,_,_,q3,_⟩:=id p2;have q3:bq p f.2=true:=q3;have pp:=(T.lies p1).2.1;have pf:=(T.lies m1).2.1;obtain⟨r1,r2,r3⟩:=bT.nb T p2 h1 (T.lies p1).2.2 h3;refine yn pp pf (λz=>r3 f.1 m1 z k3) λz=>m3 p p1 z q3
end
end Nu
end
section
variable{O:List ((Q3×Q3)×List Nat)}{ss:List (Q3×Q3)}
namespace Nu
def OS(O:List ((Q3×Q3)×List Nat))(s:Sl):Prop:=s=.ow false 2 (eO O)\/(O=[]/\s=.ow false 1 (.dT [] []))
theorem OS.as2{O:List ((Q3×Q3)×List Nat)}{s:Sl}(h:OS O s):as2 s=some (false,eO O):=by
 rcases h with rfl|⟨rfl,rfl⟩<;>rfl
def OS.frz{s:Sl}(h:OS O s):dq s=.fz (eO O):=by
 rcases h with rfl|⟨rfl,rfl⟩<;>rfl
noncomputable def eP(ss:List (Q3×Q3))(f:Q3×Q3):Dt:=.tuple [eS f,.list ((zH ss f).map eN)]
def lg(fs:List (Q3×Q3)):Prop:=fs.Pairwise λa b=>dg [a.1,a.2] [b.1,b.2]=true
def fI{α:Type}{f:α->Dt}(xs ys:List α)(h:xs.length+ys.length<=8000000):zR (.list (xs.map f)) (.list (ys.map f))=some (.list ((xs++ys).map f)):=by
 simp only[zR,kJ,θ (xj h),pD]
theorem OF{mA:Q3×Q3->Prop}{L:Q3×Q3->List Nat}(h:Wn O mA L){f:Q3×Q3}(hf:f∈O.map pH):yy (eO O) (eS f)=some (.list ((L f).map eN)):=by
 simp only[eO,yy,Wl,kG];have hv:=h.val;clear h
 induction O with
 |nil=>cases hf
 |cons x O ih=>
  rw[kZ,kZ,kZ,cq]
  by_cases c:k2 x.1=k2 f
  ·rw[θ c,hv x (by simp),XB c]
  ·rw[η c];rw[kZ] at hf;rcases kT.mp hf with z|z
   ·exact absurd (by rw[z]) c
   ·exact ih z λy hy=>hv y (by simp[hy])
theorem zbf{n:Nat}(hn:4*n+3<=8999)(ok:Ss n ss)(hl:ss.length<64)(fw:OD (4*n+3) ss):Gv (Ym [.list (ss.map eS)]) λd=>∃fs ps g,d=.list (fs.map (eP ss))/\zr n ss ps g/\lg fs/\(∀f,f∈fs↔bT ss ps f)/\fs.length<=1300000:=by
 obtain⟨d0,es,os,ps,g,rfl,T,up,ho,lo⟩:=zd3 hn ok hl fw;unfold Ym
 dsimp! [es]
 rw[uL];refine w5 (σ:=(List ((Q3×Q3)×List Nat)×Sl)×List (Nat×Q3)) (λs=>[.fz (.list (ss.map eS)),s.1.2,.ow false 1 (eR s.2),.un,.un,.un,.un,.un])
  (λi s=>Wn s.1.1 (λf=>bT ss ps f/\f.2∈os.take i) (zH ss)/\OS s.1.1 s.1.2/\Kn ss ps (os.take i) s.2/\s.1.1.length<=64*i/\s.2.length<=128*i) (([],.ow false 1 (.dT [] [])),[]) rfl
  ⟨⟨.nil,λf=>(by simp),λx hx=>(by cases hx)⟩,.inr ⟨rfl,rfl⟩,λi q _ h=>(by rw[Uc] at h;cases h),pL _,pL _⟩ (λi q s hi hs=>?_) λs hs=>?_
 ·obtain⟨⟨O,sO⟩,K⟩:=s;obtain⟨hO,hS,hR,lO,lK⟩:=hs;dsimp only at hO hS hR lO lK;have fL:=(kH.mp hi).1;have mq:q∈os:=kg hi;obtain⟨i0,Ts⟩:=(ho q).mp mq;have nq:q∉os.take i:=λz=>by have:=(xO up hi).1 z;rw[zq] at this;cases this
  have et:∀r,r∈os.take (i+1)↔r∈os.take i\/r=q:=λr=>by rw[pP,hi,pC];simp
  have l1:(fb ss q).length<=ss.length:=rR ss q;have l2:(iU ss q).length<=(fb ss q).length:=uF _ _;have l3:(rS ss q).length<=(fb ss q).length:=uF _ _;have l4:(u9 ss q).length<=(fb ss q).length:=uF _ _;have l5:(mQ ss q).length<=(fb ss q).length:=uF _ _;have Tt:∀k∈mQ ss q,∃p,aZ ss ps p k/\bT ss ps (p,q)/\bK K k=some p:=λk hk=>by
   obtain⟨⟨h1,h2⟩,h3⟩:=YE.mp hk;exact XY T up ho hi (T.full h1 Ts h2) h3 hR
  dsimp! [eT,fI _ _ (show(iU ss q).length+(rS ss q).length<=8000000 by lia),Km T hl q]
  rw[uL];refine w5 (σ:=List ((Q3×Q3)×List Nat)×Sl) (λs=>[.fz (.list (ss.map eS)),s.2,.ow false 1 (eR K),.fz (eQ q),.fz (.list ((u9 ss q).map eN)),.fz (.list ((iU ss q).map eN)),.fz (.list ((rS ss q).map eN)),.un])
   (λj s=>Wn s.1 (λf=>(bT ss ps f/\f.2∈os.take i)\/(f.2=q/\∃k∈(mQ ss q).take j,(bK K k).getD zQ.1=f.1)) (λf=>if f.2=q then((mQ ss q).take j).filter λk=>decide ((bK K k).getD zQ.1=f.1) else zH ss f)/\OS s.1 s.2/\s.1.length<=64*i+j) (O,sO) rfl
   ⟨hO.congr (λf=>by simp) (λf hf=>(η λz:f.2=q=>nq (by rw[<-z];exact hf.2)).symm),hS,lO⟩ (λj k s hj hs=>?_) λs hs=>?_
  ·obtain⟨O2,s2⟩:=s;obtain⟨oG,fH,Tu⟩:=hs;dsimp only at oG fH Tu;have i9:=(kH.mp hj).1;obtain⟨p,p1,p2,p3⟩:=Tt k (kg hj);have gk:yy (eR K) (eN k)=some (eQ p):=by rw[Zr,p3];rfl
   have rk:(bK K k).getD zQ.1=p:=by rw[p3];rfl
   have lf:(((mQ ss q).take j).filter λk=>decide ((bK K k).getD zQ.1=p)).length<=1000:=uR (uF _ _) (by rw[uC];lia)
   obtain⟨d,ed,O3,rfl,Tv,lO3⟩:=rW oG (p,q) k (λnm=>by
    rw[θ rfl];refine List.filter_eq_nil_iff.mpr λk' dH z=>nm (.inr ⟨rfl,k',dH,ξ z⟩)) (by lia) (by rw[θ rfl];exact lf)
   refine⟨_,?_,(O3,.ow false 2 (eO O3)),rfl,Tv.congr (λf=>?_) (λf hf=>?_),.inl rfl,by dsimp only;lia⟩
   ·dsimp! [YM,gk,fH.as2]
    rw[show Dt.tuple [eQ p,eQ q]=eS (p,q) from rfl,ed]
    dsimp! []
   ·rw[pP,hj];simp only[Bd,pC,pE]
    constructor
    ·rintro((z|⟨z1,k',z2,z3⟩)|z)
     ·exact .inl z
     ·exact .inr ⟨z1,k',.inl z2,z3⟩
     ·rw[z];exact .inr ⟨rfl,k,.inr rfl,rk⟩
    ·rintro(z|⟨z1,k',z2|z2,z3⟩)
     ·exact .inl (.inl z)
     ·exact .inl (.inr ⟨z1,k',z2,z3⟩)
     ·rw[z2,rk] at z3;exact .inr (Uy z3.symm z1)
   ·rw[pP,hj]
    by_cases c:f=(p,q)
    ·subst c;rw[θ rfl,θ rfl,θ rfl,Ei]
     congr 1
     show[k]=Fw _ [k]
     rw[UE,θ (ζ rk)];rfl
    ·rw[η c]
     by_cases c2:f.2=q
     ·rw[θ c2,θ c2,Ei];have:Fw (λk=>decide ((bK K k).getD zQ.1=f.1)) (some k).toList=[]:=by
       show Fw _ [k]=[]
       rw[UE,η λz=>c (Uy ((ξ z).symm.trans rk) c2)];rfl
      rw[this,Ab]
     ·rw[η c2,η c2]
  ·obtain⟨O2,s2⟩:=s;obtain⟨oG,fH,Tu⟩:=hs;dsimp only at oG fH Tu;rw[uc] at oG;have Tv:Wn O2 (λf=>bT ss ps f/\f.2∈os.take (i+1)) (zH ss):=oG.congr (λf=>by
    rw[et]
    constructor
    ·rintro(⟨z1,z2⟩|⟨z1,k,z2,z3⟩)
     ·exact⟨z1,.inl z2⟩
     ·obtain⟨p,p1,p2,p3⟩:=Tt k z2;rw[p3] at z3;have z3:p=f.1:=z3;have e:f=(p,q):=Uy z3.symm z1;rw[e];exact⟨p2,.inr rfl⟩
    ·rintro⟨z1,z2|z2⟩
     ·exact .inl ⟨z1,z2⟩
     ·obtain⟨k,m1,m2,m3,m4⟩:=id z1;have hk:k∈zH ss f:=xg.mpr ⟨(T.lies m1).1,(T.lies m1).2.2,(T.lies m2).2.2⟩;have:=(V6 T up ho (by rw[z2];exact hi) hR z1 k).mpr hk
      rw[z2] at this;exact .inr ⟨z2,k,this.1,this.2⟩) λf hf=>by
    by_cases c:f.2=q
    ·rw[θ c];have pf:bT ss ps f:=by
      rcases hf with z|⟨z1,k,z2,z3⟩
      ·exact z.1
      ·obtain⟨p,p1,p2,p3⟩:=Tt k z2;rw[p3] at z3;have z3:p=f.1:=z3;have e:f=(p,q):=Uy z3.symm z1;rw[e];exact p2
     have hh:=V6 T up ho (by rw[c];exact hi) hR pf
     unfold mQ zH at*;rw[c] at hh⊢;rw[List.filter_filter];refine List.filter_congr λk hk=>?_;have mT:=hh k;rw[pG,pG] at mT;rw[QL,pO,τ]
     constructor
     ·rintro⟨a,b⟩;exact(mT.mp ⟨⟨hk,b⟩,a⟩).2
     ·intro a;have:=mT.mpr ⟨hk,a⟩;exact⟨this.2,this.1.2⟩
    ·rw[η c]
   have km:=fI (f:=eN) (u9 ss q) (iU ss q) (by lia)
   dsimp! [km]
   refine w5 (σ:=List (Nat×Q3)) (λs=>[.fz (.list (ss.map eS)),s2,.ow false 1 (eR s),.fz (eQ q),.fz (.list ((u9 ss q).map eN)),.fz (.list ((iU ss q).map eN)),.fz (.list ((rS ss q).map eN)),.un])
    (λj s=>s.length<=128*i+j/\∀k,bK s k=if k∈(u9 ss q++iU ss q).take j then some q else bK K k) K rfl ⟨lK,λk=>by simp⟩ (λj k s hj hs=>?_) λs hs=>?_
   ·obtain⟨ls,hg⟩:=hs;have i9:=(kH.mp hj).1;rw[kb] at i9;obtain⟨K',e1,e2,e3⟩:=Kl (K:=s) k q (by lia)
    refine⟨_,?_,K',rfl,by lia,λk'=>?_⟩
    ·dsimp! [e1]
    ·rw[e3,hg,pP,hj];simp only[Bd,pC,pE]
     by_cases c:k'=k
     ·rw[θ c,θ (.inr c)]
     ·rw[η c]
      by_cases c2:k'∈(u9 ss q++iU ss q).take j
      ·rw[θ c2,θ (.inl c2)]
      ·rw[η c2,η (λz=>z.elim c2 c)]
   ·obtain⟨ls,hg⟩:=hs;rw[uc] at hg
    dsimp! []
    refine⟨_,rfl,((O2,s2),s),rfl,Tv,fH,Kn.next up hi (λk=>?_) hg hR,by dsimp only;lia,by rw[kb] at ls;dsimp only;lia⟩
    unfold u9 iU;rw[pC,pG,pG,vS];simp only[Fv,pO,UL,decide_eq_false_iff_not,τ]
    constructor
    ·rintro(⟨⟨h1,h2⟩,h3⟩|⟨⟨h1,h2⟩,h3,h4⟩)
     ·exact⟨T.full h1 Ts h2,λz=>Wc T h1 (h3.trans z.symm)⟩
     ·exact⟨T.full h1 Ts h2,h4⟩
    ·rintro⟨h1,h2⟩;obtain⟨a,_,b⟩:=T.lies h1
     by_cases c:(ss.getD k zQ).1=q
     ·exact .inl ⟨⟨a,b⟩,c⟩
     ·exact .inr ⟨⟨a,b⟩,c,h2⟩
 ·obtain⟨⟨O,sO⟩,K⟩:=s;obtain⟨hO,hS,hR,lO,lK⟩:=hs;dsimp only at hO hS hR lO lK;rw[uc] at hO;have hO:Wn O (bT ss ps) (zH ss):=hO.congr (λf=>⟨λz=>z.1,λz=>⟨z,let⟨k,_,h,_⟩:=z;(ho _).mpr ⟨k,h⟩⟩⟩) λ_ _=>rfl;have kl:yD [eO O]=some (.list ((O.map pH).map eS)):=by
   unfold eO yD;dsimp only;rw[θ,uE]
   ·rfl
   ·rw[uS];intro k hk;obtain⟨f,_,rfl⟩:=ki.mp hk;show(decide (2<=ψ)&&(decide (3<=ψ)&&(decide (3<=ψ)&&true)))=true;rw[ζ (xj (by decide:2<=8000000)),ζ (xj (by decide:3<=8000000))];rfl
  obtain⟨d,eb,fs,rfl,pm,upf⟩:=Kf (n:=4*n+3) (m:=2) hn (e:=eS) (pts:=λf=>[f.1,f.2]) zQ (λ_=>rfl) (λa b h=>by injection h with h1 h2;injection h2 with h2 _;exact Uy h1 h2) (xs:=O.map pH) (λf hf=>by
   obtain⟨k,m1,m2,_⟩:=(hO.mem f).mpr hf;intro p hp;simp only[kT,pe,or_false] at hp;rcases hp with rfl|rfl
   ·exact(T.lies m1).2.1
   ·exact(T.lies m2).2.1) (λ_ _=>pL _) (by rw[kJ];lia) hO.nd (fw.pc _ hO.nd λf hf=>(jA T).mp ((hO.mem f).mpr hf))
  simp only[cC,cm,Dm,Do,hS.frz]
  dsimp! [kl,eb]
  rw[zW (e:=eS) (h:=eP ss) λf hf=>by
   dsimp! [OF hO (pm.mem_iff.mp hf)]
   rfl]
  refine⟨_,rfl,fs,ps,g,rfl,T,upf,λf=>(pm.mem_iff).trans (hO.mem f).symm,?_⟩;rw[pm.length_eq,kJ];lia
def zcb{n:Nat}{ps:List (Nat×Nat)}{g:Int}(T:zr n ss ps g){fs:List (Q3×Q3)}(hf:∀f,f∈fs↔bT ss ps f)(fw:OD (4*n+3) ss)(os:List Q3)(nd:os.Nodup)(h:∀p∈os,p∈ye fs):os.length<wz:=fw.pt os nd λq hq=>by
 obtain⟨f,hm,z⟩:=QC.mp (h q hq);obtain⟨s,a,b,_⟩:=(jA T).mp ((hf f).mp hm);simp only[kT,pe,or_false] at z;rcases z with rfl|rfl
 ·exact⟨a.pq,a.st⟩
 ·exact⟨b.pq,b.st⟩
end Nu
end
section
variable{α:Type}
namespace Nu
theorem WA{p:Int->Option Bool}{c:Nat->Bool}{n:Nat}(hp:∀k,k<n->p (k:Int)=some (c k))(mono:∀k l,k<=l->l<n->c k=true->c l=true):∀(m lo hi:Nat),lo<=hi->hi<=n->hi-lo<m->(∀k,k<lo->c k=false)->(∀k,hi<=k->k<n->c k=true)->∃r:Nat,nG p m (lo:Int) (hi:Int)=some (r:Int)/\r<=n/\(∀k,k<r->c k=false)/\∀k,r<=k->k<n->c k=true
 |0,lo,hi,h1,h2,h3,_,_=>by lia
 |m+1,lo,hi,h1,h2,h3,h4,h5=>by
  unfold nG
  by_cases e:lo<hi
  ·rw[θ (by lia),show((lo:Int)+(hi:Int))/2=(((lo+hi)/2:Nat):Int) by lia,hp _ (by lia),kG]
   cases q:c ((lo+hi)/2) with
   |true=>
    rw[θ rfl];exact WA hp mono m lo ((lo+hi)/2) (by lia) (by lia) (by lia) h4 λk hk hn=>mono _ k hk hn q
   |false=>
    rw[η (by decide),show(((lo+hi)/2:Nat):Int)+1=(((lo+hi)/2+1:Nat):Int) by lia]
    refine WA hp mono m ((lo+hi)/2+1) hi (by lia) h2 (by lia) (λk hk=>?_) h5
    cases q2:c k with
    |false=>rfl
    |true=>rw[mono k _ (by lia) (by lia) q2] at q;cases q
  ·rw[η (by lia)]
   exact⟨lo,rfl,by lia,h4,λk hk hn=>h5 k (by lia) hn⟩
theorem JG{js:List Nat}{f g:En->Option Dt}{Z:En}{ss:List Sl}{n:Nat}{c:Nat->Bool}(hg:g Z=some (.int (n:Int)))(hs:xX js Z=some ss)(hp:∀k:Nat,k<n->(f (.fz (.int (k:Int))::ss)).bind fP=some (c k))(mono:∀k l,k<=l->l<n->c k=true->c l=true):∃r:Nat,wK js f g Z=some (.int (r:Int))/\r<=n/\(∀k,k<r->c k=false)/\∀k,r<=k->k<n->c k=true:=by
 obtain⟨r,e1,e2,e3,e4⟩:=WA (p:=λk=>(f (.fz (.int k)::ss)).bind fP) (n:=n) (c:=c) hp mono (n+1) 0 n (ui _) (pL _) (by lia) (λk hk=>by lia) (λk hk hn=>by lia)
 refine⟨r,?_,e2,e3,e4⟩;unfold wK;rw[hg,kG];show(xX js Z).bind _=_;rw[hs,kG,uk];have e1:nG (λk=>(f (.fz (.int k)::ss)).bind fP) (n+1) 0 (n:Int)=some (r:Int):=e1;rw[e1];rfl
def mB{a b:Nat}(ha:a<4)(hb:b<4):w6 (eN a) (eN b)=some (eN (a^^^b))/\a^^^b<4:=by
 have key:∀a b:Fin 4,Dq ((a.val:Nat):Int) ((b.val:Nat):Int)=((a.val^^^b.val:Nat):Int)/\a.val^^^b.val<4:=by decide+kernel
 obtain⟨k1,k2⟩:=key ⟨a,ha⟩ ⟨b,hb⟩;refine⟨?_,k2⟩;show some (Dt.int (Dq (a:Int) (b:Int)))=_;rw[k1];rfl
noncomputable def xs(l:List Nat):Nat:=l.foldl (·^^^·) 0
theorem V0(l:List Nat):∀a,l.foldl (·^^^·) a=a^^^xs l:=by
 unfold xs
 induction l with
 |nil=>intro a;simp
 |cons b l ih=>
  intro a;rw[Ae,Ae,ih (a^^^b),ih (0^^^b),HC,Cp]
def xS(a:Nat)(l:List Nat):xs (a::l)=a^^^xs l:=by
 unfold xs;rw[Ae,V0];unfold xs;rw[HC]
def WZ(a b:List Nat):xs (a++b)=xs a^^^xs b:=by
 unfold xs;rw[FJ,V0];rfl
theorem rX{a b:List Nat}(h:a.Perm b):xs a=xs b:=by
 induction h with
 |nil=>rfl
 |cons x _ ih=>rw[xS,xS,ih]
 |swap x y l=>rw[xS,xS,xS,xS,<-Cp,<-Cp,Nat.xor_comm y x]
 |trans _ _ i1 i2=>rw[i1,i2]
theorem jR:∀{l:List Nat},(∀a∈l,a<4)->xs l<4
 |[],_=>by decide
 |a::l,h=>by rw[xS];exact(mB (h a (by simp)) (jR λb hb=>h b (by simp[hb]))).2
def zcq{l:List Nat}(h:∀a∈l,a<4):qQ [.list (l.map eN)]=some (eN (xs l)):=by
 suffices Gv (qQ [.list (l.map eN)]) λd=>d=eN (xs l) by obtain⟨d,e,rfl⟩:=this;exact e
 unfold qQ
 dsimp! []
 rw[uL];refine xz (σ:=Nat) (λs=>[.fz (.list (l.map eN)),.fz (eN s),.un]) (λi s=>s=xs (l.take i)) 0 rfl rfl (λi a s hi hs=>?_) λs hs=>?_
 ·have lt:s<4:=by rw[hs];exact jR λb hb=>h b (UK hb)
  obtain⟨x1,x2⟩:=mB lt (h a (kg hi));refine⟨s^^^a,?_,?_⟩
  ·dsimp! [x1]
  ·rw[hs,pP,hi,WZ]
   congr 1
   show a=xs [a]
   rw[xS];simp[xs]
 ·rw[uc] at hs;subst hs
  dsimp! []
  exact⟨_,rfl,rfl⟩
structure Ap(m:Nat)(fs:List (Q3×Q3)):Prop where
 ok:Ss m fs
 nd:fs.Nodup
 ap:∀e∈fs,∀f∈fs,e≠f->Tc e f
noncomputable def bU(s:Q3×Q3):Bool:= !decide (s.1.x*s.2.w=s.2.x*s.1.w)
def Ko{s:Q3×Q3}(h1:SQ s.1)(h2:SQ s.2):YS [eS s]=some (.bool (!bU s)):=by
 obtain⟨a1,_⟩:=fG h1 h2;obtain⟨b1,_⟩:=fG h2 h1;unfold YS bU
 dsimp! [zJ,zU,xm,xa,a1,b1,yh,HD]
def WU{m:Nat}{s:Q3×Q3}(h:bq s.1 s.2=true):LP (dX s.1 s.2) (dY s.1 s.2):=by
 have:=xv.mp h;unfold Lt at this;rw[gA,gA] at this;exact this
def Ap.fan{m:Nat}{fs:List (Q3×Q3)}(A:Ap m fs){e f:Q3×Q3}(he:e∈fs)(hf:f∈fs)(ne:e≠f)(h:e.1=f.1):dt e.1 e.2 f.2≠0:=λz=>by
 obtain⟨e1,e2,e3⟩:=A.ok e he;obtain⟨f1,f2,f3⟩:=A.ok f hf;rcases A.ap e he f hf ne with q|q|⟨q,_⟩
 ·rw[h] at e3;rw[zt e3] at q;cases q
 ·rw[<-h] at f3;rw[zt f3] at q;cases q
 ·have z0:dt e.1 e.2 f.1=0:=by rw[<-h];exact yI _ _
  rcases q ⟨by rw[z0];rfl,by rw[z];rfl⟩ with q|q
  ·rw[<-h] at q;rw[q,zq] at e3;cases e3
  ·rw[h] at q;rw[q,zq] at f3;cases f3
theorem Kp{p a b c:Q3}(ha:bq p a=true)(hb:bq p b=true)(hc:bq p c=true)(h1:0<dt p a b)(h2:0<dt p b c):0<dt p a c:=by
 have e1:=sc (s:=1) (S8 p b a c);have e2:=sc (s:=1) (S9 p b a c);have sw: -dt p b a=dt p a b:=by
  have:=I3 p a b;have:=rA p b a;have r1:dt p b a= -dt p a b:=by unfold dt aE br bu bx;grind
  lia
 rw[sw] at e1 e2;exact rz e1 e2 (xv.mp hb) (xv.mp ha) (xv.mp hc) (kM h2) h1
theorem Jj(p a b:Q3):dt p b a= -dt p a b:=by unfold dt aE br bu bx;grind
structure Mb(fs:List (Q3×Q3))(t:Nat)(p:Q3)(l:List Nat):Prop where
 nd:l.Nodup
 mem:∀k,k∈l↔k<t/\k<fs.length/\(fs.getD k zQ).1=p
 up:l.Pairwise λa b=>0<dt p (fs.getD a zQ).2 (fs.getD b zQ).2
def qT{l:List α}(nd:l.Nodup)(d0:α){i j:Nat}(hi:i<l.length)(hj:j<l.length)(e:l.getD i d0=l.getD j d0):i=j:=by
 rw[kE,kE,kC hi,kC hj] at e;have e:l[i]=l[j]:=e;rcases gu i j with z|z|z
 ·exact absurd e (pI.mp nd i j hi hj z)
 ·exact z
 ·exact absurd e.symm (pI.mp nd j i hj hi z)
theorem rY{f:Q3->Dt}{qs:List Q3}{p:Q3}{v:Dt}(l:qs.length<ψ):xi (.dT (qs.map kQ) (qs.map f)) (eQ p) v=some (.dT ((if p∈qs then qs else qs++[p]).map kQ) ((if p∈qs then qs else qs++[p]).map λq=>if q=p then v else f q)):=by
 simp only[xi,wY,kG];rw[θ (by rw[kJ];exact l)]
 unfold pK pV
 by_cases c:p∈qs
 ·rw[θ (wP.mpr c),θ (wP.mpr c),θ c]
  congr 2
  clear c l
  induction qs with
  |nil=>rfl
  |cons q qs ih=>
   rw[kZ,kZ,UT,kZ,ih]
   by_cases e:q=p
   ·rw[θ (by rw[e]),θ e]
   ·rw[η λz=>e (qz z),η e]
 ·rw[η λz=>c (wP.mp z),η λz=>c (wP.mp z),η c,pD,pD]
  congr 2
  congr 1
  ·exact QS λq hq=>(η λz:q=p=>c (by rw[<-z];exact hq)).symm
  ·rw[Ej,θ rfl]
theorem rZ{f:α->Dt}(l:List α)(r:Nat)(h:r<=l.length):y0 (l.map f) none (some (r:Int))=(l.take r).map f/\y0 (l.map f) (some (r:Int)) none=(l.drop r).map f:=by
 have e:fR l.length 0 (some (r:Int))=r:=by unfold fR;dsimp only;rw[η (by lia)];lia
 have e2:fR l.length l.length (some (r:Int))=r:=by unfold fR;dsimp only;rw[η (by lia)];lia
 have e0:fR l.length 0 none=0:=rfl;have e3:fR l.length l.length none=l.length:=rfl;unfold y0;rw[kJ,e,e2,e0,e3]
 constructor
 ·rw[GV,Nat.sub_zero,Gh]
 ·rw[Gi,BJ (by rw[UC,kJ];lia)]
def yW{l:List α}{i:Nat}(d0:α)(h:i<l.length):l.getD i d0=l[i]:=by rw[kE,kC h];rfl
def OG{f:α->Dt}{xs:List α}{i:Nat}(d0:α)(h:i<xs.length):af (.list (xs.map f)) (.int (i:Int))=some (f (xs.getD i d0)):=dN d0 h
noncomputable def eF(l:List Nat):Dt:=.list (l.map eN)
def xZ{f:α->Dt}(l:List α):zu [.list (l.map f)]=some (eN l.length):=by
 show some (Dt.int ((l.map f).length:Nat))=_
 rw[kJ];rfl
theorem r6{m:Nat}(hm:m<=100000){fs:List (Q3×Q3)}(A:Ap m fs)(hl:fs.length<=2000000):Gv (Ya [.list (fs.map eS)]) λd=>∃(qs:List Q3)(Fn:Q3->List Nat),d=.dT (qs.map kQ) (qs.map λp=>eF (Fn p))/\(∀p,p∈qs↔∃k,k<fs.length/\(fs.getD k zQ).1=p)/\∀p,Mb fs fs.length p (Fn p):=by
 have sq:∀k,k<fs.length->SQ (fs.getD k zQ).1/\SQ (fs.getD k zQ).2/\bq (fs.getD k zQ).1 (fs.getD k zQ).2=true:=λk hk=>by
  obtain⟨h1,h2,h3⟩:=A.ok _ (zg hk);exact⟨SQ.of h1 hm,SQ.of h2 hm,h3⟩
 unfold Ya
 dsimp! [VW zQ]
 rw[uL];refine xz (σ:=List Q3×(Q3->List Nat)) (λs=>[.fz (.list (fs.map eS)),.ow false 1 (.dT (s.1.map kQ) (s.1.map λp=>eF (s.2 p))),.un,.un,.un,.un]) (λt s=>(∀p,p∈s.1↔∃k,k<t/\k<fs.length/\(fs.getD k zQ).1=p)/\(∀p,Mb fs t p (s.2 p))/\s.1.length<=t) ([],λ_=>[]) rfl
  ⟨λp=>⟨λh=>(by cases h),λ⟨k,h,_⟩=>(by lia)⟩,λp=>⟨.nil,λk=>⟨λh=>(by cases h),λh=>(by lia)⟩,.nil⟩,pL _⟩ (λt k s ht hs=>?_) λs hs=>?_
 ·obtain⟨qs,Fn⟩:=s;obtain⟨hq,hF,lq⟩:=hs;dsimp only at hq hF lq;have Mc:t<fs.length:=by have:=(kH.mp ht).1;rwa [pM] at this
  rw[uA Mc] at ht
  cases ht;generalize es:fs.getD t zQ=S at*;obtain⟨s1,s2,s3⟩:=sq t Mc;rw[es] at s1 s2 s3;have F:=hF S.1;have fK:∀k∈Fn S.1,k<fs.length/\(fs.getD k zQ).1=S.1:=λk hk=>((F.mem k).mp hk).2;have lF:(Fn S.1).length<=t:=jK F.nd λk hk=>((F.mem k).mp hk).1;have gf:∀z,(yf (.dT (qs.map kQ) (qs.map λp=>eF (Fn p))) (eQ S.1)).bind (λc=>if c=true then yy (.dT (qs.map kQ) (qs.map λp=>eF (Fn p))) (eQ S.1) else some z)=if S.1∈qs then some (eF (Fn S.1)) else some z:=λz=>by
   rw[qB,kG]
   by_cases c:S.1∈qs
   ·rw[θ (ζ c),θ c,jr (f:=λp=>eF (Fn p)) c]
   ·rw[η (by simp[c]),η c]
  have gf2:(if S.1∈qs then some (eF (Fn S.1)) else some (.list []))=some (eF (Fn S.1)):=by
   by_cases c:S.1∈qs
   ·rw[θ c]
   ·rw[η c];have:Fn S.1=[]:=BZ.mpr λk hk=>c ((hq _).mpr ⟨k,(F.mem k).mp hk⟩);rw[this];rfl
  let c:Nat->Bool:=λj=>decide (0<dt S.1 S.2 (fs.getD ((Fn S.1).getD j 0) zQ).2)
  have gj:∀j,j<(Fn S.1).length->(Fn S.1).getD j 0∈Fn S.1:=λj hj=>by rw[kE,kC hj];exact pi hj
  obtain⟨r,e1,e2,e3,e4⟩:=JG (js:=[0,4,3]) (f:=d2 lC (aj qJ (aa (d2 af (dV 3) (dC (.int 0))) (aa (d2 af (dV 3) (dC (.int 1))) (aa (d2 af (d2 af (dV 1) (d2 af (dV 2) (dV 0))) (dC (.int 1))) ae)))) (dC (.int 0))) (g:=aj zu (aa (dV 4) ae)) (Z:=[.fz (.list (fs.map eS)),.ow false 1 (.dT (qs.map kQ) (qs.map λp=>eF (Fn p))),.fz (eN t),.fz (eS S),.fz (.list ((Fn S.1).map eN)),.un]) (ss:=[.fz (.list (fs.map eS)),.fz (.list ((Fn S.1).map eN)),.fz (eS S)]) (c:=c) (n:=(Fn S.1).length) (by dsimp! [xZ];rfl) rfl (λj hj=>by
    have hh:=fK _ (gj j hj);have ix1:=OG (f:=eN) 0 hj;have ix2:=dN (f:=eS) zQ hh.1;have q:=sq _ hh.1;have sp:∀z:Int,decide (0<aw z)=decide (0<z):=λz=>by
     rcases xC z with⟨h,e⟩|⟨h,e⟩|⟨h,e⟩<;>rw[e]<;>exact ω.mpr (by lia)
    dsimp! [zJ,zU,eF,ix1,ix2,rE s1 s2 q.2.1,jO,sp]
    rfl) (λa b ab hb ha=>by
    rcases Aj ab with ab|rfl
    ·have ma:=fK _ (gj a (by lia))
     have mb:=fK _ (gj b hb);have u:0<dt S.1 (fs.getD ((Fn S.1).getD a 0) zQ).2 (fs.getD ((Fn S.1).getD b 0) zQ).2:=by
      have:=pI.mp F.up a b (by lia) hb ab
      rw[yW 0 (by lia:a<(Fn S.1).length),yW 0 hb]
      exact this
     have qa:=(sq _ ma.1).2.2;have qb:=(sq _ mb.1).2.2;rw[ma.2] at qa;rw[mb.2] at qb;exact ζ (Kp s3 qa qb (ξ ha) u)
    ·exact ha)
  obtain⟨c1,c2⟩:=rZ (f:=eN) (Fn S.1) r e2
  let nf:=(Fn S.1).take r++[t]++(Fn S.1).drop r
  have lt1:((Fn S.1).take r).length<=t:=by rw[uC];lia
  refine⟨(if S.1∈qs then qs else qs++[S.1],λp=>if p=S.1 then nf else Fn p),?_,λp=>?_,λp=>?_,?_⟩
  ·have lk1:((Fn S.1).take r).length+[t].length<=8000000:=by simp only[uh];lia
   have lk2:((Fn S.1).take r++[t]).length+((Fn S.1).drop r).length<=8000000:=by rw[kb,UC,uh];lia
   have Q5:=fI (f:=eN) ((Fn S.1).take r) [t] lk1;have Tw:=fI (f:=eN) ((Fn S.1).take r++[t]) ((Fn S.1).drop r) lk2;have pt:=rY (f:=λp=>eF (Fn p)) (qs:=qs) (p:=S.1) (v:=.list (((Fn S.1).take r++[t]++(Fn S.1).drop r).map eN)) (xd (by lia))
   rw[Ej] at Q5
   dsimp! [zJ,gf,gf2]
   simp only[eF] at e1 pt⊢
   dsimp! [e1,fS,oN,oS,Pl,c1,c2,Q5,Tw,zJ,pt]
   congr 5
   refine QS λp _=>?_;show _=Dt.list ((if p=S.1 then nf else Fn p).map eN)
   by_cases e:p=S.1
   ·rw[θ e,θ e]
   ·rw[η e,η e]
  ·have kk:(∃k,k<t+1/\k<fs.length/\(fs.getD k zQ).1=p)↔p∈qs\/p=S.1:=by
    rw[hq]
    constructor
    ·rintro⟨k,h1,h2,h3⟩
     by_cases e:k=t
     ·rw[e,es] at h3;exact .inr h3.symm
     ·exact .inl ⟨k,by lia,h2,h3⟩
    ·rintro(⟨k,h1,h2,h3⟩|h)
     ·exact⟨k,by lia,h2,h3⟩
     ·exact⟨t,by lia,Mc,by rw[es];exact h.symm⟩
   rw[kk];show p∈(if S.1∈qs then qs else qs++[S.1])↔_
   by_cases c:S.1∈qs
   ·rw[θ c];exact⟨.inl,λh=>h.elim id λh=>h▸c⟩
   ·rw[η c,pC,pE]
  ·show Mb fs (t+1) p (if p=S.1 then nf else Fn p)
   by_cases e:p=S.1
   ·rw[θ e];subst e;have mt:t∉Fn S.1:=λz=>by have:=((F.mem t).mp z).1;lia
    have pm:nf.Perm (t::Fn S.1):=by
     show((Fn S.1).take r++[t]++(Fn S.1).drop r).Perm _
     rw[Ca,List.singleton_append];refine Ff.trans ?_;rw[Qz]
    refine⟨pm.nodup_iff.mpr (uU.mpr ⟨mt,F.nd⟩),λk=>?_,?_⟩
    ·rw[pm.mem_iff,kT,F.mem]
     constructor
     ·rintro(h|⟨h1,h2,h3⟩)
      ·rw[h];exact⟨by lia,Mc,by rw[es]⟩
      ·exact⟨by lia,h2,h3⟩
     ·rintro⟨h1,h2,h3⟩
      by_cases c:k=t
      ·exact .inl c
      ·exact .inr ⟨by lia,h2,h3⟩
    ·show((Fn S.1).take r++[t]++(Fn S.1).drop r).Pairwise _
     have hn:∀k∈Fn S.1,fs.getD k zQ≠S:=λk hk z=>by
      have h1:=(F.mem k).mp hk;have:=qT A.nd zQ h1.2.1 Mc (by rw[z,es])
      lia
     have mS:S∈fs:=by rw[<-es];exact zg Mc
     have OH:∀k∈(Fn S.1).take r,0<dt S.1 (fs.getD k zQ).2 S.2:=λk hk=>by
      obtain⟨j,hj⟩:=pF.mp hk;rw[gI] at hj
      by_cases lj:j<r
      ·rw[θ lj] at hj;have i9:=(kH.mp hj).1;have ej:(Fn S.1).getD j 0=k:=by rw[kE,hj];rfl
       have z:=of_decide_eq_false (e3 j lj);rw[ej] at z;have dH:=UK hk;have hh:=fK k dH;have nz:=A.fan mS (zg hh.1) (λq=>hn k dH q.symm) hh.2.symm;rw[Jj];lia
      ·rw[η lj] at hj;cases hj
     have Kq:∀k∈(Fn S.1).drop r,0<dt S.1 S.2 (fs.getD k zQ).2:=λk hk=>by
      obtain⟨j,hj⟩:=pF.mp hk;rw[Ub] at hj;have i9:=(kH.mp hj).1;have ej:(Fn S.1).getD (r+j) 0=k:=by rw[kE,hj];rfl
      have z:=ξ (e4 (r+j) (by lia) i9)
      rw[ej] at z;exact z
     have up:=F.up;rw[<-Qz r (Fn S.1),Ql] at up;rw[Ql,Ql];refine⟨⟨up.1,QK _ _,λa ha b hb=>?_⟩,up.2.1,λa ha b hb=>?_⟩
     ·rw[pE.mp hb,es];exact OH a ha
     ·rcases pC.mp ha with ha|ha
      ·exact up.2.2 a ha b hb
      ·rw[pE.mp ha,es];exact Kq b hb
   ·rw[η e];have F':=hF p;refine⟨F'.nd,λk=>?_,F'.up⟩;rw[F'.mem]
    constructor
    ·rintro⟨h1,h2,h3⟩;exact⟨by lia,h2,h3⟩
    ·rintro⟨h1,h2,h3⟩;refine⟨?_,h2,h3⟩
     by_cases c:k=t
     ·rw[c,es] at h3;exact absurd h3.symm e
     ·lia
  ·show(if S.1∈qs then qs else qs++[S.1]).length<=t+1
   by_cases c:S.1∈qs
   ·rw[θ c];lia
   ·rw[η c,kb,uh];lia
 ·obtain⟨qs,Fn⟩:=s;obtain⟨hq,hF,lq⟩:=hs;dsimp only at hq hF lq;rw[pM] at hq hF
  dsimp! []
  refine⟨_,rfl,qs,Fn,rfl,λp=>?_,hF⟩;rw[hq];exact⟨λ⟨k,h1,_,h3⟩=>⟨k,h1,h3⟩,λ⟨k,h1,h3⟩=>⟨k,h1,h1,h3⟩⟩
end Nu
end
section
namespace Nu
def Md(a b:Q3×Q3):Prop:=(0<=dt a.1 a.2 b.1/\0<=dt a.1 a.2 b.2)\/(dt b.1 b.2 a.1<=0/\dt b.1 b.2 a.2<=0)
theorem zO{a b:Q3}(h:bq a b=true):0<=dX a b:=by
 have:=xv.mp h;unfold Lt LP at this;simp only[gA] at this;lia
theorem vM{a b:Q3}(h:bq b a=false):0<=dX a b:=by
 unfold bq at h;rw[vi] at h;unfold dX;lia
theorem jY{s:Q3×Q3}(h:bq s.1 s.2=true)(l:bU s=true):0<dX s.1 s.2:=by
 have h0:=zO h;unfold bU at l;rw[UL,decide_eq_false_iff_not] at l;unfold dX at*;lia
theorem Kr{a b:Q3×Q3}{p:Q3}(ha:0<dX a.1 a.2)(hb:0<dX b.1 b.2)(a1:0<=dX a.1 p)(a2:0<=dX p a.2)(b1:0<=dX b.1 p)(b2:0<=dX p b.2)(h:Md a b):(dt a.1 a.2 p<=0->dt b.1 b.2 p<=0)/\(dt a.1 a.2 p<0->dt b.1 b.2 p<0):=by
 have pos:∀{x y:Int},0<=x->0<=y->0<=x*y:=λh1 h2=>kz h1 h2;have nle:∀{x y:Int},0<y->x*y<=0->x<=0:=λ{x y} hy h=>DZ.mp λz=>by have:=kf z hy;lia
 have nlt:∀{x y:Int},0<y->x*y<0->x<0:=λ{x y} hy h=>Da.mp λz=>by have:=kz z (kM hy);lia
 rcases h with⟨h1,h2⟩|⟨h1,h2⟩
 ·have e:=y8 a.1 a.2 b.1 b.2 p;have q1:=pos h1 b2;have q2:=pos h2 b1;refine⟨λz=>nle ha ?_,λz=>nlt ha ?_⟩
  ·have:=kj z (kM hb);lia
  ·have:=kx z hb;lia
 ·have e:=y8 b.1 b.2 a.1 a.2 p;have q1:=kj h1 a2;have q2:=kj h2 a1;refine⟨λz=>nle ha ?_,λz=>nlt ha ?_⟩
  ·have:=kj z (kM hb);lia
  ·have:=kx z hb;lia
theorem wE{x y:Int}(h:aw x=aw y):(0<x/\0<y)\/(x<0/\y<0)\/(x=0/\y=0):=by
 rcases xC x with⟨a,b⟩|⟨a,b⟩|⟨a,b⟩<;>rcases xC y with⟨c,d⟩|⟨c,d⟩|⟨c,d⟩<;>rw[b,d] at h<;>lia
section
variable{m:Nat}{fs:List (Q3×Q3)}(A:Ap m fs){o z:Q3×Q3}{p:Q3}(ho:o∈fs)(hz:z∈fs)
include A ho hz
theorem Y4(hp:p=z.1\/p=z.2)(b1:bq o.1 p=true)(b2:bq o.2 p=false)(h0:dt o.1 o.2 p=0):o.2=p:=by
 obtain⟨o1,o2,o3⟩:=A.ok o ho;obtain⟨z1,z2,z3⟩:=A.ok z hz;have pp:PQ m p:=by rcases hp with e|e<;>rw[e]<;>assumption
 cases b3:bq p o.2 with
 |false=>exact xh o2 pp b2 b3
 |true=>
  exfalso
  have ne:o≠z:=λe=>by
   subst e;rcases hp with e|e
   ·rw[e,zq] at b1;cases b1
   ·rw[e,zq] at b3;cases b3
  have c1:∀{q:Q3},PQ m q->bq q p=true\/q=p->bq q o.2=true:=λ{q} hq h=>by
   rcases h with h|h
   ·exact yt hq pp o2 h b3
   ·rw[h];exact b3
  have c2:∀{q:Q3},PQ m q->bq p q=true\/q=p->bq o.1 q=true:=λ{q} hq h=>by
   rcases h with h|h
   ·exact yt o1 pp hq b1 h
   ·rw[h];exact b1
  have zlo:bq z.1 p=true\/z.1=p:=by
   rcases hp with e|e
   ·exact .inr e.symm
   ·rw[e];exact .inl z3
  have zhi:bq p z.2=true\/z.2=p:=by
   rcases hp with e|e
   ·rw[e];exact .inl z3
   ·exact .inr e.symm
  have k1:=c1 z1 zlo;have k2:=c2 z2 zhi;rcases A.ap o ho z hz ne with q|q|⟨q1,q2⟩
  ·rw[zt k1] at q;cases q
  ·rw[zt k2] at q;cases q
  have col:¬(dt o.1 o.2 z.1=0/\dt o.1 o.2 z.2=0):=λ⟨w1,w2⟩=>by
   rcases q1 ⟨by rw[w1];rfl,by rw[w2];rfl⟩ with q|q
   ·rw[q,zq] at k1;cases k1
   ·rw[q,zq] at k2;cases k2
  have nc:¬(aw (dt o.1 o.2 z.1)=0/\aw (dt o.1 o.2 z.2)=0):=λ⟨w1,w2⟩=>col ⟨zL.mp w1,zL.mp w2⟩;rcases q2 nc with q|q|q
  ·rcases hp with e|e
   ·rw[<-e,h0] at q col;exact col ⟨rfl,zL.mp q.symm⟩
   ·rw[<-e,h0] at q col;exact col ⟨zL.mp q,rfl⟩
  ·have zp:dt z.1 z.2 p=0:=by
    rcases hp with e|e
    ·rw[e];exact yI _ _
    ·rw[e];exact yo _ _
   have e1:=y8 z.1 z.2 o.1 o.2 p;have e2:=jU z.1 z.2 o.1 o.2 p;rw[zp,h0] at e1 e2;simp only[pY,BE] at e1 e2;have L1:=xv.mp b1;have L2:=xv.mp b3;unfold Lt LP at L1 L2;simp only[gA] at L1 L2;have I6:dt z.1 z.2 o.1=0/\dt z.1 z.2 o.2=0:=by
    have pos:∀{x y:Int},0<x->0<y->0<x*y:=λh1 h2=>kf h1 h2;rcases wE q with⟨s1,s2⟩|⟨s1,s2⟩|s
    ·exfalso
     rcases L2 with l|⟨l,l'⟩
     ·have:=pos s1 l;have:=kz (kM s2) (zO b1);lia
     ·rw[l,ph] at e1;have f0:dX o.1 p=0:=by
       rcases kX.mp (show dt z.1 z.2 o.2*dX o.1 p=0 by lia) with w|w
       ·lia
       ·exact w
      have f1:0<dY o.1 p:=by lia
      have:=pos s1 l';have:=pos s2 f1;lia
    ·exfalso
     have di:∀{x y:Int},x<0->0<y->x*y<0:=λh1 h2=>kx h1 h2;rcases L2 with l|⟨l,l'⟩
     ·have:=di s1 l;have:=kj (kM s2) (zO b1);lia
     ·rw[l,ph] at e1;have f0:dX o.1 p=0:=by
       rcases kX.mp (show dt z.1 z.2 o.2*dX o.1 p=0 by lia) with w|w
       ·lia
       ·exact w
      have f1:0<dY o.1 p:=by lia
      have:=di s1 l';have:=di s2 f1;lia
    ·exact s
   exact col (vP z1 z2 z3 I6.1 I6.2)
  ·have on:∀{w:Q3},w=o.1\/w=o.2->dt o.1 o.2 w=0:=λ{w} h=>by
    rcases h with e|e
    ·rw[e];exact yI _ _
    ·rw[e];exact yo _ _
   have pz:(p=z.1->dt o.1 o.2 z.1=0)/\(p=z.2->dt o.1 o.2 z.2=0):=⟨λe=>by rw[<-e];exact h0,λe=>by rw[<-e];exact h0⟩
   have n1:o.1≠p:=λe=>by rw[e,zq] at b1;cases b1
   have n2:o.2≠p:=λe=>by rw[e,zq] at b3;cases b3
   rcases hp with e|e
   ·refine col ⟨pz.1 e,on ?_⟩;rcases q with(q|q)|(q|q)
    ·exact absurd (q.trans e.symm) n1
    ·exact .inl q.symm
    ·exact absurd (q.trans e.symm) n2
    ·exact .inr q.symm
   ·refine col ⟨on ?_,pz.2 e⟩;rcases q with(q|q)|(q|q)
    ·exact .inl q.symm
    ·exact absurd (q.trans e.symm) n1
    ·exact .inr q.symm
    ·exact absurd (q.trans e.symm) n2
theorem r7(lo:0<dX o.1 o.2)(lz:0<dX z.1 z.2)(b1:bq o.1 z.1=true)(b2:bq z.1 o.2=true):(0<dt o.1 o.2 z.1->Md o z)/\(dt o.1 o.2 z.1<0->Md z o):=by
 obtain⟨o1,o2,o3⟩:=A.ok o ho;obtain⟨z1,z2,z3⟩:=A.ok z hz;have ne:o≠z:=λe=>by subst e;rw[zq] at b1;cases b1
 have k2:=yt o1 z1 z2 b1 z3;rcases A.ap o ho z hz ne with q|q|⟨_,q2⟩
 ·rw[zt b2] at q;cases q
 ·rw[zt k2] at q;cases q
 have main:dt o.1 o.2 z.1≠0->aw (dt o.1 o.2 z.1)=aw (dt o.1 o.2 z.2)\/aw (dt z.1 z.2 o.1)=aw (dt z.1 z.2 o.2)\/o.2=z.2:=λnz=>by
  rcases q2 (λw=>nz (zL.mp w.1)) with q|q|(q|q)|q|q
  ·exact .inl q
  ·exact .inr (.inl q)
  ·rw[q,zq] at b1;cases b1
  ·rw[q,zq] at k2;cases k2
  ·rw[q,zq] at b2;cases b2
  ·exact .inr (.inr q)
 have e:=y8 z.1 z.2 o.1 o.2 z.1;rw[yI,pY] at e;have d1:=zO b1;have d2:=zO b2
 constructor
 ·intro h;rcases main (by lia) with q|q|q
  ·rcases wE q with s|s|s
   ·exact .inl ⟨by lia,by lia⟩
   ·lia
   ·lia
  ·have p1:=kf h lz;rcases wE q with s|s|s
   ·have:=kz (kM s.1) d2;have:=kz (kM s.2) d1;lia
   ·exact .inr ⟨by lia,by lia⟩
   ·exact .inr ⟨by lia,by lia⟩
  ·exact .inl ⟨by lia,by rw[<-q,yo];exact hW _⟩
 ·intro h;rcases main (by lia) with q|q|q
  ·rcases wE q with s|s|s
   ·lia
   ·exact .inr ⟨by lia,by lia⟩
   ·lia
  ·have p1:=kx h lz;rcases wE q with s|s|s
   ·exact .inl ⟨by lia,by lia⟩
   ·have:=kj (kM s.1) d2;have:=kj (kM s.2) d1;lia
   ·exact .inl ⟨by lia,by lia⟩
  ·exact .inr ⟨by lia,by rw[<-q,yo];exact hW _⟩
end
end Nu
variable{ms:List Nat}
namespace Nu
noncomputable def ie(x:Nat×Nat):Dt:=.tuple [eN x.1,eN x.2]
noncomputable def xU(fs:List (Q3×Q3))(i j:Nat):Bool:=
 (bU (fs.getD j zQ)&&(bq (fs.getD j zQ).1 (fs.getD i zQ).1&&(bq (fs.getD i zQ).1 (fs.getD j zQ).2&&decide (dt (fs.getD j zQ).1 (fs.getD j zQ).2 (fs.getD i zQ).1<0))))||
 (decide ((fs.getD j zQ).1=(fs.getD i zQ).1)&&decide (0<dt (fs.getD i zQ).1 (fs.getD i zQ).2 (fs.getD j zQ).2))
noncomputable def vd(fs:List (Q3×Q3))(ms:List Nat)(i:Nat):Nat:=xs (((kN fs.length).filter (xU fs i)).map λj=>ms.getD j 0)
noncomputable def spT(fs:List (Q3×Q3))(ms:List Nat)(i:Nat):Nat×Nat:=(vd fs ms i,vd fs ms i^^^ms.getD i 0)
theorem qE(a b:Nat):cz (eN a) (eN b)=some (.bool (decide (a<b))):=by
 show some (Dt.bool (decide ((a:Int)<(b:Int))))=_
 congr 2
 exact ω.mpr (by lia)
def Ks(h:Nat):mI (λi j=>i+j) (eN h) (.int 1)=some (eN (h+1)):=rfl
noncomputable def Kt:En->Option Bool:=bM (dB (d2 cz (dV 8) (aj zu (aa (aA 5) ae)))) (dB (d2 cI (d2 af (d2 af (dV 0) (d2 af (aA 5) (dV 8))) (dC (.int 1))) (dV 6)))
noncomputable def OI:En->Option Ou:=fT 8 (mI λi j=>i+j) (dC (.int 1))
theorem wF{fs:List (Q3×Q3)}{st:List Nat}{p:Q3}(fV:∀k∈st,k<fs.length){x1 x2 x3 x4 x7 x9 x10 x11 x12:Sl}:∀(c h:Nat),(∀k,h<=k->k<h+c->k<st.length/\(fs.getD (st.getD k 0) zQ).2=p)->(h+c<st.length->(fs.getD (st.getD (h+c) 0) zQ).2≠p)->
  cJ [] Kt OI (c+1) [.fz (.list (fs.map eS)),x1,x2,x3,x4,.ow false 1 (.list (st.map eN)),.fz (eQ p),x7,.fz (eN h),x9,x10,x11,x12]=some (.nx [.fz (.list (fs.map eS)),x1,x2,x3,x4,.ow false 1 (.list (st.map eN)),.fz (eQ p),x7,.fz (eN (h+c)),x9,x10,x11,x12])
 |0,h,_,h2=>by
  rw[cJ]
  by_cases l:h<st.length
  ·have m:=fV _ (show st.getD h 0∈st by rw[yW 0 l];exact pi l)
   have ne:¬(fs.getD (st.getD h 0) zQ).2=p:=h2 l
   dsimp! [Kt,xZ,qE,ζ l,dN (f:=eN) 0 l,dN (f:=eS) zQ m,zU,yA,ι ne,HE]
  ·dsimp! [Kt,xZ,qE,ι l,HE]
 |c+1,h,h1,h2=>by
  rw[cJ];obtain⟨l,e⟩:=h1 h (pL _) (by lia)
  have m:=fV _ (show st.getD h 0∈st by rw[yW 0 l];exact pi l)
  have ih:=wF fV (p:=p) (x1:=x1) (x2:=x2) (x3:=x3) (x4:=x4) (x7:=x7) (x9:=x9) (x10:=x10) (x11:=x11) (x12:=x12) c (h+1) (λk R5 mT=>h1 k (by lia) (by lia)) (by rw[show h+1+c=h+(c+1) by lia];exact h2)
  rw[show h+1+c=h+(c+1) by lia] at ih
  have cc:Kt [.fz (.list (fs.map eS)),x1,x2,x3,x4,.ow false 1 (.list (st.map eN)),.fz (eQ p),x7,.fz (eN h),x9,x10,x11,x12]=some true:=by
   dsimp! [Kt,xZ,qE,ζ l,dN (f:=eN) 0 l,dN (f:=eS) zQ m,zU,yA,ζ e]
  have bb:OI [.fz (.list (fs.map eS)),x1,x2,x3,x4,.ow false 1 (.list (st.map eN)),.fz (eQ p),x7,.fz (eN h),x9,x10,x11,x12]=some (.nx [.fz (.list (fs.map eS)),x1,x2,x3,x4,.ow false 1 (.list (st.map eN)),.fz (eQ p),x7,.fz (eN (h+1)),x9,x10,x11,x12]):=by
   dsimp! [OI,Ks]
  rw[cc,kG,θ rfl,bb,kG];exact ih
theorem OJ{α:Type}{f:α->Dt}{l:List α}{i:Nat}(h:i<l.length):L2.ixN (l.map f).length (i:Int)=some i:=by
 unfold L2.ixN;rw[kJ,θ (by lia),θ (by lia)]
 simp
def za0(k:Nat):yN (eN k)=some (k:Int):=rfl
noncomputable def Tz:En->Option Ou:=ag (j6 4 (dV 11) (ax (aa (dV 9) (aa (d2 w6 (dV 9) (d2 af (dV 1) (dV 11))) ae)))) (ak 9 (d2 w6 (dV 9) (d2 af (dV 1) (dV 11))))
noncomputable def mk(ms:List Nat)(l:List Nat):List Nat:=l.map λj=>ms.getD j 0
theorem Ye(h4:∀a∈ms,a<4)(l:List Nat):∀a∈mk ms l,a<4:=λa ha=>by
 obtain⟨j,_,rfl⟩:=ki.mp ha
 by_cases c:j<ms.length
 ·exact h4 _ (by rw[yW 0 c];exact pi c)
 ·rw[kE,pR (by lia)];decide
theorem zb4{K:Ou->Option En}{P:En->Prop}(h4:∀a∈ms,a<4){gl:List Nat}(nd:gl.Nodup){cN:List (Nat×Nat)}(hg:∀k∈gl,k<ms.length/\k<cN.length){o0:Nat}(ho:o0<4){x0 x2 x3 x5 x6 x7 x8 x10 x11 x12:Sl}
  (k:∀(dO:List (Nat×Nat))(o':Nat)(TC:Sl),dO.length=cN.length->(∀i,i∉gl->dO[i]?=cN[i]?)->(∀u i,gl[u]?=some i->dO[i]?=some (o0^^^xs (mk ms (gl.take u)),o0^^^xs (mk ms (gl.take u))^^^ms.getD i 0))->
   Gv (K (.nx [x0,.fz (.list (ms.map eN)),x2,x3,.ow false 1 (.list (dO.map ie)),x5,x6,x7,x8,.fz (eN o'),x10,TC,x12])) P):
  Gv ((zw (gN 11) Tz [] (gl.map eN) [x0,.fz (.list (ms.map eN)),x2,x3,.ow false 1 (.list (cN.map ie)),x5,x6,x7,x8,.fz (eN o0),x10,x11,x12]).bind K) P:=by
 refine xz (σ:=(List (Nat×Nat)×Nat)×Sl) (λs=>[x0,.fz (.list (ms.map eN)),x2,x3,.ow false 1 (.list (s.1.1.map ie)),x5,x6,x7,x8,.fz (eN s.1.2),x10,s.2,x12])
  (λu s=>s.1.1.length=cN.length/\s.1.2=o0^^^xs (mk ms (gl.take u))/\(∀i,i∉gl.take u->s.1.1[i]?=cN[i]?)/\∀v i,v<u->gl[v]?=some i->s.1.1[i]?=some (o0^^^xs (mk ms (gl.take v)),o0^^^xs (mk ms (gl.take v))^^^ms.getD i 0)) ((cN,o0),x11) rfl
  ⟨rfl,by simp[mk,xs],λi _=>rfl,λv i hv=>by lia⟩ (λu i s hu hs=>?_) λs hs=>?_
 ·obtain⟨⟨T,o⟩,y⟩:=s;obtain⟨j1,j2,j3,j4⟩:=hs;dsimp only at j1 j2 j3 j4;have hi:=hg i (kg hu);have ol:o<4:=by rw[j2];exact(mB ho (jR (Ye h4 _))).2
  have ml:ms.getD i 0<4:=h4 _ (by rw[yW 0 hi.1];exact pi hi.1)
  obtain⟨x1,x2'⟩:=mB ol ml;have st:=OJ (f:=ie) (l:=T) (i:=i) (by lia)
  refine⟨((T.set i (o,o^^^ms.getD i 0),o^^^ms.getD i 0),.fz (eN i)),?_,?_,?_,λk hk=>?_,λv k hv hk=>?_⟩
  ·dsimp! [Tz,dN (f:=eN) 0 hi.1,x1,j6,za0,st,FI]
   rfl
  ·rw[UP];exact j1
  ·show o^^^ms.getD i 0=_
   rw[pP,hu,mk,pD,WZ,<-Cp,<-mk,<-j2]
   congr 1
   show _=xs [ms.getD i 0]
   rw[xS];simp[xs]
  ·rw[pP,hu] at hk;have ne:i≠k:=λe=>hk (uG _ (by rw[e];simp))
   rw[AG ne];exact j3 k λz=>hk (uP _ z)
  ·by_cases e:v=u
   ·subst e;rw[hu] at hk
    cases hk;rw[BF (by lia),<-j2]
   ·have ne:i≠k:=λz=>by
     subst z;have l1:=(kH.mp hk).1;have l2:=(kH.mp hu).1;have:=qT nd 0 l1 l2 (by rw[kE,kE,hk,hu])
     exact e this
    rw[AG ne];exact j4 v k (by lia) hk
 ·obtain⟨⟨T,o⟩,y⟩:=s;obtain⟨j1,j2,j3,j4⟩:=hs;dsimp only at j1 j2 j3 j4;rw[uc] at j3;exact k T o y j1 j3 λu i hu=>j4 u i (kH.mp hu).1 hu
end Nu
end
section
variable{os:List Q3}
namespace Nu
def r9{a b:List Nat}(ha:a.Nodup)(hb:b.Nodup)(h:∀k,k∈a↔k∈b):a.Perm b:=(CO ha hb).mpr h
def se{ms a b:List Nat}(h:a.Perm b):xs (mk ms a)=xs (mk ms b):=rX (h.map _)
def Ku(ms a b:List Nat):xs (mk ms (a++b))=xs (mk ms a)^^^xs (mk ms b):=by
 unfold mk;rw[pD,WZ]
structure xR(fs:List (Q3×Q3))(dn:List Q3)(st:List Nat):Prop where
 nd:st.Nodup
 mem:∀j,j∈st↔j<fs.length/\bU (fs.getD j zQ)=true/\(fs.getD j zQ).1∈dn/\(fs.getD j zQ).2∉dn
 up:st.Pairwise λa b=>Md (fs.getD a zQ) (fs.getD b zQ)
variable{fs:List (Q3×Q3)}
theorem xR.cut{m:Nat}(A:Ap m fs)(up:Up os)(ho:∀p,p∈os↔p∈ye fs){t:Nat}{p:Q3}(ht:os[t]?=some p){st:List Nat}(S:xR fs (os.take t) st):
  (∀j∈st,bq (fs.getD j zQ).1 p=true/\bq (fs.getD j zQ).2 p=false)/\(∀j∈st,dt (fs.getD j zQ).1 (fs.getD j zQ).2 p=0->(fs.getD j zQ).2=p)/\
  ∀a b,a<=b->b<st.length->(dt (fs.getD (st.getD a 0) zQ).1 (fs.getD (st.getD a 0) zQ).2 p<=0->dt (fs.getD (st.getD b 0) zQ).1 (fs.getD (st.getD b 0) zQ).2 p<=0)/\(dt (fs.getD (st.getD a 0) zQ).1 (fs.getD (st.getD a 0) zQ).2 p<0->dt (fs.getD (st.getD b 0) zQ).1 (fs.getD (st.getD b 0) zQ).2 p<0):=by
 have h1:∀j∈st,bq (fs.getD j zQ).1 p=true/\bq (fs.getD j zQ).2 p=false:=λj hj=>by
  obtain⟨l,_,d1,d2⟩:=(S.mem j).mp hj;refine⟨(xO up ht).1 d1,?_⟩
  cases q:bq (fs.getD j zQ).2 p with
  |false=>rfl
  |true=>exact absurd ((xO up ht).2 ((ho _).mpr (xf (zg l)).2) q) d2
 obtain⟨z,hz,hp⟩:∃z∈fs,p=z.1\/p=z.2:=by
  obtain⟨z,hz,h⟩:=QC.mp ((ho p).mp (kg ht));simp only[kT,pe,or_false] at h;exact⟨z,hz,h⟩
 refine⟨h1,λj hj h0=>Y4 A (zg ((S.mem j).mp hj).1) hz hp (h1 j hj).1 (h1 j hj).2 h0,λa b ab hb=>?_⟩;rcases Aj ab with ab|rfl
 ·have ma:st.getD a 0∈st:=by rw[yW 0 (by lia)];exact pi _
  have mb:st.getD b 0∈st:=by rw[yW 0 hb];exact pi _
  obtain⟨a1,a2,_⟩:=(S.mem _).mp ma;obtain⟨b1,b2,_⟩:=(S.mem _).mp mb;have u:=pI.mp S.up a b (by lia) hb ab
  rw[<-yW 0 (by lia:a<st.length),<-yW 0 hb] at u
  exact Kr (jY (A.ok _ (zg a1)).2.2 a2) (jY (A.ok _ (zg b1)).2.2 b2) (zO (h1 _ ma).1) (vM (h1 _ ma).2) (zO (h1 _ mb).1) (vM (h1 _ mb).2) u
 ·exact⟨id,id⟩
theorem xR.next{m:Nat}(A:Ap m fs)(up:Up os)(ho:∀p,p∈os↔p∈ye fs){t:Nat}{p:Q3}(ht:os[t]?=some p){st:List Nat}(S:xR fs (os.take t) st){fan:List Nat}(F:Mb fs fs.length p fan){lo hi:Nat}(h1:lo<=hi)(h2:hi<=st.length)
  (c1:∀k,k<lo->0<dt (fs.getD (st.getD k 0) zQ).1 (fs.getD (st.getD k 0) zQ).2 p)(c2:∀k,lo<=k->k<hi->(fs.getD (st.getD k 0) zQ).2=p)(c3:∀k,hi<=k->k<st.length->dt (fs.getD (st.getD k 0) zQ).1 (fs.getD (st.getD k 0) zQ).2 p<0):xR fs (os.take (t+1)) (st.take lo++fan.filter (λk=>bU (fs.getD k zQ))++st.drop hi):=by
 obtain⟨b1,z1,_⟩:=S.cut A up ho ht;have et:∀r,r∈os.take (t+1)↔r∈os.take t\/r=p:=λr=>by rw[pP,ht,pC];simp
 have np:p∉os.take t:=λz=>by have:=(xO up ht).1 z;rw[zq] at this;cases this
 have sf:∀j∈st.take lo,j∈st/\0<dt (fs.getD j zQ).1 (fs.getD j zQ).2 p:=λj hj=>by
  obtain⟨k,hk⟩:=pF.mp hj;rw[gI] at hk
  by_cases l:k<lo
  ·rw[θ l] at hk;have e:st.getD k 0=j:=by rw[kE,hk];rfl
   exact⟨kg hk,e▸c1 k l⟩
  ·rw[η l] at hk;cases hk
 have si:∀j∈st.drop hi,j∈st/\dt (fs.getD j zQ).1 (fs.getD j zQ).2 p<0:=λj hj=>by
  obtain⟨k,hk⟩:=pF.mp hj;rw[Ub] at hk;have e:st.getD (hi+k) 0=j:=by rw[kE,hk];rfl
  exact⟨kg hk,e▸c3 (hi+k) (by lia) (kH.mp hk).1⟩
 have dP:∀j∈(fan.filter (λk=>bU (fs.getD k zQ))),j<fs.length/\(fs.getD j zQ).1=p/\bU (fs.getD j zQ)=true:=λj hj=>by
  obtain⟨a,b⟩:=pG.mp hj;obtain⟨_,c,d⟩:=(F.mem j).mp a;exact⟨c,d,b⟩
 have nst:∀j∈st,(fs.getD j zQ).1≠p:=λj hj e=>np (e▸((S.mem j).mp hj).2.2.1);have TE:st=st.take lo++((st.drop lo).take (hi-lo)++st.drop hi):=by
  conv=>lhs;rw[<-Qz lo st]
  congr 1
  conv=>lhs;rw[<-Qz (hi-lo) (st.drop lo),GU]
  rw[show lo+(hi-lo)=hi by lia]
 have Q6:=S.nd;rw[TE,QE] at Q6;have HZ:=S.up;rw[TE,Ql] at HZ;have TF:∀j∈st,dt (fs.getD j zQ).1 (fs.getD j zQ).2 p≠0->bq p (fs.getD j zQ).2=true:=λj hj nz=>by
  cases q:bq p (fs.getD j zQ).2 with
  |true=>rfl
  |false=>
   have l:=((S.mem j).mp hj).1;have pp:PQ m p:=A.ok.pts p ((ho p).mp (kg ht));have:=xh pp (A.ok _ (zg l)).2.1 q (b1 j hj).2;exact absurd (by rw[this];exact yo _ _) nz
 refine⟨?_,λj=>?_,?_⟩
 ·rw[QE,QE];refine⟨⟨Q6.1,F.nd.filter _,λa ha b hb e=>?_⟩,(List.nodup_append.mp Q6.2.1).2.1,λa ha b hb e=>?_⟩
  ·subst e;exact nst a (sf a ha).1 (dP a hb).2.1
  ·subst e;rcases pC.mp ha with ha|ha
   ·exact Q6.2.2 a ha a (uG _ hb) rfl
   ·exact nst a (si a hb).1 (dP a ha).2.1
 ·rw[pC,pC]
  constructor
  ·have key:∀j∈st,dt (fs.getD j zQ).1 (fs.getD j zQ).2 p≠0->j<fs.length/\bU (fs.getD j zQ)=true/\(fs.getD j zQ).1∈os.take (t+1)/\(fs.getD j zQ).2∉os.take (t+1):=λj hj nz=>by
    obtain⟨a,b,c,d⟩:=(S.mem j).mp hj;refine⟨a,b,(et _).mpr (.inl c),λz=>?_⟩;rcases(et _).mp z with z|z
    ·exact d z
    ·exact nz (by rw[<-z];exact yo _ _)
   rintro((h|h)|h)
   ·exact key j (sf j h).1 (by have:=(sf j h).2;lia)
   ·obtain⟨a,b,c⟩:=dP j h;refine⟨a,c,(et _).mpr (.inr b),λz=>?_⟩;have k3:=(A.ok _ (zg a)).2.2;rw[b] at k3;rcases(et _).mp z with z|z
    ·have:=(xO up ht).1 z;rw[zt k3] at this;cases this
    ·rw[z,zq] at k3;cases k3
   ·exact key j (si j h).1 (by have:=(si j h).2;lia)
  ·rintro⟨a,b,c,d⟩;rcases(et _).mp c with c|c
   ·have hj:j∈st:=(S.mem j).mpr ⟨a,b,c,λz=>d ((et _).mpr (.inl z))⟩;rw[TE] at hj;rcases pC.mp hj with hj|hj
    ·exact .inl (.inl hj)
    ·rcases pC.mp hj with hj|hj
     ·exfalso
      obtain⟨k,hk⟩:=pF.mp hj;rw[gI] at hk
      by_cases l:k<hi-lo
      ·rw[θ l,Ub] at hk;have e:st.getD (lo+k) 0=j:=by rw[kE,hk];rfl
       have:=c2 (lo+k) (by lia) (by lia)
       rw[e] at this;exact d ((et _).mpr (.inr this))
      ·rw[η l] at hk;cases hk
     ·exact .inr hj
   ·exact .inl (.inr (pG.mpr ⟨(F.mem j).mpr ⟨a,a,c⟩,b⟩))
 ·rw[Ql,Ql];have nw:∀o∈st,∀z∈(fan.filter (λk=>bU (fs.getD k zQ))),dt (fs.getD o zQ).1 (fs.getD o zQ).2 p≠0->(0<dt (fs.getD o zQ).1 (fs.getD o zQ).2 p->Md (fs.getD o zQ) (fs.getD z zQ))/\(dt (fs.getD o zQ).1 (fs.getD o zQ).2 p<0->Md (fs.getD z zQ) (fs.getD o zQ)):=λo tu z hz nz=>by
   obtain⟨oa,ob,_⟩:=(S.mem o).mp tu;obtain⟨za,zb,zc⟩:=dP z hz;have:=r7 A (zg oa) (zg za) (jY (A.ok _ (zg oa)).2.2 ob) (jY (A.ok _ (zg za)).2.2 zc) (by rw[zb];exact(b1 o tu).1) (by rw[zb];exact TF o tu nz)
   rw[zb] at this;exact this
  refine⟨⟨HZ.1,?_,λa ha b hb=>?_⟩,(List.pairwise_append.mp HZ.2.1).2.1,λa ha b hb=>?_⟩
  ·refine Aa (λ{a b} ha hb h=>?_) (Bh _ F.up);obtain⟨_,a2,_⟩:=dP a ha;obtain⟨_,b2,_⟩:=dP b hb;refine .inl ⟨?_,?_⟩
   ·rw[b2,<-a2,yI];exact hW _
   ·rw[a2];exact kM h
  ·obtain⟨k1,k2⟩:=sf a ha;exact(nw a k1 b hb (by lia)).1 k2
  ·rcases pC.mp ha with ha|ha
   ·exact HZ.2.2 a ha b (uG _ hb)
   ·obtain⟨k1,k2⟩:=si b hb;exact(nw b k1 a ha (by lia)).2 k2
end Nu
end
section
variable{fs:List (Q3×Q3)}
namespace Nu
theorem xR.over{m:Nat}(A:Ap m fs){os:List Q3}(up:Up os)(ho:∀p,p∈os↔p∈ye fs){t:Nat}{p:Q3}(ht:os[t]?=some p){st:List Nat}(S:xR fs (os.take t) st){lo hi:Nat}(h2:hi<=st.length)
  (c1:∀k,k<lo->0<dt (fs.getD (st.getD k 0) zQ).1 (fs.getD (st.getD k 0) zQ).2 p)(c2:∀k,lo<=k->k<hi->(fs.getD (st.getD k 0) zQ).2=p)(c3:∀k,hi<=k->k<st.length->dt (fs.getD (st.getD k 0) zQ).1 (fs.getD (st.getD k 0) zQ).2 p<0)(j:Nat):
  j∈st.drop hi↔j<fs.length/\bU (fs.getD j zQ)=true/\bq (fs.getD j zQ).1 p=true/\bq p (fs.getD j zQ).2=true/\dt (fs.getD j zQ).1 (fs.getD j zQ).2 p<0:=by
 obtain⟨b1,z1,_⟩:=S.cut A up ho ht
 constructor
 ·intro hj;obtain⟨k,hk⟩:=pF.mp hj;rw[Ub] at hk;have e:st.getD (hi+k) 0=j:=by rw[kE,hk];rfl
  have d:=c3 (hi+k) (by lia) (kH.mp hk).1
  rw[e] at d;have hm:=kg hk;obtain⟨a,b,_,_⟩:=(S.mem j).mp hm;refine⟨a,b,(b1 j hm).1,?_,d⟩
  cases q:bq p (fs.getD j zQ).2 with
  |true=>rfl
  |false=>
   have pp:PQ m p:=A.ok.pts p ((ho p).mp (kg ht));have:=xh pp (A.ok _ (zg a)).2.1 q (b1 j hm).2;rw[this,yo] at d;lia
 ·rintro⟨a,b,c,d,e⟩;have hj:j∈st:=(S.mem j).mpr ⟨a,b,(xO up ht).2 ((ho _).mpr (xf (zg a)).1) c,λz=>by have:=(xO up ht).1 z;rw[zt d] at this;cases this⟩
  obtain⟨k,hk⟩:=pF.mp hj;have ek:st.getD k 0=j:=by rw[kE,hk];rfl
  have kl:=(kH.mp hk).1;have:hi<=k:=by
   refine Nat.not_lt.mp λz=>?_
   by_cases w:k<lo
   ·have:=c1 k w;rw[ek] at this;lia
   ·have:=c2 k (by lia) z
    rw[ek] at this;rw[this,zq] at d
    cases d
  refine pF.mpr ⟨k-hi,?_⟩;rw[Ub,show hi+(k-hi)=k by lia]
  exact hk
theorem Mb.behind{m:Nat}{p:Q3}{fan:List Nat}(F:Mb fs fs.length p fan){u i:Nat}(hu:fan.reverse[u]?=some i)(j:Nat):j∈fan.reverse.take u↔j<fs.length/\(fs.getD j zQ).1=p/\0<dt p (fs.getD i zQ).2 (fs.getD j zQ).2:=by
 have up:=List.pairwise_reverse.mpr F.up;have Mp:=(kH.mp hu).1;have at':∀{v x},fan.reverse[v]?=some x->x∈fan:=λh=>hH.mp (kg h);have pw:∀{v w x y:Nat},v<w->fan.reverse[v]?=some x->fan.reverse[w]?=some y->0<dt p (fs.getD y zQ).2 (fs.getD x zQ).2:=λ{v w x y} vw hx hy=>by
  obtain⟨l1,e1⟩:=kH.mp hx;obtain⟨l2,e2⟩:=kH.mp hy;have:=pI.mp up v w l1 l2 vw;rw[e1,e2] at this;exact this
 constructor
 ·intro h;obtain⟨v,hv⟩:=pF.mp h;rw[gI] at hv
  by_cases l:v<u
  ·rw[θ l] at hv;obtain⟨_,a,b⟩:=(F.mem j).mp (at' hv);exact⟨a,b,pw l hv hu⟩
  ·rw[η l] at hv;cases hv
 ·rintro⟨a,b,c⟩;obtain⟨v,hv⟩:=pF.mp (hH.mpr ((F.mem j).mpr ⟨a,a,b⟩));have:v<u:=by
   refine Nat.not_le.mp λz=>?_;rcases Aj z with z|z
   ·have:=pw z hu hv;rw[Jj] at this;lia
   ·subst z;rw[hu] at hv
    cases hv;rw[JS] at c;lia
  exact pF.mpr ⟨v,by rw[gI,θ this];exact hv⟩
def ZK{l:List Nat}(h:l.Nodup):l.reverse.Nodup:=(List.reverse_perm l).nodup_iff.mpr h
def Jp(k:Nat):Pl (eN k)=some (some (k:Int)):=rfl
theorem Kv(z:Int):decide (aw z<=0)=decide (z<=0):=by
 rcases xC z with⟨h,e⟩|⟨h,e⟩|⟨h,e⟩<;>rw[e]<;>exact ω.mpr (by lia)
theorem zcr{m:Nat}(hm:m<=8999)(A:Ap m fs)(hl:fs.length<=1900000){ms:List Nat}(hms:ms.length=fs.length)(h4:∀a∈ms,a<4)(hb:∀os:List Q3,os.Nodup->(∀p∈os,p∈ye fs)->os.length<wz):qN [.list (fs.map eS),.list (ms.map eN)]=some (.list ((kN fs.length).map λi=>ie (spT fs ms i))):=by
 suffices Gv (qN [.list (fs.map eS),.list (ms.map eN)]) λd=>d=.list ((kN fs.length).map λi=>ie (spT fs ms i)) by obtain⟨d,e,rfl⟩:=this;exact e
 have sq:∀k,k<fs.length->SQ (fs.getD k zQ).1/\SQ (fs.getD k zQ).2:=λk hk=>by
  obtain⟨h1,h2,h3⟩:=A.ok _ (zg hk);exact⟨SQ.of h1 (by lia),SQ.of h2 (by lia)⟩
 obtain⟨df,ef,qs,Fn,rfl,hq,hF⟩:=r6 (by lia) A (by lia)
 obtain⟨d0,ei,os,rfl,up,ho,Pu⟩:=VE hm A.ok.pts (by rw[JT];lia) hb
 generalize edf:Dt.dT (qs.map kQ) (qs.map λp=>eF (Fn p))=df at*;unfold qN
 dsimp! []
 rw[zW (e:=eS) (h:=λs=>eL s.1 s.2) λs hs=>by
  obtain⟨h1,h2,_⟩:=A.ok s hs
  dsimp! [zJ,zU,Y3 (SQ.of h1 (by lia)) (SQ.of h2 (by lia))]]
 dsimp! [ef]
 rw[zW (e:=eS) (h:=λ_=>ie (0,0)) λs hs=>rfl]
 dsimp! [ZT (show fs.length<=2000000 by lia),ei]
 rw[uL];refine w5 (σ:=(List (Nat×Nat)×List Nat)×Sl) (λs=>[.fz (.list (fs.map eS)),.fz (.list (ms.map eN)),.ow false 1 (.list (fs.map λs=>eL s.1 s.2)),.fz df,.ow false 1 (.list (s.1.1.map ie)),.ow false 1 (.list (s.1.2.map eN)),.un,.un,.un,.un,.un,s.2,.un])
  (λt s=>s.1.1.length=fs.length/\(∀i,i<fs.length->(fs.getD i zQ).1∈os.take t->s.1.1[i]?=some (spT fs ms i))/\xR fs (os.take t) s.1.2) ((fs.map λ_=>(0,0),[]),.un) (by rw[uE];rfl)
  ⟨by rw[kJ],λi _ h=>(by rw[Uc] at h;cases h),.nil,λj=>⟨λh=>(by cases h),λh=>(by rw[Uc] at h;cases h.2.2.1)⟩,.nil⟩ (λt p s ht hs=>?_) λs hs=>?_
 ·obtain⟨⟨cN,st⟩,ci⟩:=s;obtain⟨j1,j2,S⟩:=hs;dsimp only at j1 j2 S;obtain⟨b1,z1,mono⟩:=S.cut A up ho ht;have fV:∀k∈st,k<fs.length:=λk hk=>((S.mem k).mp hk).1;have lst:st.length<=fs.length:=jK S.nd fV;have pp:PQ m p:=A.ok.pts p ((ho p).mp (kg ht));have sp:=SQ.of pp (by lia:m<=100000)
  have gst:∀k,k<st.length->st.getD k 0∈st:=λk hk=>by rw[yW 0 hk];exact pi hk
  let c:Nat->Bool:=λk=>decide (dt (fs.getD (st.getD k 0) zQ).1 (fs.getD (st.getD k 0) zQ).2 p<=0)
  obtain⟨lo,e1,e2,e3,e4⟩:=JG (js:=[5,2,6]) (f:=d2 mJ (aj xE (aa (d2 af (aA 2) (d2 af (aA 1) (dV 0))) (aa (dV 3) ae))) (dC (.int 0))) (g:=aj zu (aa (aA 5) ae)) (Z:=[.fz (.list (fs.map eS)),.fz (.list (ms.map eN)),.ow false 1 (.list (fs.map λs=>eL s.1 s.2)),.fz df,.ow false 1 (.list (cN.map ie)),.ow false 1 (.list (st.map eN)),.fz (eQ p),.un,.un,.un,.un,ci,.un]) (ss:=[.rd (.list (st.map eN)),.rd (.list (fs.map λs=>eL s.1 s.2)),.fz (eQ p)]) (c:=c) (n:=st.length) (by dsimp! [xZ];rfl) rfl (λk hk=>by
    have mT:=fV _ (gst k hk)
    dsimp! [OG (f:=eN) 0 hk,dN (f:=λs:Q3×Q3=>eL s.1 s.2) zQ mT,vZ (sq _ mT).1 (sq _ mT).2 sp,Ot,Kv]
    rfl) (λa b ab hb ha=>ζ ((mono a b ab hb).1 (ξ ha)))
  have e1:wK [5,2,6] (d2 mJ (aj xE (aa (d2 af (aA 2) (d2 af (aA 1) (dV 0))) (aa (dV 3) ae))) (dC (.int 0))) (aj zu (aa (aA 5) ae)) [.fz (.list (fs.map eS)),.fz (.list (ms.map eN)),.ow false 1 (.list (fs.map λs=>eL s.1 s.2)),.fz df,.ow false 1 (.list (cN.map ie)),.ow false 1 (.list (st.map eN)),.fz (eQ p),.un,.un,.un,.un,ci,.un]=some (eN lo):=e1;obtain⟨cnt,w1,w2,w3⟩:∃cnt,lo+cnt<=st.length/\(∀k,lo<=k->k<lo+cnt->k<st.length/\(fs.getD (st.getD k 0) zQ).2=p)/\(lo+cnt<st.length->(fs.getD (st.getD (lo+cnt) 0) zQ).2≠p):=by
   have:∀r,∃cnt,cnt<=r/\(lo+r<=st.length->lo+cnt<=st.length/\(∀k,lo<=k->k<lo+cnt->k<st.length/\(fs.getD (st.getD k 0) zQ).2=p)/\(cnt<r->(fs.getD (st.getD (lo+cnt) 0) zQ).2≠p)):=λr=>by
    induction r with
    |zero=>exact⟨0,pL _,λh=>⟨h,λk a b=>by lia,λh=>by lia⟩⟩
    |succ r ih=>
     obtain⟨cnt,i1,i2⟩:=ih
     by_cases f:cnt<r
     ·exact⟨cnt,by lia,λh=>let⟨a,b,d⟩:=i2 (by lia);⟨a,b,λ_=>d f⟩⟩
     ·have ec:cnt=r:=by lia
      subst ec
      by_cases g:lo+cnt<st.length/\(fs.getD (st.getD (lo+cnt) 0) zQ).2=p
      ·refine⟨cnt+1,pL _,λh=>?_⟩;obtain⟨a,b,_⟩:=i2 (by lia)
       refine⟨by lia,λk k1 k2=>?_,λz=>by lia⟩
       by_cases q:k<lo+cnt
       ·exact b k k1 q
       ·have:k=lo+cnt:=by lia
        rw[this];exact g
      ·refine⟨cnt,by lia,λh=>?_⟩
       obtain⟨a,b,_⟩:=i2 (by lia)
       exact⟨a,b,λ_ z=>g ⟨by lia,z⟩⟩
   obtain⟨cnt,i1,i2⟩:=this (st.length-lo);obtain⟨a,b,d⟩:=i2 (by lia)
   exact⟨cnt,a,b,λz=>d (by lia)⟩
  have Q7:lo+cnt<=st.length:=w1;have c1:∀k,k<lo->0<dt (fs.getD (st.getD k 0) zQ).1 (fs.getD (st.getD k 0) zQ).2 p:=λk hk=>by have:=of_decide_eq_false (e3 k hk);lia
  have c2:∀k,lo<=k->k<lo+cnt->(fs.getD (st.getD k 0) zQ).2=p:=λk h1 h2=>(w2 k h1 h2).2;have c3:∀k,lo+cnt<=k->k<st.length->dt (fs.getD (st.getD k 0) zQ).1 (fs.getD (st.getD k 0) zQ).2 p<0:=λk h1 h2=>by
   refine(mono (lo+cnt) k h1 h2).2 ?_;have l0:lo+cnt<st.length:=by lia
   have q:=ξ (e4 (lo+cnt) (by lia) l0)
   have q2:dt (fs.getD (st.getD (lo+cnt) 0) zQ).1 (fs.getD (st.getD (lo+cnt) 0) zQ).2 p≠0:=λz=>w3 l0 (z1 _ (gst _ l0) z);lia
  have wh:=WP (wF (fs:=fs) (st:=st) (p:=p) fV (x1:=.fz (.list (ms.map eN))) (x2:=.ow false 1 (.list (fs.map λs=>eL s.1 s.2))) (x3:=.fz df) (x4:=.ow false 1 (.list (cN.map ie))) (x7:=.fz (eN lo)) (x9:=.un) (x10:=.un) (x11:=ci) (x12:=.un) cnt lo w2 w3) (2000000-(cnt+1));rw[show cnt+1+(2000000-(cnt+1))=2000000 by lia] at wh
  have wh:wm 2000000 [] Kt OI _=_:=wh;unfold Kt OI fT at wh;generalize ehi:lo+cnt=hi at*;obtain⟨_,cu2⟩:=rZ (f:=eN) st hi Q7;obtain⟨cu1,_⟩:=rZ (f:=eN) st lo (by lia)
  have mx:=zcq (Ye h4 (st.drop hi));have gf:(yf df (eQ p)).bind (λc=>if c=true then yy df (eQ p) else some (.list []))=some (.list ((Fn p).map eN)):=by
   rw[<-edf,qB,kG]
   by_cases c:p∈qs
   ·rw[θ (ζ c),jr (f:=λp=>eF (Fn p)) c];rfl
   ·rw[η (by simp[c])]
    have:Fn p=[]:=BZ.mpr λk hk=>c ((hq _).mpr ⟨k,((hF p).mem k).mp hk|>.1,((hF p).mem k).mp hk|>.2.2⟩);rw[this];rfl
  have F:=hF p;have TG:∀k∈Fn p,k<fs.length:=λk hk=>((F.mem k).mp hk).1;have TJ:(Fn p).length<=fs.length:=jK F.nd TG;have rv:lG [.list ((Fn p).map eN)]=some ((Fn p).reverse.map eN):=by
   show some ((Fn p).map eN).reverse=_
   rw[Fg]
  dsimp! [e1,wh,fS,Jp,oS,oN,cu2]
  rw[zW (e:=eN) (h:=λj=>eN (ms.getD j 0)) λj hj=>by
   dsimp! [dN (f:=eN) 0 (show j<ms.length by rw[hms];exact fV j (List.mem_of_mem_drop hj))]]
  rw[show(st.drop hi).map (λj=>eN (ms.getD j 0))=(mk ms (st.drop hi)).map eN by unfold mk;rw[uE];rfl]
  dsimp! [mx,gf,rv]
  rw[uL,<-Tz];refine zb4 h4 (ZK F.nd) (λk hk=>by have:=TG k (hH.mp hk);lia) (jR (Ye h4 _)) λdO o' TC k1 k2 k3=>?_
  dsimp! []
  rw[wk (e:=eN) (h:=eN) (c:=λk=>bU (fs.getD k zQ)) λk hk=>by
   have:=TG k hk
   dsimp! [dN (f:=eS) zQ this,Ko (sq k this).1 (sq k this).2,HD]
   split<;>rfl]
  have ll:((Fn p).filter λk=>bU (fs.getD k zQ)).length<=fs.length:=uR (uF _ _) TJ;have Q5:=fI (f:=eN) (st.take lo) ((Fn p).filter λk=>bU (fs.getD k zQ)) (by rw[uC];lia)
  have Tw:=fI (f:=eN) (st.take lo++(Fn p).filter λk=>bU (fs.getD k zQ)) (st.drop hi) (by rw[kb,uC,UC];lia)
  dsimp! [fS,Jp,oS,oN,cu1,cu2,Q5,Tw]
  refine⟨_,rfl,((dO,st.take lo++(Fn p).filter (λk=>bU (fs.getD k zQ))++st.drop hi),TC),rfl,k1.trans j1,λi fL ou=>?_,S.next A up ho ht F (by lia) Q7 c1 c2 c3⟩
  dsimp only
  by_cases e:(fs.getD i zQ).1=p
  ·have mi:i∈Fn p:=(F.mem i).mpr ⟨fL,fL,e⟩;obtain⟨u,hu⟩:=pF.mp (hH.mpr mi);have key:xs (mk ms (st.drop hi))^^^xs (mk ms ((Fn p).reverse.take u))=vd fs ms i:=by
    rw[<-Ku];refine se (r9 ?_ (List.nodup_range.filter _) λj=>?_)
    ·refine QE.mpr ⟨S.nd.sublist (List.drop_sublist _ _),(ZK F.nd).sublist (Aw _ _),λa ha b hb z=>?_⟩;subst z;have x1:=((S.over A up ho ht Q7 c1 c2 c3 a).mp ha).2.2.1;have x2:=((F.behind (m:=m) hu a).mp hb).2.1;rw[x2,zq] at x1
     cases x1
    ·rw[pC,S.over A up ho ht Q7 c1 c2 c3,F.behind (m:=m) hu,pG,kn];unfold xU;rw[e];simp only[GF,pO,τ]
     constructor
     ·rintro(⟨a,b,c',d,f⟩|⟨a,b,c'⟩)
      ·exact⟨a,.inl ⟨b,c',d,f⟩⟩
      ·exact⟨a,.inr ⟨b,c'⟩⟩
     ·rintro⟨a,⟨b,c',d,f⟩|⟨b,c'⟩⟩
      ·exact .inl ⟨a,b,c',d,f⟩
      ·exact .inr ⟨a,b,c'⟩
   rw[k3 u i hu,key];rfl
  ·have nf:i∉(Fn p).reverse:=λz=>e ((F.mem i).mp (hH.mp z)).2.2;rw[k2 i nf];refine j2 i fL ?_;rw[pP,ht,pC] at ou;rcases ou with z|z
   ·exact z
   ·exact absurd (by simpa using z) e
 ·obtain⟨⟨cN,st⟩,ci⟩:=s;obtain⟨j1,j2,S⟩:=hs;dsimp only at j1 j2 S;rw[uc] at j2
  dsimp! []
  refine⟨_,rfl,?_⟩
  congr 1
  refine QU λi=>?_;rw[kY,kY]
  by_cases l:i<fs.length
  ·rw[j2 i l ((ho _).mpr (xf (zg l)).1),uA l];rfl
  ·rw[pR (by lia),pR (by rw[pM];lia)];rfl
end Nu
end
section
namespace Nu
noncomputable def ba(s:Q3×Q3)(q:Q3):Bool:=decide (0<=dX s.1 q)&&(decide (0<dX q s.2)&&decide (dt s.1 s.2 q<0))
theorem yB{x y:Int}(hy:0<y):(0<x*y↔0<x)/\(x*y<0↔x<0):=by
 constructor
 ·exact⟨λh=>Da.mp λz=>by have:=kj z (kM hy);lia,λh=>kf h hy⟩
 ·exact⟨λh=>Da.mp λz=>by have:=kz z (kM hy);lia,λh=>kx h hy⟩
section
variable{m:Nat}{fs:List (Q3×Q3)}(A:Ap m fs){a s:Q3×Q3}{M:Q3}(ha:a∈fs)(hs:s∈fs)
include A ha hs
theorem J0(la:0<dX a.1 a.2)(h1:bq s.1 a.2=true)(h2:bq a.1 s.2=true)(ne:a≠s)(M0:dt a.1 a.2 M=0)(M1:0<dX a.1 M)(M2:0<dX M a.2)(nz:dX s.1 M=0->dt a.1 a.2 s.1≠0):
  ∃up:Bool,(∀v,v=s.1\/v=s.2->0<=dX a.1 v->0<=dX v a.2->dt a.1 a.2 v≠0->(0<dt a.1 a.2 v↔up=true))/\
   (0<=dX s.1 a.1->0<=dX a.1 s.2->dt s.1 s.2 a.1≠0->(dt s.1 s.2 a.1<0↔up=true))/\
   (0<=dX s.1 M->0<dX M s.2->(dt s.1 s.2 M<0↔up=true)):=by
 obtain⟨a1,a2,a3⟩:=A.ok a ha;obtain⟨s1,s2,s3⟩:=A.ok s hs;have eM:=y8 a.1 a.2 s.1 s.2 M;have eP:=y8 a.1 a.2 s.1 s.2 a.1;have fM:=y8 s.1 s.2 a.1 a.2 M;rw[M0] at eM fM;rw[yI] at eP;simp only[pY,BE] at eM eP fM;have pos:∀{x y:Int},0<=x->0<=y->0<=x*y:=λh1 h2=>kz h1 h2;have Kw:∀{x y:Int},x<=0->0<=y->x*y<=0:=λh1 h2=>kj h1 h2;have mC:∀{x y:Int},0<x->0<y->0<x*y:=λh1 h2=>kf h1 h2;have mD:∀{x y:Int},x<0->0<y->x*y<0:=λh1 h2=>kx h1 h2;rcases A.ap a ha s hs ne with q|q|⟨q1,q2⟩
 ·rw[zt h1] at q;cases q
 ·rw[zt h2] at q;cases q
 have col:¬(dt a.1 a.2 s.1=0/\dt a.1 a.2 s.2=0):=λ⟨w1,w2⟩=>by
  rcases q1 ⟨by rw[w1];rfl,by rw[w2];rfl⟩ with q|q
  ·rw[q,zq] at h1;cases h1
  ·rw[q,zq] at h2;cases h2
 have nc:¬(aw (dt a.1 a.2 s.1)=0/\aw (dt a.1 a.2 s.2)=0):=λ⟨w1,w2⟩=>col ⟨zL.mp w1,zL.mp w2⟩;have U:0<=dt a.1 a.2 s.1->0<=dt a.1 a.2 s.2->∃up:Bool,(∀v,v=s.1\/v=s.2->0<=dX a.1 v->0<=dX v a.2->dt a.1 a.2 v≠0->(0<dt a.1 a.2 v↔up=true))/\(0<=dX s.1 a.1->0<=dX a.1 s.2->dt s.1 s.2 a.1≠0->(dt s.1 s.2 a.1<0↔up=true))/\(0<=dX s.1 M->0<dX M s.2->(dt s.1 s.2 M<0↔up=true)):=λd1 d2=>by
  refine⟨true,λv hv _ _ n=>⟨λ_=>rfl,λ_=>?_⟩,λx1 x2 n=>⟨λ_=>rfl,λ_=>?_⟩,λx1 x2=>⟨λ_=>rfl,λ_=>?_⟩⟩
  ·rcases hv with e|e<;>rw[e] at n⊢<;>lia
  ·grind
  ·refine(yB la).2.mp ?_;have p1:=pos d1 (kM x2);have p2:=pos d2 x1
   by_cases z:dt a.1 a.2 s.1=0
   ·have n1:dX s.1 M≠0:=λw=>nz w z;have n2:dt a.1 a.2 s.2≠0:=λw=>col ⟨z,w⟩;have:=mC (show 0<dt a.1 a.2 s.2 by lia) (show 0<dX s.1 M by lia)
    lia
   ·have:=mC (show 0<dt a.1 a.2 s.1 by lia) x2
    lia
 have Dn:dt a.1 a.2 s.1<=0->dt a.1 a.2 s.2<=0->∃up:Bool,(∀v,v=s.1\/v=s.2->0<=dX a.1 v->0<=dX v a.2->dt a.1 a.2 v≠0->(0<dt a.1 a.2 v↔up=true))/\(0<=dX s.1 a.1->0<=dX a.1 s.2->dt s.1 s.2 a.1≠0->(dt s.1 s.2 a.1<0↔up=true))/\(0<=dX s.1 M->0<dX M s.2->(dt s.1 s.2 M<0↔up=true)):=λd1 d2=>by
  refine⟨false,λv hv _ _ n=>⟨λz=>?_,λz=>(by cases z)⟩,λx1 x2 n=>⟨λz=>?_,λz=>(by cases z)⟩,λx1 x2=>⟨λz=>?_,λz=>(by cases z)⟩⟩
  ·rcases hv with e|e<;>rw[e] at n z<;>lia
  ·have:=Kw d1 x2;have:=Kw d2 x1;have:=mD z la;lia
  ·have:=Kw d1 (kM x2);have:=Kw d2 x1;have:=mD z la;lia
 rcases q2 nc with q|q|q
 ·rcases wE q with z|z|z
  ·exact U (by lia) (by lia)
  ·exact Dn (by lia) (by lia)
  ·exact absurd z col
 ·by_cases u:0<=dt a.1 a.2 s.1/\0<=dt a.1 a.2 s.2
  ·exact U u.1 u.2
  by_cases d:dt a.1 a.2 s.1<=0/\dt a.1 a.2 s.2<=0
  ·exact Dn d.1 d.2
  have ev:∀v,v=s.1\/v=s.2->dt a.1 a.2 v*dX s.1 s.2+dt s.1 s.2 a.1*dX v a.2+dt s.1 s.2 a.2*dX a.1 v=0:=λv hv=>by
   have:=y8 s.1 s.2 a.1 a.2 v;have z:dt s.1 s.2 v=0:=by
    rcases hv with e|e
    ·rw[e];exact yI _ _
    ·rw[e];exact yo _ _
   rw[z,pY] at this;lia
  have ds:0<=dX s.1 s.2:=zO s3;have OK:∀v:Q3,0<v.w->dX v a.2=0->dX a.1 v=0->False:=λv hw z1 z2=>by
   have:v.w*dX a.1 a.2=a.1.w*dX v a.2+a.2.w*dX a.1 v:=by unfold dX;grind
   rw[z1,z2,ph,ph] at this;have:=mC hw la;lia
  have vw:∀v,v=s.1\/v=s.2->0<v.w:=λv hv=>by
   rcases hv with e|e
   ·rw[e];exact s1.pos
   ·rw[e];exact s2.pos
  rcases wE q with⟨z1,z2⟩|⟨z1,z2⟩|⟨z1,z2⟩
  ·refine⟨false,λv hv x1 x2 n=>⟨λz=>?_,λz=>(by cases z)⟩,λx1 x2 n=>⟨λz=>by lia,λz=>(by cases z)⟩,λx1 x2=>⟨λz=>?_,λz=>(by cases z)⟩⟩
   ·have e:=ev v hv;have p0:=pos (kM z) ds;have p1:=pos (kM z1) x2;have p2:=pos (kM z2) x1;have w1:=(kX.mp (show dt s.1 s.2 a.1*dX v a.2=0 by lia)).resolve_left (by lia)
    have w2:=(kX.mp (show dt s.1 s.2 a.2*dX a.1 v=0 by lia)).resolve_left (by lia)
    exact(OK v (vw v hv) w1 w2).elim
   ·have:=mD z la;have:=mC z1 M2;have:=mC z2 M1;lia
  ·refine⟨true,λv hv x1 x2 n=>⟨λ_=>rfl,λ_=>?_⟩,λx1 x2 n=>⟨λ_=>rfl,λ_=>z1⟩,λx1 x2=>⟨λ_=>rfl,λ_=>?_⟩⟩
   ·have e:=ev v hv;rcases UX (dt a.1 a.2 v) 0 with z|z
    ·exfalso
     have p0:=Kw (kM z) ds;have p1:=Kw (kM z1) x2;have p2:=Kw (kM z2) x1;have w1:=(kX.mp (show dt s.1 s.2 a.1*dX v a.2=0 by lia)).resolve_left (by lia)
     have w2:=(kX.mp (show dt s.1 s.2 a.2*dX a.1 v=0 by lia)).resolve_left (by lia)
     exact OK v (vw v hv) w1 w2
    ·lia
   ·refine(yB la).2.mp ?_;have:=mD z1 M2;have:=mD z2 M1;lia
  ·exact absurd (vP s1 s2 s3 z1 z2) col
 ·have on:∀{w:Q3},w=a.1\/w=a.2->dt a.1 a.2 w=0:=λ{w} h=>by
   rcases h with e|e
   ·rw[e];exact yI _ _
   ·rw[e];exact yo _ _
  have z:dt a.1 a.2 s.1=0\/dt a.1 a.2 s.2=0:=by grind
  by_cases u:0<=dt a.1 a.2 s.1/\0<=dt a.1 a.2 s.2
  ·exact U u.1 u.2
  ·exact Dn (by lia) (by lia)
end
noncomputable def zM(a s:Q3×Q3):Bool:=(bU s&&(bq s.1 a.1&&(bq a.1 s.2&&decide (dt s.1 s.2 a.1<0))))||(decide (s.1=a.1)&&decide (0<dt a.1 a.2 s.2))
def Jw(fs:List (Q3×Q3))(i j:Nat):xU fs i j=zM (fs.getD i zQ) (fs.getD j zQ):=rfl
noncomputable def cS(a:Q3×Q3)(M v:Q3):Bool:=bq a.1 v&&(decide (0<=dX v M)&&decide (0<dt a.1 a.2 v))
noncomputable def eG(M v:Q3):Bool:=decide (dX v M=0)&&decide (0<dY M v)
theorem zy{p q r:Q3}(hp:0<p.w)(hq:0<q.w)(hr:0<r.w):(0<=dX p q->0<=dX q r->0<=dX p r)/\(0<=dX p q->0<dX q r->0<dX p r)/\(0<dX p q->0<=dX q r->0<dX p r):=by
 have e:q.w*dX p r=r.w*dX p q+p.w*dX q r:=by unfold dX;grind
 have sg:=yB (x:=dX p r) hq;rw[uY] at e;refine⟨λh1 h2=>?_,λh1 h2=>?_,λh1 h2=>?_⟩
 ·refine DZ.mp λz=>?_;have:=sg.2.mpr z;have:=kz (kM hr) h1;have:=kz (kM hp) h2;lia
 ·refine sg.1.mp ?_;have:=kz (kM hr) h1;have:=kf hp h2;lia
 ·refine sg.1.mp ?_;have:=kf hr h1;have:=kz (kM hp) h2;lia
theorem zS(p q:Q3):dX q p= -dX p q:=by unfold dX;grind
def yz{p q:Q3}(h:0<dX p q):bq p q=true:=by
 refine xv.mpr (.inl ?_);rw[gA];exact h
def YW{p q:Prop}[Decidable p][Decidable q](h:p↔q):decide p=decide q:=ω.mpr h
section
variable{m:Nat}{fs:List (Q3×Q3)}(A:Ap m fs){a s:Q3×Q3}{M:Q3}(ha:a∈fs)(hs:s∈fs)
include A ha hs
theorem sj(la:0<dX a.1 a.2)(Mw:0<M.w)(M0:dt a.1 a.2 M=0)(M1:0<dX a.1 M)(M2:0<dX M a.2):(cS a M s.1^^cS a M s.2)=(zM a s^^ba s M):=by
 obtain⟨a1,a2,a3⟩:=A.ok a ha;obtain⟨s1,s2,s3⟩:=A.ok s hs;have wa:=a1.pos;have sm:=a2.pos;have ws:=s1.pos;have dE:=s2.pos
 by_cases ne:a=s
 ·subst ne;have r1:cS a M a.1=false:=by unfold cS;rw[zq];rfl
  have r2:cS a M a.2=false:=by unfold cS;rw[yo];simp
  have r3:zM a a=false:=by unfold zM;rw[zq,yo];simp
  have r4:ba a M=false:=by unfold ba;rw[M0];simp
  rw[r1,r2,r3,r4]
 have nz:∀v,v=s.1\/v=s.2->bq a.1 v=true->0<=dX v M->dt a.1 a.2 v≠0:=λv hv h1 h2 h0=>by
  have vp:PQ m v:=by rcases hv with e|e<;>rw[e]<;>assumption
  have vl:=(zy vp.pos Mw sm).2.1 h2 M2;have b2:bq a.2 v=false:=zt (yz vl);have:=Y4 A ha hs hv h1 b2 h0;rw[this] at vl;unfold dX at vl;lia
 have s12:=zO s3;have ig:∀{x:Bool},0<=dX s.1 M->0<dX M s.2->(dt s.1 s.2 M<0↔x=true)->ba s M=x:=λ{x} h1 h2 h3=>by
  unfold ba;rw[ζ h1,ζ h2]
  cases x
  ·exact ι λz=>nomatch h3.mp z
  ·exact ζ (h3.mpr rfl)
 have iF:¬0<dX M s.2->ba s M=false:=λh=>by unfold ba;rw[ι h];simp
 have OL:¬0<=dX s.1 M->ba s M=false:=λh=>by unfold ba;rw[ι h];rfl
 have TK:∀{v},bq a.1 v=false->cS a M v=false:=λh=>by unfold cS;rw[h];rfl
 have OM:∀{v},¬0<=dX v M->cS a M v=false:=λh=>by unfold cS;rw[ι h];simp
 have Kx:∀{v}{x:Bool},bq a.1 v=true->0<=dX v M->(0<dt a.1 a.2 v↔x=true)->cS a M v=x:=λ{v x} h1 h2 h3=>by
  unfold cS;rw[h1,ζ h2]
  cases x
  ·exact ι λz=>nomatch h3.mp z
  ·exact ζ (h3.mpr rfl)
 have nl:∀{v:Q3},¬0<=dX v M->0<dX M v:=λ{v} h=>by rw[zS];lia
 have nr:∀{v:Q3},0<=dX v M->¬0<dX M v:=λ{v} h=>by rw[zS];lia
 cases c1:bq s.1 a.1 with
 |true=>
  have q1:cS a M s.1=false:=TK (zt c1);have n1:¬s.1=a.1:=λe=>by rw[e,zq] at c1;cases c1
  have x1:0<dX s.1 M:=(zy ws wa Mw).2.1 (zO c1) M1
  cases c2:bq a.1 s.2 with
  |false=>
   have q2:cS a M s.2=false:=TK c2;have q3:zM a s=false:=by unfold zM;rw[c2,ι n1];simp
   have q4:ba s M=false:=iF (nr (kM ((zy dE wa Mw).2.1 (vM c2) M1)));rw[q1,q2,q3,q4]
  |true=>
   have pn:dt s.1 s.2 a.1≠0:=λz=>by
    have:=Y4 A hs ha (.inl rfl) c1 (zt c2) z;rw[this,zq] at c2;cases c2
   have b1:bq s.1 a.2=true:=yt s1 a1 a2 c1 a3;obtain⟨up,u1,u2,u3⟩:=J0 A ha hs la b1 c2 ne M0 M1 M2 λz=>by lia
   by_cases l:0<=dX s.2 M
   ·have lv:bU s=true:=by
     cases z:bU s with
     |true=>rfl
     |false=>
      exfalso
      unfold bU at z;rw[Ek,τ] at z;have d0:dX s.1 s.2=0:=by unfold dX;lia
      have k1:=zO c1;have k2:=zO c2;have e:a.1.w*dX s.1 s.2=s.2.w*dX s.1 a.1+s.1.w*dX a.1 s.2:=by unfold dX;grind
      rw[d0,ph] at e;have m1:=kz (kM dE) k1;have m2:=kz (kM ws) k2;have y1:=(kX.mp (show s.2.w*dX s.1 a.1=0 by lia)).resolve_left (by lia)
      have e2:=Vn s.1 s.2 a.1;have y2:=(kX.mp (show s.1.w*dX a.1 s.2=0 by lia)).resolve_left (by lia)
      rw[y1,y2,ph,pY,Int.sub_self] at e2;exact pn ((kX.mp e2).resolve_left (by lia))
    have q2:cS a M s.2=up:=Kx c2 l (u1 s.2 (.inr rfl) (zO c2) (kM ((zy dE Mw sm).2.1 l M2)) (nz s.2 (.inr rfl) c2 l));have q3:zM a s=up:=by
     have:=u2 (zO c1) (zO c2) pn;unfold zM;rw[lv,c1,c2,ι n1]
     cases up
     ·rw[ι λz=>nomatch this.mp z];rfl
     ·rw[ζ (this.mpr rfl)];rfl
    have q4:ba s M=false:=iF (nr l);rw[q1,q2,q3,q4];cases up<;>rfl
   ·have q2:cS a M s.2=false:=OM l;have x2:=nl l;have lv:bU s=true:=by
     have:=(zy ws Mw dE).2.2 x1 (kM x2);unfold bU;rw[ι (λz=>by unfold dX at this;lia)];rfl
    have q3:zM a s=up:=by
     have:=u2 (zO c1) (zO c2) pn;unfold zM;rw[lv,c1,c2,ι n1]
     cases up
     ·rw[ι λz=>nomatch this.mp z];rfl
     ·rw[ζ (this.mpr rfl)];rfl
    have q4:ba s M=up:=ig (kM x1) x2 (u3 (kM x1) x2);rw[q1,q2,q3,q4];cases up<;>rfl
 |false=>
  by_cases e:s.1=a.1
  ·have q1:cS a M s.1=false:=TK (by rw[e];exact zq _)
   have c2:bq a.1 s.2=true:=by rw[<-e];exact s3
   have q3:zM a s=decide (0<dt a.1 a.2 s.2):=by unfold zM;rw[c1,ζ e];simp
   by_cases l:0<=dX s.2 M
   ·have q2:cS a M s.2=decide (0<dt a.1 a.2 s.2):=by unfold cS;rw[c2,ζ l];rfl
    rw[q1,q2,q3,iF (nr l)];simp
   ·have q2:cS a M s.2=false:=OM l;have x2:=nl l;have x1:0<dX s.1 M:=by rw[e];exact M1
    have eM:=y8 a.1 a.2 s.1 s.2 M;have z1:dt a.1 a.2 s.1=0:=by rw[e];exact yI _ _
    rw[M0,z1] at eM;simp only[pY,UY] at eM;have eH:(dt s.1 s.2 M<0↔decide (0<dt a.1 a.2 s.2)=true):=by
     rw[τ];have k1:=yB (x:=dt s.1 s.2 M) la;have k2:=yB (x:=dt a.1 a.2 s.2) x1;rw[<-k1.2,<-k2.1];lia
    rw[q1,q2,q3,ig (kM x1) x2 eH];simp
  ·have c3:bq a.1 s.1=true:=(xr s1 a1 e).resolve_left (by rw[c1];decide)
   have c2:bq a.1 s.2=true:=yt a1 s1 s2 c3 s3;have q3:zM a s=false:=by unfold zM;rw[c1,ι e];simp
   by_cases l:0<=dX s.1 M
   ·have b1:bq s.1 a.2=true:=yz ((zy ws Mw sm).2.1 l M2);have n1:=nz s.1 (.inl rfl) c3 l;obtain⟨up,u1,u2,u3⟩:=J0 A ha hs la b1 c2 ne M0 M1 M2 λ_=>n1;have q1:cS a M s.1=up:=Kx c3 l (u1 s.1 (.inl rfl) (zO c3) (kM ((zy ws Mw sm).2.1 l M2)) n1)
    by_cases l2:0<=dX s.2 M
    ·have q2:cS a M s.2=up:=Kx c2 l2 (u1 s.2 (.inr rfl) (zO c2) (kM ((zy dE Mw sm).2.1 l2 M2)) (nz s.2 (.inr rfl) c2 l2));rw[q1,q2,q3,iF (nr l2)];cases up<;>rfl
    ·have q2:cS a M s.2=false:=OM l2;rw[q1,q2,q3,ig l (nl l2) (u3 l (nl l2))];cases up<;>rfl
   ·have x1:=nl l;have l2:¬0<=dX s.2 M:=λz=>by
     have:=(zy Mw ws dE).2.2 x1 s12;have:=nr z;lia
    rw[OM l,OM l2,q3,OL l]
end
theorem vI{p q r:Q3}(hp:0<p.w)(hq:0<q.w)(hr:0<r.w):(0<=dY p q->0<=dY q r->0<=dY p r)/\(0<=dY p q->0<dY q r->0<dY p r)/\(0<dY p q->0<=dY q r->0<dY p r):=by
 have e:q.w*dY p r=r.w*dY p q+p.w*dY q r:=by unfold dY;grind
 have sg:=yB (x:=dY p r) hq;rw[uY] at e;refine⟨λh1 h2=>?_,λh1 h2=>?_,λh1 h2=>?_⟩
 ·refine DZ.mp λz=>?_;have:=sg.2.mpr z;have:=kz (kM hr) h1;have:=kz (kM hp) h2;lia
 ·refine sg.1.mp ?_;have:=kz (kM hr) h1;have:=kf hp h2;lia
 ·refine sg.1.mp ?_;have:=kf hr h1;have:=kz (kM hp) h2;lia
theorem xK(p q:Q3):dY q p= -dY p q:=by unfold dY;grind
theorem qH(a b r:Q3):dt a b r*a.w=dX a b*dY a r-dY a b*dX a r:=by unfold dt dX dY aE br bu bx;grind
def Wf(a b r:Q3):dt a b r*r.w=dY a r*dX r b-dX a r*dY r b:=by rw[uY];exact Vn a b r
theorem yY{p q:Q3}(h:dX p q=0):bq p q=decide (0<dY p q):=by
 cases e:bq p q with
 |true=>
  have:=xv.mp e;unfold Lt LP at this;simp only[gA] at this;exact(ζ (by lia)).symm
 |false=>
  refine(ι λz=>?_).symm;have:bq p q=true:=xv.mpr (.inr ⟨by rw[gA];exact h,by rw[gA];exact z⟩)
  rw[e] at this;cases this
section
variable{m:Nat}{fs:List (Q3×Q3)}(A:Ap m fs){a s:Q3×Q3}{M:Q3}(ha:a∈fs)(hs:s∈fs)
include A ha hs
theorem sn(ua:dX a.1 a.2=0)(Mw:0<M.w)(M0:dX a.1 M=0)(M1:0<dY a.1 M)(M2:0<dY M a.2):(eG M s.1^^eG M s.2)=((zM a s^^ba s M)^^decide (s=a)):=by
 obtain⟨a1,a2,a3⟩:=A.ok a ha;obtain⟨s1,s2,s3⟩:=A.ok s hs;have wa:=a1.pos;have sm:=a2.pos;have ws:=s1.pos;have dE:=s2.pos;have ya:0<dY a.1 a.2:=(vI wa Mw sm).2.1 (kM M1) M2;have xn:∀p q:Q3,dX q p= -dX p q:=zS;have Ma2:dX M a.2=0:=by
  have e:M.w*dX a.1 a.2=a.2.w*dX a.1 M+a.1.w*dX M a.2:=by unfold dX;grind
  rw[ua,M0,ph,ph,BE] at e;exact(kX.mp e.symm).resolve_left (by lia)
 by_cases ne:s=a
 ·subst ne;have r1:eG M s.1=false:=by unfold eG;rw[ι (show ¬0<dY M s.1 by rw[xK];lia)];simp
  have r2:eG M s.2=true:=by unfold eG;rw[ζ (show dX s.2 M=0 by rw[xn];lia),ζ M2];rfl
  have r3:zM s s=false:=by unfold zM;rw[zq,yo];simp
  have r4:ba s M=false:=by unfold ba;rw[ι (show ¬0<dX M s.2 by lia)];simp
  rw[r1,r2,r3,r4];simp
 rw[ι ne,BL];have s12:=zO s3;have xP:∀{v:Q3},0<v.w->(0<dX v M->0<dX v a.1)/\(dX v M=0->dX v a.1=0)/\(dX v M<0->dX v a.1<0):=λ{v} hv=>by
  have e:M.w*dX v a.1=a.1.w*dX v M+v.w*dX M a.1:=by unfold dX;grind
  rw[xn a.1 M,M0,UH,ph,UY,uY] at e;have sg:=yB (x:=dX v a.1) Mw;refine⟨λh=>sg.1.mp ?_,λh=>?_,λh=>sg.2.mp ?_⟩
  ·have:=kf wa h;lia
  ·rw[h,ph] at e;exact(kX.mp e).resolve_right (by lia)
  ·have:=kx h wa;rw[uY] at this;lia
 have Rx:∀{v:Q3},dX v M≠0->eG M v=false:=λh=>by unfold eG;rw[ι h];rfl
 have da:∀r:Q3,dt a.1 a.2 r*a.1.w= -(dY a.1 a.2*dX a.1 r):=λr=>by rw[qH,ua,pY,HF]
 rcases(by lia:0<dX s.1 M\/dX s.1 M=0\/dX s.1 M<0) with c1|c1|c1
 ·have q1:eG M s.1=false:=Rx (by lia)
  have p1:=(xP ws).1 c1;have b1:bq s.1 a.1=true:=yz p1;have n1:¬s.1=a.1:=λe=>by rw[e,zq] at b1;cases b1
  rcases(by lia:0<dX s.2 M\/dX s.2 M=0\/dX s.2 M<0) with c2|c2|c2
  ·have b2:bq a.1 s.2=false:=zt (yz ((xP dE).1 c2));have q3:zM a s=false:=by unfold zM;rw[b2,ι n1];simp
   have q4:ba s M=false:=by unfold ba;rw[ι (show ¬0<dX M s.2 by rw[xn];lia)];simp
   rw[q1,Rx (by lia),q3,q4]
  ·have p2:=(xP dE).2.1 c2;have Q8:dX a.1 s.2=0:=by rw[xn];lia
   have lv:bU s=true:=by
    have:=(zy ws Mw dE).2.2 c1 (by rw[xn];lia)
    unfold bU;rw[ι (λz=>by unfold dX at this;lia)];rfl
   have q4:ba s M=false:=by unfold ba;rw[ι (show ¬0<dX M s.2 by rw[xn];lia)];simp
   have q3:zM a s=decide (0<dY a.1 s.2):=by
    unfold zM;rw[lv,b1,yY Q8,ι n1]
    by_cases y:0<dY a.1 s.2
    ·have e:=Wf s.1 s.2 a.1;rw[Q8,ph,HF] at e;have:=kf p1 y;have:dt s.1 s.2 a.1<0:=(yB wa).2.mp (by lia)
     rw[ζ y,ζ this];rfl
    ·rw[ι y];simp
   have q2:eG M s.2=decide (0<dY M s.2):=by unfold eG;rw[ζ c2];rfl
   have eH:0<dY a.1 s.2↔0<dY M s.2:=by
    refine⟨λh=>?_,λh=>(vI wa Mw dE).2.1 (kM M1) h⟩;rcases UX 0 (dY M s.2) with z|z
    ·exact z
    ·exfalso
     have b2:bq a.1 s.2=true:=by rw[yY Q8];exact ζ h
     have y2:0<dY s.2 a.2:=(vI dE Mw sm).2.1 (by rw[xK];lia) M2
     have x2:dX s.2 a.2=0:=by
      have e:M.w*dX s.2 a.2=a.2.w*dX s.2 M+s.2.w*dX M a.2:=by unfold dX;grind
      rw[c2,Ma2,ph,ph,UY] at e;exact(kX.mp e).resolve_left (by lia)
     have b3:bq s.2 a.2=true:=by rw[yY x2];exact ζ y2
     have z0:dt a.1 a.2 s.2=0:=by
      have:=da s.2;rw[Q8,ph,UH] at this;exact(kX.mp this).resolve_right (by lia)
     have:=Y4 A ha hs (.inr rfl) b2 (zt b3) z0;rw[this,zq] at b3;cases b3
   rw[q1,q2,q3,q4,YW eH];simp
  ·have p2:=(xP dE).2.2 c2;have lv:bU s=true:=by
    have:=(zy ws Mw dE).2.2 c1 (by rw[xn];lia)
    unfold bU;rw[ι (λz=>by unfold dX at this;lia)];rfl
   have x2:0<dX M s.2:=by rw[xn];lia
   have b2:bq a.1 s.2=true:=yz (by rw[xn];lia)
   have q3:zM a s=decide (dt s.1 s.2 a.1<0):=by unfold zM;rw[lv,b1,b2,ι n1];simp
   have q4:ba s M=decide (dt s.1 s.2 M<0):=by unfold ba;rw[ζ (kM c1),ζ x2];rfl
   have b3:bq s.1 a.2=true:=yt s1 a1 a2 b1 a3;have d1:0<dt a.1 a.2 s.1:=(yB wa).1.mp (by
    rw[da,xn s.1 a.1];have:=kf ya p1;rw[gB];lia)
   have d2:dt a.1 a.2 s.2<0:=(yB wa).2.mp (by
    rw[da,xn s.2 a.1];have:=kf ya (show 0< -dX s.2 a.1 by lia)
    lia)
   have same:aw (dt s.1 s.2 a.1)=aw (dt s.1 s.2 a.2):=by
    rcases A.ap a ha s hs (λe=>ne e.symm) with q|q|⟨_,q2⟩
    ·rw[zt b3] at q;cases q
    ·rw[zt b2] at q;cases q
    rcases q2 (λz=>by have:=zL.mp z.1;lia) with q|q|q
    ·rw[Zl d1,VZ d2] at q;lia
    ·exact q
    ·grind
   have eM:=jU s.1 s.2 a.1 a.2 M;have aM:dt a.1 a.2 M=0:=by
    have:=da M;rw[M0,ph,UH] at this;exact(kX.mp this).resolve_right (by lia)
   rw[aM,pY,BE] at eM;have eH:dt s.1 s.2 a.1<0↔dt s.1 s.2 M<0:=by
    rcases wE same with⟨z1,z2⟩|⟨z1,z2⟩|⟨z1,z2⟩
    ·have:=kf z1 M2;have:=kf z2 M1;have:=(yB (x:=dt s.1 s.2 M) ya).1.mp (by lia)
     lia
    ·have:=kx z1 M2;have:=kx z2 M1;have:=(yB (x:=dt s.1 s.2 M) ya).2.mp (by lia)
     lia
    ·have:=(vP s1 s2 s3 z1 z2).1;lia
   rw[q1,Rx (by lia),q3,q4,YW eH];simp
 ·have p1:=(xP ws).2.1 c1;have x2:0<=dX M s.2:=(zy Mw ws dE).1 (by rw[xn];lia) s12
  have xP2:0<=dX a.1 s.2:=(zy wa ws dE).1 (by rw[xn];lia) s12
  have q3:zM a s=false:=by
   unfold zM;have f1:(bq s.1 a.1&&(bq a.1 s.2&&decide (dt s.1 s.2 a.1<0)))=false:=by
    rw[yY p1]
    by_cases y:0<dY s.1 a.1
    ·have e:=Wf s.1 s.2 a.1;rw[p1,pY,DV] at e;have:=kz (kM y) xP2;rw[ι (show ¬dt s.1 s.2 a.1<0 from λz=>by have:=kx z wa;lia)]
     simp
    ·rw[ι y];rfl
   have f2:decide (0<dt a.1 a.2 s.2)=false:=ι λz=>by
    have:=kf z wa;have:=kz (kM ya) xP2;have:=da s.2;lia
   rw[f1,f2];simp
  by_cases lv:dX s.1 s.2=0
  ·have c2:dX s.2 M=0:=by
    have e:s.1.w*dX s.2 M=M.w*dX s.2 s.1+s.2.w*dX s.1 M:=by unfold dX;grind
    rw[xn s.1 s.2,lv,c1,UH,ph,ph,UY] at e;exact(kX.mp e).resolve_left (by lia)
   have ys:0<dY s.1 s.2:=by
    have:=s3;rw[yY lv] at this;exact ξ this
   have q4:ba s M=false:=by unfold ba;rw[ι (show ¬0<dX M s.2 by rw[xn];lia)];simp
   have q1:eG M s.1=decide (0<dY M s.1):=by unfold eG;rw[ζ c1];rfl
   have q2:eG M s.2=decide (0<dY M s.2):=by unfold eG;rw[ζ c2];rfl
   have eH:0<dY M s.1↔0<dY M s.2:=by
    refine⟨λh=>(vI Mw ws dE).2.2 h (kM ys),λh=>?_⟩;rcases UX 0 (dY M s.1) with z|z
    ·exact z
    ·exfalso
     have y1:0<dY s.1 a.2:=(vI ws Mw sm).2.1 (by rw[xK];lia) M2
     have y2:0<dY a.1 s.2:=(vI wa Mw dE).2.1 (kM M1) h;have z1:dt a.1 a.2 s.1=0:=by
      have:=da s.1;rw[xn s.1 a.1,p1,UH,ph,UH] at this;exact(kX.mp this).resolve_right (by lia)
     have p2:=(xP dE).2.1 c2;have z2:dt a.1 a.2 s.2=0:=by
      have:=da s.2;rw[xn s.2 a.1,p2,UH,ph,UH] at this;exact(kX.mp this).resolve_right (by lia)
     have g1:dX s.1 a.2=0:=by
      have e:M.w*dX s.1 a.2=a.2.w*dX s.1 M+s.1.w*dX M a.2:=by unfold dX;grind
      rw[c1,Ma2,ph,ph,UY] at e;exact(kX.mp e).resolve_left (by lia)
     have b1:bq s.1 a.2=true:=by rw[yY g1];exact ζ y1
     have b2:bq a.1 s.2=true:=by rw[yY (by rw[xn];lia)];exact ζ y2
     rcases A.ap a ha s hs (λe=>ne e.symm) with q|q|⟨q1',_⟩
     ·rw[zt b1] at q;cases q
     ·rw[zt b2] at q;cases q
     ·rcases q1' ⟨by rw[z1];rfl,by rw[z2];rfl⟩ with q|q
      ·rw[q,zq] at b1;cases b1
      ·rw[q,zq] at b2;cases b2
   rw[q1,q2,q3,q4,YW eH];simp
  ·have x3:0<dX M s.2:=(zy Mw ws dE).2.1 (by rw[xn];lia) (by lia)
   have q2:eG M s.2=false:=Rx (by rw[xn];lia)
   have q1:eG M s.1=decide (0<dY M s.1):=by unfold eG;rw[ζ c1];rfl
   have q4:ba s M=decide (dt s.1 s.2 M<0):=by unfold ba;rw[ζ (show 0<=dX s.1 M by lia),ζ x3];rfl
   have eH:0<dY M s.1↔dt s.1 s.2 M<0:=by
    have e:=Wf s.1 s.2 M;rw[c1,pY,DV] at e;rw[<-(yB (x:=dt s.1 s.2 M) Mw).2,e,(yB (x:=dY s.1 M) x3).2,xK];lia
   rw[q1,q2,q3,q4,YW eH];simp
 ·have x1:=(xP ws).2.2 c1;have c2:dX s.2 M≠0:=λz=>by
   have:=(zy Mw ws dE).2.2 (by rw[xn];lia) s12
   rw[xn] at this;lia
  have q3:zM a s=false:=by
   have b1:bq s.1 a.1=false:=zt (yz (by rw[xn];lia))
   unfold zM;rw[b1,ι (λe:s.1=a.1=>by rw[e] at x1;unfold dX at x1;lia)];simp
  have q4:ba s M=false:=by unfold ba;rw[ι (show ¬0<=dX s.1 M by lia)];rfl
  rw[Rx (by lia),Rx c2,q3,q4]
end
noncomputable def ar(l:List Bool):Bool:=l.foldr (·^^·) false
def yj(a:Bool)(l:List Bool):ar (a::l)=(a^^ar l):=rfl
section
variable{α β:Type}
theorem wT(f g:α->Bool):∀l:List α,ar (l.map λa=>f a^^g a)=(ar (l.map f)^^ar (l.map g))
 |[]=>rfl
 |a::l=>by
  rw[kZ,kZ,kZ,yj,yj,yj,wT f g l]
  cases f a<;>cases g a<;>cases ar (l.map f)<;>cases ar (l.map g)<;>rfl
theorem vH{f:α->Bool}:∀{l:List α},(∀a∈l,f a=false)->ar (l.map f)=false
 |[],_=>rfl
 |a::l,h=>by rw[kZ,yj,h a (by simp),vH λb hb=>h b (by simp[hb])];rfl
def zY{f g:α->Bool}{l:List α}(h:∀a∈l,f a=g a):ar (l.map f)=ar (l.map g):=by rw[QS h]
theorem vo(b:Bool)(f:α->Bool):∀l:List α,ar (l.map λa=>b&&f a)=(b&&ar (l.map f))
 |[]=>by cases b<;>rfl
 |a::l=>by
  rw[kZ,kZ,yj,yj,vo b f l]
  cases b<;>cases f a<;>cases ar (l.map f)<;>rfl
theorem YR(f:α->β->Bool)(m:List β):∀l:List α,ar (l.map λa=>ar (m.map λb=>f a b))=ar (m.map λb=>ar (l.map λa=>f a b))
 |[]=>(vH λ_ _=>rfl).symm
 |a::l=>by
  rw[kZ,yj,YR f m l,<-wT];rfl
theorem Yc[DecidableEq α]{R:α->Bool}{x:α}:∀{l:List α},l.Nodup->x∈l->ar (l.map λv=>R v&&decide (x=v))=R x
 |[],_,h=>by cases h
 |v::l,nd,h=>by
  obtain⟨n1,n2⟩:=uU.mp nd;rw[kZ,yj]
  by_cases e:x=v
  ·subst e;rw[vH λw hw=>by rw[ι (λz:x=w=>n1 (by rw[z];exact hw))];simp]
   simp
  ·rw[ι e,Yc n2 ((kT.mp h).resolve_left e)]
   simp
end
def ON(fs:List (Q3×Q3))(E:Nat->Bool):Prop:=∀v,(ar ((kN fs.length).map λj=>E j&&decide ((fs.getD j zQ).1=v))^^ar ((kN fs.length).map λj=>E j&&decide ((fs.getD j zQ).2=v)))=false
def A0{fs:List (Q3×Q3)}{E:Nat->Bool}(h:ON fs E)(R:Q3->Bool){V:List Q3}(nd:V.Nodup)(hV:∀s∈fs,s.1∈V/\s.2∈V):ar ((kN fs.length).map λj=>E j&&(R (fs.getD j zQ).1^^R (fs.getD j zQ).2))=false:=by
 have one:∀(p:Q3×Q3->Q3),(∀s∈fs,p s∈V)->ar ((kN fs.length).map λj=>E j&&R (p (fs.getD j zQ)))=ar (V.map λv=>R v&&ar ((kN fs.length).map λj=>E j&&decide (p (fs.getD j zQ)=v))):=λp hp=>by
  rw[zY (g:=λj=>ar (V.map λv=>E j&&(R v&&decide (p (fs.getD j zQ)=v)))) λj hj=>by
   rw[vo,Yc nd (hp _ (zg (kn.mp hj)))]]
  rw[YR];refine zY λv _=>?_;rw[<-vo];refine zY λj _=>?_
  cases E j<;>cases R v<;>rfl
 rw[zY (g:=λj=>(E j&&R (fs.getD j zQ).1)^^(E j&&R (fs.getD j zQ).2)) λj _=>by cases E j<;>simp]
 rw[wT,one pH λs hs=>(hV s hs).1,one HK λs hs=>(hV s hs).2,<-wT];refine vH λv _=>?_;have:=h v
 cases R v
 ·rfl
 ·rw[Qn,Qn];exact this
structure Ky(a:Q3×Q3)(M:Q3):Prop where
 w:0<M.w
 on:dt a.1 a.2 M=0
 lv:0<dX a.1 a.2->0<dX a.1 M/\0<dX M a.2
 up:dX a.1 a.2=0->dX a.1 M=0/\0<dY a.1 M/\0<dY M a.2
theorem JU(l:List Q3):∃V:List Q3,V.Nodup/\∀p∈l,p∈V:=by
 induction l with
 |nil=>exact⟨[],.nil,λp h=>(by cases h)⟩
 |cons a l ih=>
  obtain⟨V,h1,h2⟩:=ih
  by_cases c:a∈V
  ·exact⟨V,h1,λp hp=>(kT.mp hp).elim (λe=>e▸c) (h2 p)⟩
  ·exact⟨a::V,uU.mpr ⟨c,h1⟩,λp hp=>(kT.mp hp).elim (λe=>by rw[e];simp) λz=>uM _ (h2 p z)⟩
section
variable{m:Nat}{fs:List (Q3×Q3)}(A:Ap m fs){E:Nat->Bool}(hE:ON fs E){i:Nat}(hi:i<fs.length){M:Q3}(hM:Ky (fs.getD i zQ) M)
include A hE hi hM
theorem Kz(la:0<dX (fs.getD i zQ).1 (fs.getD i zQ).2):ar ((kN fs.length).map λj=>E j&&xU fs i j)=ar ((kN fs.length).map λj=>E j&&ba (fs.getD j zQ) M):=by
 obtain⟨V,nd,hV⟩:=JU (ye fs);have s:=A0 hE (cS (fs.getD i zQ) M) nd λs hs=>⟨hV _ (xf hs).1,hV _ (xf hs).2⟩;obtain⟨M1,M2⟩:=hM.lv la;rw[zY (g:=λj=>(E j&&xU fs i j)^^(E j&&ba (fs.getD j zQ) M)) λj hj=>by
  rw[sj A (zg hi) (zg (kn.mp hj)) la hM.w hM.on M1 M2,Jw]
  cases E j<;>simp] at s
 rw[wT] at s;generalize ar ((kN fs.length).map λj=>E j&&xU fs i j)=x at*;generalize ar ((kN fs.length).map λj=>E j&&ba (fs.getD j zQ) M)=y at*
 cases x<;>cases y<;>first|rfl|cases s
theorem KA(ua:dX (fs.getD i zQ).1 (fs.getD i zQ).2=0):(ar ((kN fs.length).map λj=>E j&&xU fs i j)^^E i)=ar ((kN fs.length).map λj=>E j&&ba (fs.getD j zQ) M):=by
 obtain⟨V,nd,hV⟩:=JU (ye fs);have s:=A0 hE (eG M) nd λs hs=>⟨hV _ (xf hs).1,hV _ (xf hs).2⟩;obtain⟨M0,M1,M2⟩:=hM.up ua;rw[zY (g:=λj=>((E j&&xU fs i j)^^(E j&&ba (fs.getD j zQ) M))^^(E j&&decide (i=j))) λj hj=>by
  rw[sn A (zg hi) (zg (kn.mp hj)) ua hM.w M0 M1 M2,Jw];have:decide (fs.getD j zQ=fs.getD i zQ)=decide (i=j):=ω.mpr ⟨λe=>qT A.nd zQ hi (kn.mp hj) e.symm,λe=>by rw[e]⟩
  rw[this]
  cases E j<;>simp] at s
 rw[wT,wT] at s;rw[Yc (R:=E) (l:=kN fs.length) Fe (kn.mpr hi)] at s;generalize ar ((kN fs.length).map λj=>E j&&xU fs i j)=x at*;generalize ar ((kN fs.length).map λj=>E j&&ba (fs.getD j zQ) M)=y at*;generalize E i=u at*
 cases u<;>cases x<;>cases y<;>first|rfl|cases s
end
theorem J6(b:Nat):∀l:List Nat,(xs l).testBit b=ar (l.map λa=>a.testBit b)
 |[]=>by simp[xs,ar]
 |a::l=>by rw[xS,GG,J6 b l];rfl
theorem Zz{f:Nat->Bool}{p:Nat->Bool}:∀l:List Nat,ar ((l.filter p).map f)=ar (l.map λj=>f j&&p j)
 |[]=>rfl
 |a::l=>by
  rw[UE,kZ,yj,<-Zz l]
  cases p a
  ·simp
  ·simp[yj]
def so{m:Nat}{fs:List (Q3×Q3)}(A:Ap m fs){ms:List Nat}{b:Nat}(hE:ON fs λj=>(ms.getD j 0).testBit b){i:Nat}(hi:i<fs.length){M:Q3}(hM:Ky (fs.getD i zQ) M):
  (0<dX (fs.getD i zQ).1 (fs.getD i zQ).2->(spT fs ms i).1.testBit b=ar ((kN fs.length).map λj=>(ms.getD j 0).testBit b&&ba (fs.getD j zQ) M))/\
  (dX (fs.getD i zQ).1 (fs.getD i zQ).2=0->(spT fs ms i).2.testBit b=ar ((kN fs.length).map λj=>(ms.getD j 0).testBit b&&ba (fs.getD j zQ) M))/\(spT fs ms i).2.testBit b=((spT fs ms i).1.testBit b^^(ms.getD i 0).testBit b):=by
 have e1:(vd fs ms i).testBit b=ar ((kN fs.length).map λj=>(ms.getD j 0).testBit b&&xU fs i j):=by
  unfold vd;rw[J6,uE];exact Zz (f:=λj=>(ms.getD j 0).testBit b) _
 have e2:(spT fs ms i).2.testBit b=((spT fs ms i).1.testBit b^^(ms.getD i 0).testBit b):=GG ..;refine⟨λla=>?_,λua=>?_,e2⟩
 ·show(vd fs ms i).testBit b=_
  rw[e1];exact Kz A hE hi hM la
 ·rw[e2];show((vd fs ms i).testBit b^^_)=_;rw[e1];exact KA A hE hi hM ua
noncomputable def zx(a:Q3×Q3):Q3:=⟨a.1.x*a.2.w+a.2.x*a.1.w,a.1.y*a.2.w+a.2.y*a.1.w,2*a.1.w*a.2.w⟩
theorem V7{a:Q3×Q3}(h1:0<a.1.w)(h2:0<a.2.w)(hb:bq a.1 a.2=true):Ky a (zx a):=by
 have e1:dX a.1 (zx a)=dX a.1 a.2*a.1.w:=by unfold dX zx;grind
 have e2:dX (zx a) a.2=dX a.1 a.2*a.2.w:=by unfold dX zx;grind
 have f1:dY a.1 (zx a)=dY a.1 a.2*a.1.w:=by unfold dY zx;grind
 have f2:dY (zx a) a.2=dY a.1 a.2*a.2.w:=by unfold dY zx;grind
 refine⟨?_,?_,λla=>?_,λua=>?_⟩
 ·show 0<2*a.1.w*a.2.w
  exact kf (kf (by decide) h1) h2
 ·unfold dt aE zx br bu bx;grind
 ·rw[e1,e2];exact⟨kf la h1,kf la h2⟩
 ·rw[yY ua] at hb;have:=ξ hb;rw[e1,ua,pY,f1,f2];exact⟨rfl,kf this h1,kf this h2⟩
end Nu
variable{k:Nat}
namespace Nu
theorem Ww{α:Type}{f:α->Bool}:∀{l:List α}(d0:α),(∀i j,i<l.length->j<l.length->f (l.getD i d0)=true->f (l.getD j d0)=true->i=j)->ar (l.map f)=decide (∃a∈l,f a=true)
 |[],_,_=>by simp[ar]
 |a::l,d0,h=>by
  have ih:=Ww (f:=f) (l:=l) d0 λi j hi hj h1 h2=>by
   have:=h (i+1) (j+1) (by simpa using hi) (by simpa using hj) (by simpa using h1) (by simpa using h2)
   lia
  rw[kZ,yj,ih]
  cases e:f a with
  |false=>
   rw[BG];refine ω.mpr ⟨λ⟨b,hb,z⟩=>⟨b,by simp[hb],z⟩,λ⟨b,hb,z⟩=>?_⟩
   rcases kT.mp hb with w|w
   ·rw[w,e] at z;cases z
   ·exact⟨b,w,z⟩
  |true=>
   have no:¬∃b∈l,f b=true:=by
    rintro⟨b,hb,z⟩;obtain⟨j,hj⟩:=pF.mp hb;have lj:=(kH.mp hj).1;have:=h 0 (j+1) (by simp) (by simpa using lj) (by simpa using e) (by
     have:(a::l).getD (j+1) d0=b:=by rw[kE,Qh,hj];rfl
     rw[this];exact z)
    lia
   rw[ι no,ζ ⟨a,by simp,e⟩];rfl
section
variable{n:Nat}{ss:List (Q3×Q3)}{ps:List (Nat×Nat)}{g:Int}
noncomputable instance{q:Q3}{i:Nat}:Decidable (aZ ss ps q i):=Classical.propDecidable _
noncomputable def stC(ss:List (Q3×Q3))(ps:List (Nat×Nat)):List Q3:=ye ss++ps.flatMap λx=>u6 (Q1 ss x)
def wI{q:Q3}{i:Nat}(h:aZ ss ps q i):q∈stC ss ps:=by
 unfold stC;rcases h with h|⟨x,hx,_,h⟩
 ·obtain⟨l,z⟩:=yE.mp h;refine uP _ ?_;rcases z with z|z
  ·rw[z];exact(xf (zg l)).1
  ·rw[z];exact(xf (zg l)).2
 ·exact uG _ (QC.mpr ⟨x,hx,Vp.mpr h⟩)
theorem W7{T:Q3->Prop}{R:Q3->Q3->Bool}(ir:∀a,R a a=false)(tr:∀a b c,T a->T b->T c->R a b=true->R b c=true->R a c=true):∀{l:List Q3},(∃r,r∈l/\T r)->∃p,p∈l/\T p/\∀r,r∈l->T r->R r p=false
 |[],⟨r,h,_⟩=>by cases h
 |a::l,⟨r,hr,ht⟩=>by
  by_cases z:∃r,r∈l/\T r
  ·obtain⟨p,h1,h2,h3⟩:=W7 ir tr z
   by_cases ta:T a/\R a p=true
   ·exact⟨a,by simp,ta.1,λr hr q=>(kT.mp hr).elim (λe=>e▸ir _) λhr=>pS.mpr λx=>Bool.eq_false_iff.mp (h3 r hr q) (tr _ _ _ q ta.1 h2 x ta.2)⟩
   ·exact⟨p,by simp[h1],h2,λr hr q=>(kT.mp hr).elim (λe=>pS.mpr λx=>ta (e▸⟨q,x⟩)) λhr=>h3 r hr q⟩
  ·have ea:∀r,r∈a::l->T r->r=a:=λr hr q=>(kT.mp hr).resolve_right λh=>z ⟨r,h,q⟩;exact⟨a,by simp,ea r hr ht▸ht,λr hr q=>ea r hr q▸ir _⟩
def WB{T:Q3->Prop}(hT:∀q,T q->PQ k q){l:List Q3}:(∃r,r∈l/\T r)->∃p,p∈l/\T p/\∀r,r∈l->T r->bq r p=false:=W7 zq λ_ _ _ a b c=>yt (hT _ a) (hT _ b) (hT _ c)
def Yg{T:Q3->Prop}(hT:∀q,T q->PQ k q){l:List Q3}:(∃r,r∈l/\T r)->∃p,p∈l/\T p/\∀r,r∈l->T r->bq p r=false:=W7 (R:=λa b=>bq b a) zq λ_ _ _ a b c x y=>yt (hT _ c) (hT _ b) (hT _ a) y x
noncomputable def sd:Bool->Q3×Q3->Q3
 |false,x=>x.1
 |true,x=>x.2
noncomputable def dR:Bool->Q3->Q3->Bool
 |false,p,q=>bq p q
 |true,p,q=>bq q p
variable(T:zr n ss ps g){fs:List (Q3×Q3)}(nd:fs.Nodup)(hf:∀f,f∈fs↔bT ss ps f)
include T nd hf
theorem JW(b:Bool)(hk:k<ss.length)(v:Q3):ar ((kN fs.length).map λj=>decide (k∈zH ss (fs.getD j zQ))&&decide (sd b (fs.getD j zQ)=v))=decide (aZ ss ps v k/\v≠sd (!b) (ss.getD k zQ)):=by
 have gm:∀i,i<fs.length->k∈zH ss (fs.getD i zQ)->aZ ss ps (sd b (fs.getD i zQ)) k/\aZ ss ps (sd (!b) (fs.getD i zQ)) k/\dR b (sd b (fs.getD i zQ)) (sd (!b) (fs.getD i zQ))=true/\∀r,aZ ss ps r k->dR b (sd b (fs.getD i zQ)) r=true->dR b r (sd (!b) (fs.getD i zQ))=true->False:=λi h ho=>by
  have p:=(hf _).mp (zg h);obtain⟨_,o1,o2⟩:=xg.mp ho;obtain⟨l1,l2,l3⟩:=bT.nb T p hk o1 o2;obtain⟨_,_,_,x,_⟩:=p
  cases b
  ·exact⟨l1,l2,x,l3⟩
  ·exact⟨l2,l1,x,λr h y z=>l3 r h z y⟩
 have st:∀q,aZ ss ps q k->dR b (sd (!b) (ss.getD k zQ)) q=false:=λq h=>by
  have:=zj (T.lies h).2.2
  cases b
  ·exact this.2.2
  ·exact this.2.1
 have tri:∀p q,aZ ss ps p k->aZ ss ps q k->dR b p q=false->dR b q p=false->p=q:=λp q hp hq x y=>by
  cases b
  ·exact xh (T.lies hp).2.1 (T.lies hq).2.1 x y
  ·exact xh (T.lies hp).2.1 (T.lies hq).2.1 y x
 rw[Ww 0 λi j hi hj h1 h2=>?_]
 ·refine ω.mpr ⟨λ⟨j,hj,z⟩=>?_,λ⟨h1,h2⟩=>?_⟩
  ·rw[pO,τ,τ] at z;obtain⟨l1,l2,x,_⟩:=gm j (kn.mp hj) z.1;rw[z.2] at l1 x;refine⟨l1,λe=>?_⟩;rw[e,st _ l2] at x;cases x
  ·have e2:aZ ss ps (sd (!b) (ss.getD k zQ)) k:=.inl (yE.mpr ⟨hk,by cases b;exact .inr rfl;exact .inl rfl⟩)
   have b2:dR b v (sd (!b) (ss.getD k zQ))=true:=by
    cases q:dR b v (sd (!b) (ss.getD k zQ)) with
    |true=>rfl
    |false=>exact absurd (tri _ _ h1 e2 q (st v h1)) h2
   obtain⟨w,w2,w3,w4⟩:∃w,aZ ss ps w k/\dR b v w=true/\∀r,aZ ss ps r k->dR b v r=true->dR b r w=true->False:=by
    cases b
    ·obtain⟨w,_,⟨w2,w3⟩,w4⟩:=WB (k:=4*n+3) (T:=λq=>aZ ss ps q k/\bq v q=true) (λq h=>(T.lies h.1).2.1) ⟨_,wI e2,e2,b2⟩;exact⟨w,w2,w3,λr h x y=>by have:=w4 r (wI h) ⟨h,x⟩;rw[show bq r w=true from y] at this;cases this⟩
    ·obtain⟨w,_,⟨w2,w3⟩,w4⟩:=Yg (k:=4*n+3) (T:=λq=>aZ ss ps q k/\bq q v=true) (λq h=>(T.lies h.1).2.1) ⟨_,wI e2,e2,b2⟩;exact⟨w,w2,w3,λr h x y=>by have:=w4 r (wI h) ⟨h,x⟩;rw[show bq w r=true from y] at this;cases this⟩
   obtain⟨f,e,pc⟩:∃f,(sd b f=v/\k∈zH ss f)/\bT ss ps f:=by
    have o1:=(T.lies h1).2.2;have o2:=(T.lies w2).2.2
    cases b
    ·exact⟨(v,w),⟨rfl,xg.mpr ⟨hk,o1,o2⟩⟩,k,h1,w2,w3,w4⟩
    ·exact⟨(w,v),⟨rfl,xg.mpr ⟨hk,o2,o1⟩⟩,k,w2,h1,w3,λr h x y=>w4 r h y x⟩
   obtain⟨j,hj⟩:=pF.mp ((hf _).mpr pc);refine⟨j,kn.mpr (kH.mp hj).1,?_⟩;have ej:fs.getD j zQ=f:=by rw[kE,hj];rfl
   rw[ej,ζ e.1,ζ e.2];rfl
 ·rw[pM] at hi hj;have gr:∀i,i<fs.length->(kN fs.length).getD i 0=i:=λi h=>by rw[kE,uA h];rfl
  rw[gr i hi,pO,τ,τ] at h1;rw[gr j hj,pO,τ,τ] at h2;obtain⟨_,l2,bi,l3⟩:=gm i hi h1.1;obtain⟨_,m2,bj,m3⟩:=gm j hj h2.1;rw[h1.2] at bi l3;rw[h2.2] at bj m3;have e:=tri _ _ l2 m2 (pS.mpr λq=>m3 _ l2 bi q) (pS.mpr λq=>l3 _ m2 bj q);have e':=h1.2.trans h2.2.symm;refine qT nd zQ hi hj ?_
  cases b
  ·exact Uy e' e
  ·exact Uy e e'
theorem KC{sel:Nat->Bool}(hs:∀v,ar ((kN ss.length).map λk=>sel k&&(decide ((ss.getD k zQ).1=v)^^decide ((ss.getD k zQ).2=v)))=false):ON fs λj=>ar ((kN ss.length).map λk=>sel k&&decide (k∈zH ss (fs.getD j zQ))):=λv=>by
 have one:∀(p:Q3×Q3->Q3),ar ((kN fs.length).map λj=>ar ((kN ss.length).map λk=>sel k&&decide (k∈zH ss (fs.getD j zQ)))&&decide (p (fs.getD j zQ)=v))=ar ((kN ss.length).map λk=>sel k&&ar ((kN fs.length).map λj=>decide (k∈zH ss (fs.getD j zQ))&&decide (p (fs.getD j zQ)=v))):=λp=>by
  rw[zY (g:=λj=>ar ((kN ss.length).map λk=>sel k&&(decide (k∈zH ss (fs.getD j zQ))&&decide (p (fs.getD j zQ)=v)))) λj _=>by
   rw[Gj,<-vo];refine zY λk _=>?_;generalize decide (p (fs.getD j zQ)=v)=a;generalize decide (k∈zH ss (fs.getD j zQ))=b
   cases sel k<;>cases a<;>cases b<;>rfl]
  rw[YR];refine zY λk _=>?_;rw[<-vo]
 show(ar ((kN fs.length).map λj=>_&&decide (sd false (fs.getD j zQ)=v))^^ar ((kN fs.length).map λj=>_&&decide (sd true (fs.getD j zQ)=v)))=false
 rw[one (sd false),one (sd true),<-wT];rw[zY (g:=λk=>sel k&&(decide ((ss.getD k zQ).1=v)^^decide ((ss.getD k zQ).2=v))) λk hk=>?_]
 ·exact hs v
 have hk:=kn.mp hk;have e1:=JW T nd hf false hk v;have e2:=JW T nd hf true hk v;rw[e1,e2];have l1:aZ ss ps (ss.getD k zQ).1 k:=.inl (yE.mpr ⟨hk,.inl rfl⟩);have l2:aZ ss ps (ss.getD k zQ).2 k:=.inl (yE.mpr ⟨hk,.inr rfl⟩);have ne:=Wc T hk
 cases sel k
 ·rfl
 rw[Qn,Qn,Qn]
 by_cases a:(ss.getD k zQ).1=v
 ·rw[ζ ⟨a▸l1,λe=>ne (a.trans e)⟩,ι (λz=>z.2 a.symm),ζ a,ι λz=>ne (a.trans z.symm)]
 ·by_cases b:(ss.getD k zQ).2=v
  ·rw[ι (λz=>z.2 b.symm),ζ ⟨b▸l2,λe=>a e.symm⟩,ι a,ζ b]
  ·rw[ι a,ι b]
   by_cases c:aZ ss ps v k
   ·rw[ζ ⟨c,λe=>b e.symm⟩,ζ ⟨c,λe=>a e.symm⟩];rfl
   ·rw[ι λz=>c z.1,ι λz=>c z.1]
end
end Nu
end
section
namespace Nu
section
variable{n:Nat}{ss:List (Q3×Q3)}{ps:List (Nat×Nat)}{g:Int}(T:zr n ss ps g){fs:List (Q3×Q3)}(nd:fs.Nodup)(hf:∀f,f∈fs↔bT ss ps f)
include T nd hf
theorem zag{k:Nat}(hk:k<ss.length){q:Q3}(qw:0<q.w):ar ((kN fs.length).map λj=>decide (k∈zH ss (fs.getD j zQ))&&ba (fs.getD j zQ) q)=ba (ss.getD k zQ) q:=by
 have gm:∀i,i<fs.length->bT ss ps (fs.getD i zQ):=λi h=>(hf _).mp (zg h);have gr:∀i,i<(kN fs.length).length->(kN fs.length).getD i 0=i:=λi h=>by grind
 obtain⟨k1,k2,k3⟩:=T.ok _ (zg hk);have same:∀{f:Q3×Q3},cZ ss f.1 k->cZ ss f.2 k->0<=dX f.1 q->0<dX q f.2->0<f.1.w->0<f.2.w->0<dX (ss.getD k zQ).1 (ss.getD k zQ).2/\(dt f.1 f.2 q<0↔dt (ss.getD k zQ).1 (ss.getD k zQ).2 q<0):=λ{f} o1 o2 h1 h2 w1 w2=>by
  have df:0<dX f.1 f.2:=(zy w1 qw w2).2.1 h1 h2;have e:=y8 (ss.getD k zQ).1 (ss.getD k zQ).2 f.1 f.2 q;obtain⟨z1,i1,i2⟩:=zj o1;obtain⟨z2,j1,j2⟩:=zj o2;rw[z1,z2,pY,pY,UY,UY] at e;have dk:0<dX (ss.getD k zQ).1 (ss.getD k zQ).2:=by
   have a:=(zy k1.pos w1 w2).2.1 (vM i1) df;exact(zy k1.pos w2 k2.pos).2.2 a (vM j2)
  refine⟨dk,?_⟩;rw[<-(yB (x:=dt (ss.getD k zQ).1 (ss.getD k zQ).2 q) df).2,e,(yB (x:=dt f.1 f.2 q) dk).2]
 have sp:∀{f:Q3×Q3},ba f q=true↔0<=dX f.1 q/\0<dX q f.2/\dt f.1 f.2 q<0:=λ{f}=>by
  unfold ba;rw[pO,pO,τ,τ,τ]
 rw[Ww 0 λi j hi hj h1 h2=>?_]
 ·have:(∃a∈kN fs.length,(decide (k∈zH ss (fs.getD a zQ))&&ba (fs.getD a zQ) q)=true)↔ba (ss.getD k zQ) q=true:=by
   constructor
   ·rintro⟨j,hj,z⟩;have hj:=kn.mp hj;rw[pO,τ] at z;obtain⟨z1,z2⟩:=z;obtain⟨_,o1,o2⟩:=xg.mp z1;obtain⟨l1,l2,_⟩:=bT.nb T (gm j hj) hk o1 o2;have p1:=(T.lies l1).2.1.pos;have p2:=(T.lies l2).2.1.pos;obtain⟨x1,x2,x3⟩:=sp.mp z2;obtain⟨dk,ds⟩:=same o1 o2 x1 x2 p1 p2;obtain⟨_,i1,_⟩:=zj o1;obtain⟨_,_,j2⟩:=zj o2;exact sp.mpr ⟨(zy k1.pos p1 qw).1 (vM i1) x1,(zy qw p2 k2.pos).2.2 x2 (vM j2),ds.mp x3⟩
   ·intro z;obtain⟨x1,x2,x3⟩:=sp.mp z;have e1:aZ ss ps (ss.getD k zQ).1 k:=.inl (yE.mpr ⟨hk,.inl rfl⟩);have e2:aZ ss ps (ss.getD k zQ).2 k:=.inl (yE.mpr ⟨hk,.inr rfl⟩);obtain⟨p,_,⟨p2,p3⟩,p4⟩:=Yg (k:=4*n+3) (T:=λr=>aZ ss ps r k/\0<=dX r q) (λr h=>(T.lies h.1).2.1) (l:=stC ss ps) ⟨_,wI e1,e1,x1⟩;obtain⟨_,pp,op⟩:=T.lies p2;have np:p≠(ss.getD k zQ).2:=λe=>by
     rw[e] at p3;rw[zS] at p3;lia
    have bp:bq p (ss.getD k zQ).2=true:=by
     cases w:bq p (ss.getD k zQ).2 with
     |true=>rfl
     |false=>exact absurd (xh pp (T.lies e2).2.1 w (zj op).2.2) np
    obtain⟨w,_,⟨w2,w3⟩,w4⟩:=WB (k:=4*n+3) (T:=λr=>aZ ss ps r k/\bq p r=true) (λr h=>(T.lies h.1).2.1) (l:=stC ss ps) ⟨_,wI e2,e2,bp⟩;have pc:bT ss ps (p,w):=⟨k,p2,w2,w3,λr hr r1 r2=>by have:=w4 r (wI hr) ⟨hr,r1⟩;rw[r2] at this;cases this⟩
    obtain⟨_,pw,ow⟩:=T.lies w2;have xw:0<dX q w:=by
     rcases UX 0 (dX q w) with y|y
     ·exact y
     ·have:=p4 w (wI w2) ⟨w2,by rw[zS];lia⟩
      rw[w3] at this;cases this
    obtain⟨j,hj⟩:=pF.mp ((hf _).mpr pc);have lj:=(kH.mp hj).1;have ej:fs.getD j zQ=(p,w):=by grind
    refine⟨j,kn.mpr lj,?_⟩;rw[ej,ζ (xg.mpr ⟨hk,op,ow⟩),Qn];exact sp.mpr ⟨p3,xw,(same (f:=(p,w)) op ow p3 xw pp.pos pw.pos).2.mpr x3⟩
  cases y:ba (ss.getD k zQ) q with
  |true=>exact ζ (this.mpr y)
  |false=>exact ι λz=>by grind
 ·rw[gr i hi,pO,τ] at h1;rw[gr j hj,pO,τ] at h2;rw[pM] at hi hj;obtain⟨_,o1,o2⟩:=xg.mp h1.1;obtain⟨_,o3,o4⟩:=xg.mp h2.1;obtain⟨l1,l2,l3⟩:=bT.nb T (gm i hi) hk o1 o2;obtain⟨m1,m2,m3⟩:=bT.nb T (gm j hj) hk o3 o4;obtain⟨x1,x2,_⟩:=sp.mp h1.2;obtain⟨y1,y2,_⟩:=sp.mp h2.2;obtain⟨_,_,_,bi,_⟩:=gm i hi;obtain⟨_,_,_,bj,_⟩:=gm j hj;have Q9:=(T.lies l1).2.1;have pl2:=(T.lies l2).2.1;have pm1:=(T.lies m1).2.1;have pm2:=(T.lies m2).2.1;have n1:bq (fs.getD i zQ).1 (fs.getD j zQ).1=false:=by
   cases z:bq (fs.getD i zQ).1 (fs.getD j zQ).1 with
   |false=>rfl
   |true=>
    exfalso
    have w:bq (fs.getD j zQ).1 (fs.getD i zQ).2=true:=yz ((zy pm1.pos qw pl2.pos).2.1 y1 x2);exact l3 _ m1 z w
  have n2:bq (fs.getD j zQ).1 (fs.getD i zQ).1=false:=by
   cases z:bq (fs.getD j zQ).1 (fs.getD i zQ).1 with
   |false=>rfl
   |true=>
    exfalso
    have w:bq (fs.getD i zQ).1 (fs.getD j zQ).2=true:=yz ((zy Q9.pos qw pm2.pos).2.1 x1 y2);exact m3 _ l1 z w
  have ef:=xh Q9 pm1 n1 n2;refine qT nd zQ hi hj (Uy ef (xh pl2 pm2 ?_ ?_))
  ·grind
  ·grind
theorem zcf(sel:Nat->Bool){q:Q3}(qw:0<q.w):ar ((kN fs.length).map λj=>ar ((kN ss.length).map λk=>sel k&&decide (k∈zH ss (fs.getD j zQ)))&&ba (fs.getD j zQ) q)=ar ((kN ss.length).map λk=>sel k&&ba (ss.getD k zQ) q):=by
 rw[zY (g:=λj=>ar ((kN ss.length).map λk=>sel k&&(decide (k∈zH ss (fs.getD j zQ))&&ba (fs.getD j zQ) q))) λj _=>by
  rw[Gj,<-vo];refine zY λk _=>?_;generalize ba (fs.getD j zQ) q=a;generalize decide (k∈zH ss (fs.getD j zQ))=b
  cases sel k<;>cases a<;>cases b<;>rfl]
 rw[YR];refine zY λk hk=>?_;rw[vo,zag T nd hf (kn.mp hk) qw]
end
def Vr{n:Nat}{ss:List (Q3×Q3)}{ps:List (Nat×Nat)}{g:Int}(T:zr n ss ps g){fs:List (Q3×Q3)}(up:lg fs)(hf:∀f,f∈fs↔bT ss ps f):Ap (4*n+3) fs where
 ok:=λf h=>by
  obtain⟨k,h1,h2,h3,_⟩:=(hf f).mp h;exact⟨(T.lies h1).2.1,(T.lies h2).2.1,h3⟩
 nd:=up.imp λ{a b} h e=>by rw[e,XX] at h;cases h
 ap:=λe he f hf' ne=>T.apart ((hf e).mp he) ((hf f).mp hf') ne
end Nu
variable{g a b:Int}
namespace Nu
def bE(x y g:Int):Bool:=(decide (x<=0)&& !decide (y<=0)&&decide (g<0))||(!decide (x<=0)&&decide (y<=0)&&decide (0<g))
theorem ij{x y:Int}(hx:x<=0)(hy:0<y):bE x y g=decide (g<0):=by
 have:¬y<=0:=by lia
 simp[bE,hx,this]
theorem ik{x y:Int}(hx:0<x)(hy:y<=0):bE x y g=decide (0<g):=by
 have:¬x<=0:=by lia
 simp[bE,hy,this]
def bR{x y:Int}(h:(x<=0↔y<=0)):bE x y g=false:=by
 unfold bE
 by_cases c:x<=0<;>simp[c,<-h]
section
variable{α β γ x y z:Int}
def lh(ha:0<=a)(hb:b<=0):a*b<=0:=Ak ha hb
def A5(ha:a<=0)(hb:b<=0):0<=a*b:=Int.mul_nonneg_of_nonpos_of_nonpos ha hb
def Me(ha:a<0)(hb:0<b):a*b<0:=kx ha hb
theorem TL(h:α*x+β*y+γ*z=0)(hx:x<=0)(hy:0<y)(hz:0<z)(s:0<α\/0<β\/0<γ):
  (γ<0/\0<β)\/(0<=γ/\0<β/\0<α)\/(0<=γ/\β<0)\/(0<=γ/\β=0/\0<=α):=by
 rcases ue γ 0 with g|g|g
 ·have g':=Me g hz;rcases ue β 0 with b|b|b
  ·have b':=Me b hy;have:¬0<α:=λa=>by have:=lh (kM a) hx;lia
   lia
  ·subst b;have:¬0<α:=λa=>by have:=lh (kM a) hx;lia
   lia
  ·exact .inl ⟨g,b⟩
 ·subst g;rcases ue β 0 with b|b|b
  ·lia
  ·subst b;lia
  ·have b':=kf b hy;have:¬α<=0:=λa=>by have:=A5 a hx;lia
   lia
 ·have g':=kf g hz;rcases ue β 0 with b|b|b
  ·lia
  ·subst b;have:¬α<=0:=λa=>by have:=A5 a hx;lia
   lia
  ·have b':=kf b hy;have:¬α<=0:=λa=>by have:=A5 a hx;lia
   lia
theorem TM(h:α*x+β*y+γ*z=0)(hx:0<x)(hy:y<=0)(hz:z<=0)(s:0<α\/0<β\/0<γ):
  (0<γ/\0<=β/\0<=α)\/(0<γ/\β<0)\/(γ<=0/\0<=β):=by
 have np:α<0->α*x<0:=λa=>Me a hx;have pp:0<α->0<α*x:=λa=>kf a hx;rcases ue γ 0 with g|g|g
 ·have g':=A5 (kM g) hz
  by_cases b:0<=β
  ·exact .inr (.inr ⟨kM g,b⟩)
  ·have b':=A5 (a:=β) (by lia) hy
   lia
 ·subst g
  by_cases b:0<=β
  ·exact .inr (.inr ⟨hW _,b⟩)
  ·have b':=A5 (a:=β) (by lia) hy
   lia
 ·by_cases b:0<=β
  ·have b':=lh b hy;have g':=lh (kM g) hz;lia
  ·exact .inr (.inl ⟨g,by lia⟩)
theorem OO(h:α*x+β*y+γ*z=0)(nz:¬(x=0/\y=0/\z=0))(e:(x<=0/\y<=0/\z<=0)\/(0<x/\0<y/\0<z)):¬(0<α/\0<β/\0<γ):=λ⟨a,b,g⟩=>by
 rcases e with⟨hx,hy,hz⟩|⟨hx,hy,hz⟩
 ·have a':=lh (kM a) hx;have b':=lh (kM b) hy;have g':=lh (kM g) hz;have k:∀{u v:Int},0<u->u*v=0->v=0:=λhu e=>(kX.mp e).resolve_left (by lia)
  exact nz ⟨k a (by lia),k b (by lia),k g (by lia)⟩
 ·have a':=kf a hx;have b':=kf b hy;have g':=kf g hz;lia
theorem TN(h:α*x+β*y+γ*z=0)(s:0<α\/0<β\/0<γ)(nz:¬(x=0/\y=0/\z=0))(o1:¬(γ=0/\0<=α/\0<=β))(o2:¬(α=0/\0<=β/\0<=γ))(o3:¬(β=0/\0<=γ/\0<=α)):
  (bE x y γ^^(bE y z α^^bE z x β))=decide (0<α/\0<β/\0<γ):=by
 have c1:∀{α β γ x y z:Int},α*x+β*y+γ*z=0->(0<α\/0<β\/0<γ)->¬(γ=0/\0<=α/\0<=β)->¬(β=0/\0<=γ/\0<=α)->x<=0->0<y->0<z->(bE x y γ^^(bE y z α^^bE z x β))=decide (0<α/\0<β/\0<γ):=λ{α β γ x y z} h s o1 o3 hx hy hz=>by
  rw[ij hx hy,ik hz hx,bR (x:=y) (y:=z) (by lia)]
  have:=TL h hx hy hz s
  by_cases g:γ<0
  ·have b:0<β:=by lia
   rw[ζ g,ζ b,ι (by lia)];rfl
  ·by_cases b:0<β
   ·rw[ι g,ζ b,ζ (by lia)];rfl
   ·rw[ι g,ι b,ι (by lia)];rfl
 have c2:∀{α β γ x y z:Int},α*x+β*y+γ*z=0->(0<α\/0<β\/0<γ)->¬(α=0/\0<=β/\0<=γ)->¬(β=0/\0<=γ/\0<=α)->0<x->y<=0->z<=0->(bE x y γ^^(bE y z α^^bE z x β))=decide (0<α/\0<β/\0<γ):=λ{α β γ x y z} h s o2 o3 hx hy hz=>by
  rw[ik hx hy,ij hz hx,bR (x:=y) (y:=z) (by lia)]
  have:=TM h hx hy hz s
  by_cases g:0<γ
  ·by_cases b:β<0
   ·rw[ζ g,ζ b,ι (by lia)];rfl
   ·rw[ζ g,ι b,ζ (by lia)];rfl
  ·rw[ι g,ι (p:=β<0) (by lia),ι (by lia)];rfl
 have Mf:∀p q r:Bool,(p^^(q^^r))=(q^^(r^^p)):=by decide
 have rd1:decide (0<α/\0<β/\0<γ)=decide (0<β/\0<γ/\0<α):=ω.mpr (by lia)
 have P6:decide (0<α/\0<β/\0<γ)=decide (0<γ/\0<α/\0<β):=ω.mpr (by lia)
 by_cases hx:x<=0<;>by_cases hy:y<=0<;>by_cases hz:z<=0
 ·rw[bR (by lia),bR (by lia),bR (by lia),ι (OO h nz (.inl ⟨hx,hy,hz⟩))];rfl
 ·rw[Mf,Mf,P6];exact c2 (by lia) (by lia) (by lia) (by lia) (by lia) hx hy
 ·rw[Mf,rd1];exact c2 (by lia) (by lia) (by lia) (by lia) (by lia) hz hx
 ·exact c1 h s o1 o3 hx (by lia) (by lia)
 ·exact c2 h s o2 o3 (by lia) hy hz
 ·rw[Mf,rd1];exact c1 (by lia) (by lia) (by lia) (by lia) hy (by lia) (by lia)
 ·rw[Mf,Mf,P6];exact c1 (by lia) (by lia) (by lia) (by lia) hz (by lia) (by lia)
 ·rw[bR (by lia),bR (by lia),bR (by lia),ι (OO h nz (.inr ⟨by lia,by lia,by lia⟩))];rfl
theorem KD(h:α*x+β*y+γ*z=0)(g:γ=0)(a:0<α)(b:0<β):(bE x y γ^^(bE y z α^^bE z x β))=(decide (0<y)||(decide (x=0)&&decide (0<z))):=by
 subst g;have k:α*x+β*y=0:=by lia
 by_cases hx:x<=0
 ·by_cases hy:y<=0
  ·have a':=lh (kM a) hx;have b':=lh (kM b) hy;have e:x=0:=(kX.mp (by lia:α*x=0)).resolve_left (by lia)
   have e':y=0:=(kX.mp (by lia:β*y=0)).resolve_left (by lia)
   subst e e'
   by_cases hz:z<=0
   ·rw[bR (by lia),bR (by lia),bR (by lia),ι (p:=0<z) (by lia)];rfl
   ·rw[bR (by lia),ij (by lia) (by lia),ik (by lia) (by lia),ι (p:=α<0) (by lia),ζ b,ζ (p:=0<z) (by lia)];rfl
  ·rw[ij hx (by lia),ζ (p:=0<y) (by lia)]
   by_cases hz:z<=0
   ·rw[ik (by lia) hz,bR (by lia),ζ a];rfl
   ·rw[bR (by lia),ik (by lia) hx,ζ b];rfl
 ·have hy:y<0:=by
   have a':=kf a (by lia:0<x)
   by_cases c:y<0
   ·exact c
   ·have:=kz (kM b) (by lia:0<=y);lia
  rw[ik (by lia) (by lia),ι (p:=0<y) (by lia),ι (p:=x=0) (by lia)]
  by_cases hz:z<=0
  ·rw[bR (by lia),ij hz (by lia),ι (p:=β<0) (by lia)];rfl
  ·rw[ij (by lia) (by lia),bR (by lia),ι (p:=α<0) (by lia)];rfl
end
end Nu
end
section
namespace Nu
def or4{a b:Nat}(ha:a<4)(hb:b<4):m9 (eN a) (eN b)=some (eN (a|||b))/\a|||b<4:=by
 have key:∀a b:Fin 4,ES ((a.val:Nat):Int) ((b.val:Nat):Int)=((a.val|||b.val:Nat):Int)/\a.val|||b.val<4:=by decide+kernel
 obtain⟨k1,k2⟩:=key ⟨a,ha⟩ ⟨b,hb⟩;refine⟨?_,k2⟩;show some (Dt.int (ES (a:Int) (b:Int)))=_;rw[k1];rfl
noncomputable def xc(aV:Nat)(ns:List Nat):Nat:=ns.foldl (λm k=>m|||if k<aV then 1 else 2) 0
theorem Xf(aV:Nat)(ns:List Nat):xc aV ns<4:=by
 unfold xc;have:∀(l:List Nat)(m:Nat),m<4->l.foldl (λm k=>m|||if k<aV then 1 else 2) m<4:=λl=>by
  induction l with
  |nil=>exact λm h=>h
  |cons k l ih=>
   intro m h;rw[Ae];exact ih _ (or4 h (by split<;>decide)).2
 exact this ns 0 (by decide)
theorem Js(aV:Nat)(ns:List Nat):(xc aV ns).testBit 0=decide (∃k∈ns,k<aV)/\(xc aV ns).testBit 1=decide (∃k∈ns,¬k<aV):=by
 unfold xc;have:∀(l:List Nat)(m:Nat),(l.foldl (λm k=>m|||if k<aV then 1 else 2) m).testBit 0=(m.testBit 0||decide (∃k∈l,k<aV))/\(l.foldl (λm k=>m|||if k<aV then 1 else 2) m).testBit 1=(m.testBit 1||decide (∃k∈l,¬k<aV)):=λl=>by
  induction l with
  |nil=>intro m;simp
  |cons k l ih=>
   intro m;rw[Ae,(ih _).1,(ih _).2,GY,GY]
   by_cases c:k<aV
   ·rw[θ c];have e1:decide (∃j∈k::l,j<aV)=true:=ζ ⟨k,by simp,c⟩
    have e2:decide (∃j∈k::l,¬j<aV)=decide (∃j∈l,¬j<aV):=ω.mpr ⟨λ⟨j,hj,z⟩=>by
     rcases kT.mp hj with w|w
     ·exact absurd (w▸c) z
     ·exact⟨j,w,z⟩,λ⟨j,hj,z⟩=>⟨j,by simp[hj],z⟩⟩
    rw[e1,e2]
    constructor
    ·show(m.testBit 0||true||_)=_;simp
    ·show(m.testBit 1||false||_)=_;simp
   ·rw[η c];have e1:decide (∃j∈k::l,¬j<aV)=true:=ζ ⟨k,by simp,c⟩
    have e2:decide (∃j∈k::l,j<aV)=decide (∃j∈l,j<aV):=ω.mpr ⟨λ⟨j,hj,z⟩=>by
     rcases kT.mp hj with w|w
     ·exact absurd (w▸z) c
     ·exact⟨j,w,z⟩,λ⟨j,hj,z⟩=>⟨j,by simp[hj],z⟩⟩
    rw[e1,e2]
    constructor
    ·show(m.testBit 0||false||_)=_;simp
    ·show(m.testBit 1||true||_)=_;simp
 have:=this ns 0
 simpa using this
def su{aV:Nat}{ns:List Nat}:jT [.list (ns.map eN),eN aV]=some (eN (xc aV ns)):=by
 suffices Gv (jT [.list (ns.map eN),eN aV]) λd=>d=eN (xc aV ns) by obtain⟨d,e,rfl⟩:=this;exact e
 unfold jT
 dsimp! []
 rw[uL];refine xz (σ:=Nat) (λs=>[.fz (.list (ns.map eN)),.fz (eN aV),.fz (eN s),.un]) (λi s=>s=xc aV (ns.take i)) 0 rfl rfl (λi a s hi hs=>?_) λs hs=>?_
 ·have lt:s<4:=by rw[hs];exact Xf _ _
  have e12:(if a<aV then some (Dt.int 1) else some (Dt.int 2))=some (eN (if a<aV then 1 else 2)):=by split<;>rfl
  obtain⟨x1,x2⟩:=or4 (b:=if a<aV then 1 else 2) lt (by split<;>decide)
  refine⟨s|||(if a<aV then 1 else 2),?_,?_⟩
  ·dsimp! [qE,decide_eq_true_eq,e12,x1]
  ·rw[hs,pP,hi];unfold xc;rw[FJ];rfl
 ·rw[uc] at hs;subst hs
  dsimp! []
  exact⟨_,rfl,rfl⟩
def V1{a:Nat}(h:a<4):vk [eN a,.int 1]=some (.bool (a.testBit 0))/\vk [eN a,.int 2]=some (.bool (a.testBit 1)):=by
 have key:∀a:Fin 4,Ao ((a.val:Nat):Int) 1=(if a.val.testBit 0 then 1 else 0)/\Ao ((a.val:Nat):Int) 2=(if a.val.testBit 1 then 2 else 0):=by decide+kernel
 obtain⟨k1,k2⟩:=key ⟨a,h⟩;have e1:qF (eN a) (.int 1)=some (.int (if a.testBit 0 then 1 else 0)):=by
  show some (Dt.int (Ao (a:Int) 1))=_
  rw[k1]
 have e2:qF (eN a) (.int 2)=some (.int (if a.testBit 1 then 2 else 0)):=by
  show some (Dt.int (Ao (a:Int) 2))=_
  rw[k2]
 unfold vk
 constructor
 ·dsimp! [e1,yG]
  cases a.testBit 0<;>rfl
 ·dsimp! [e2,yG]
  cases a.testBit 1<;>rfl
noncomputable def Ra(f:Q3×Q3)(x:Nat×Nat):Dt:=.tuple [eS f,.bool (x.1.testBit 0),.bool (x.2.testBit 0),.bool (x.1.testBit 1),.bool (x.2.testBit 1)]
def Zq:(5<=ψ)=True:=eq_true (by decide)
def Fc(n:Nat)(fs:List (Q3×Q3)):Prop:=∀f∈fs,PQ n f.1/\PQ n f.2/\f.1≠f.2
def Fc.ss{n:Nat}{fs:List (Q3×Q3)}(h:Fc n fs):Ss n (fs.map zd):=λs hs=>by
 obtain⟨f,hf,rfl⟩:=ki.mp hs;obtain⟨h1,h2,h3⟩:=h f hf;unfold zd
 by_cases c:bq f.1 f.2=true
 ·rw[θ c];exact⟨h1,h2,c⟩
 ·rw[η c];exact⟨h2,h1,(xr h1 h2 h3).resolve_left c⟩
noncomputable def yl(aV:Nat)(ss fs:List (Q3×Q3)):List Nat:=fs.map λf=>xc aV (zH ss f)
theorem ZZ{n:Nat}(hn:4*n+3<=8999){one aq:List (Q3×Q3)}(h:Fc n (one++aq))(hl:(one++aq).length<64)(fw:OD (4*n+3) ((one++aq).map zd)):Gv (wg [.list (one.map eS),.list (aq.map eS)]) λd=>∃fs ps g,d=.list ((kN fs.length).map λi=>Ra (fs.getD i zQ) (spT fs (yl one.length ((one++aq).map zd) fs) i))/\zr n ((one++aq).map zd) ps g/\lg fs/\(∀f,f∈fs↔bT ((one++aq).map zd) ps f)/\fs.length<=1300000:=by
 obtain⟨d0,ep,fs,ps,g,rfl,T,up,hf,lf⟩:=zbf hn h.ss (by rw[kJ];exact hl) fw
 have A:=Vr T up hf;generalize ess:(one++aq).map zd=ss at*;have kc:=fI (f:=eS) one aq (by rw[kb] at hl;lia)
 have es:=rG (fs:=one++aq) λf hf=>by
  obtain⟨h1,h2,h3⟩:=h f hf;exact⟨SQ.of h1 (by lia),SQ.of h2 (by lia),h3⟩
 rw[ess] at es;have fl:=zcr (m:=4*n+3) hn A (by lia) (ms:=yl one.length ss fs) (by unfold yl;rw[kJ]) (λa ha=>by
  obtain⟨f,_,rfl⟩:=ki.mp ha;exact Xf _ _) (zcb T hf fw)
 have ll:one.length<64:=by rw[kb] at hl;lia
 unfold wg
 dsimp! [jb,IJ,kc,es,ep]
 rw[zW (e:=eP ss) (h:=λf=>eN (xc one.length (zH ss f))) λf hf=>by
  dsimp! [eP,xZ,su]]
 dsimp! []
 rw[zW (e:=eP ss) (h:=eS) λf hf=>by dsimp! [eP]]
 have em:(fs.map λf=>eN (xc one.length (zH ss f)))=(yl one.length ss fs).map eN:=by unfold yl;rw[uE];rfl
 rw[em];have zpR:lE [.list (fs.map (eP ss)),.list ((kN fs.length).map λi=>ie (spT fs (yl one.length ss fs) i))]=some ((kN fs.length).map λi=>.tuple [eP ss (fs.getD i zQ),ie (spT fs (yl one.length ss fs) i)]):=by
  show some _=_
  congr 1
  refine QU λi=>?_;rw[gV,kY,kY,kY]
  by_cases c:i<fs.length
  ·rw[uA c,kC c];show some _=some (Dt.tuple [eP ss (fs.getD i zQ),ie (spT fs (yl one.length ss fs) i)]);rw[yW zQ c]
  ·rw[pR (l:=fs) (by lia),pR (by rw[pM];lia)];rfl
 dsimp! [fl,zpR]
 rw[uL];have lt4:∀i,(spT fs (yl one.length ss fs) i).1<4/\(spT fs (yl one.length ss fs) i).2<4:=λi=>by
  have h4:∀a∈yl one.length ss fs,a<4:=λa ha=>by
   obtain⟨f,_,rfl⟩:=ki.mp ha;exact Xf _ _
  have l1:vd fs (yl one.length ss fs) i<4:=jR (Ye h4 _);refine⟨l1,(mB l1 ?_).2⟩
  by_cases c:i<(yl one.length ss fs).length
  ·exact h4 _ (by rw[yW 0 c];exact pi c)
  ·rw[kE,pR (by lia)];decide
 refine xz (σ:=List Nat) (λs=>[.rd (.list (one.map eS)),.rd (.list (aq.map eS)),.fz (.list (fs.map (eP ss))),.fz (.list ((yl one.length ss fs).map eN)),.ow false 1 (.list (s.map λi=>Ra (fs.getD i zQ) (spT fs (yl one.length ss fs) i))),.un,.un,.un,.un]) (λi s=>s=kN i) [] rfl rfl (λi k s hi hs=>?_) λs hs=>?_
 ·have fL:i<fs.length:=by have:=(kH.mp hi).1;rwa [pM] at this
  rw[uA fL] at hi
  cases hi;subst hs;obtain⟨a1,a2⟩:=V1 (lt4 i).1;obtain⟨b1,b2⟩:=V1 (lt4 i).2;have lr:(kN i).length<ψ:=by rw[pM];exact xd (by lia)
  refine⟨kN (i+1),?_,rfl⟩
  dsimp! [eP,ie,qg,qp,a1,a2,b1,b2,Zq,kJ,θ lr]
  rw[List.range_succ,pD];rfl
 ·subst hs;rw[pM]
  dsimp! []
  exact⟨_,rfl,fs,ps,g,rfl,T,up,hf,lf⟩
noncomputable def goL(D:List (Q3×Q3))(p:Q3):List Q3:=(D.filter λd=>decide (d.1=p)).map HK
noncomputable def coL(D:List (Q3×Q3))(p:Q3):List Q3:=(D.filter λd=>decide (d.2=p)).map pH
noncomputable def OP(D:List (Q3×Q3))(p:Q3):Option Q3:=match goL D p,coL D p with
 |[g],[c]=>if dt c p g=0 then some g else none
 |_,_=>none
inductive sA (D:List (Q3×Q3)):Q3->Q3->Prop
 |stop {p:Q3}:OP D p=none->sA D p p
 |step {p r q:Q3}:OP D p=some r->sA D r q->sA D p q
open Classical in
noncomputable def endF(D:List (Q3×Q3))(p:Q3):Q3:=if h:∃q,sA D p q then h.choose else p
theorem zbv(a b:List Bool):ar (a++b)=(ar a^^ar b):=by
 induction a with
 |nil=>exact(BG _).symm
 |cons x a ih=>rw[Qk,yj,ih,yj,Bool.xor_assoc]
theorem sB{α β:Type}(d0:α)(G:α->β)(l:List α):((kN l.length).map λj=>G (l.getD j d0))=l.map G:=by
 refine QU λi=>?_;rw[kY,kY]
 by_cases c:i<l.length
 ·rw[uA c,kC c];show some (G (l.getD i d0))=some (G l[i]);rw[yW d0 c]
 ·rw[pR (l:=l) (by lia),pR (by rw[pM];lia)];rfl
def X8(p q:Q3):bZ (eQ p) (eQ q)=some (.bool (!decide (p=q))):=by
 unfold bZ;simp only[WQ,kG,JM,and_self,if_true,WT]
theorem Wr{n:Nat}(h:n<=8000000):bI [eN n]=some ((kN n).map eN):=by
 have e:eN n=.int (n:Int):=rfl;rw[e];simp only[bI];rw[θ ⟨by lia,by lia,by rw[uk];exact gD (xd (by lia))⟩,uk]
 rfl
theorem TQ{α:Type}{f:α->Dt}(l:List α):y0 (l.map f) (some 1) none=(l.drop 1).map f/\y0 (l.map f) none (some 1)=(l.take 1).map f:=by
 cases l with
 |nil=>exact⟨rfl,rfl⟩
 |cons a l=>
  have h:=rZ (f:=f) (a::l) 1 (by rw[ku];lia)
  exact⟨h.2,h.1⟩
def VM(f:En->Option Ou)(Z:En):cC f (.nx Z)=f Z:=rfl
noncomputable def yu(v:Q3)(s:Q3×Q3):Bool:=decide (s.1=v)^^decide (s.2=v)
theorem zc1(v:Q3)(f:Q3×Q3):yu v (zd f)=yu v f:=by
 unfold zd yu
 split
 ·rfl
 ·grind
noncomputable def xk(ss:List (Q3×Q3))(q:Q3):Bool:=ar (ss.map λs=>ba s q)
def Zk{fs:List (Q3×Q3)}{E:Nat->Bool}{G:Q3×Q3->Bool}(h:∀j,j<fs.length->E j=true):ar ((kN fs.length).map λj=>E j&&G (fs.getD j zQ))=ar (fs.map G):=by
 rw[zY (g:=λj=>G (fs.getD j zQ)) λj hj=>by rw[h j (kn.mp hj),Qn],sB]
section
variable{n:Nat}{ss:List (Q3×Q3)}{ps:List (Nat×Nat)}{g:Int}(T:zr n ss ps g){fs:List (Q3×Q3)}(up:lg fs)(hf:∀f,f∈fs↔bT ss ps f)(cl:∀v,ar (ss.map (yu v))=false)
include T up hf
end
theorem yZ(a b c:Q3):dt b c a=dt a b c:=by unfold dt aE br bu bx;grind
theorem wW(a b c:Q3):dt b a c= -dt a b c:=by unfold dt aE br bu bx;grind
theorem A6(a c:Q3):dt a a c=0:=by unfold dt aE br bu bx;grind
theorem OQ(a b:Q3):dt a b b=0:=by unfold dt aE br bu bx;grind
theorem jg(a b c M:Q3):dt b c M*dX M a+dt c a M*dX M b+dt a b M*dX M c=0:=by unfold dt dX aE br bu bx;grind
theorem KE(a b c M:Q3):dt b c M*a.w+dt c a M*b.w+dt a b M*c.w=dt a b c*M.w:=by unfold dt aE br bu bx;grind
theorem OR(a b c M p q:Q3):dt p q M*dt a b c=dt b c M*dt p q a+dt c a M*dt p q b+dt a b M*dt p q c:=by unfold dt aE br bu bx;grind
theorem KG(a b c M:Q3):dt a b c*M.w=dX M a*(b.y*c.w-c.y*b.w)+dX M b*(c.y*a.w-a.y*c.w)+dX M c*(a.y*b.w-b.y*a.w):=by unfold dt dX aE br bu bx;grind
theorem KH(x y g:Int):bE y x (-g)=bE x y g:=by
 unfold bE;rw[show decide (-g<0)=decide (0<g) from ω.mpr (by lia),show decide (0< -g)=decide (g<0) from ω.mpr (by lia)]
 generalize decide (x<=0)=p;generalize decide (y<=0)=q;generalize decide (g<0)=r;generalize decide (0<g)=s
 cases p<;>cases q<;>cases r<;>cases s<;>rfl
theorem KJ{a b:Q3}(h:bq a b=false):dX a b<=0:=by
 by_cases c:0<dX a b
 ·rw[yz c] at h;cases h
 ·lia
theorem vQ{p q M:Q3}(hp:0<p.w)(hq:0<q.w)(hM:0<M.w):ba (zd (p,q)) M=bE (dX M p) (dX M q) (dt p q M):=by
 have e1:=zS M p;have e2:=zS M q;unfold zd
 by_cases c:bq p q=true
 ·rw[θ c];show(decide (0<=dX p M)&&(decide (0<dX M q)&&decide (dt p q M<0)))=_;have n:¬(0<dX M p/\dX M q<=0):=λ⟨z1,z2⟩=>by
   have:=(zy hq hM hp).2.1 (by lia) z1
   have:=zO c;have:=zS p q;lia
  rw[show decide (0<=dX p M)=decide (dX M p<=0) from ω.mpr (by lia)]
  by_cases u:dX M p<=0<;>by_cases v:dX M q<=0
  ·rw[bR (by lia),ι (p:=0<dX M q) (by lia)];cases decide (dX M p<=0)<;>rfl
  ·rw[ij u (by lia),ζ u,ζ (p:=0<dX M q) (by lia)];rfl
  ·exact absurd ⟨by lia,v⟩ n
  ·rw[bR (by lia),ι u];rfl
 ·rw[η c];show(decide (0<=dX q M)&&(decide (0<dX M p)&&decide (dt q p M<0)))=_;have n:¬(0<dX M q/\dX M p<=0):=λ⟨z1,z2⟩=>by
   have:=(zy hp hM hq).2.1 (by lia) z1
   have:=KJ (BY _▸c:bq p q=false);lia
  rw[show decide (0<=dX q M)=decide (dX M q<=0) from ω.mpr (by lia),wW,show decide (-dt p q M<0)=decide (0<dt p q M) from ω.mpr (by lia)]
  by_cases u:dX M q<=0<;>by_cases v:dX M p<=0
  ·rw[bR (by lia),ι (p:=0<dX M p) (by lia)];cases decide (dX M q<=0)<;>rfl
  ·rw[ik (by lia) u,ζ u,ζ (p:=0<dX M p) (by lia)];rfl
  ·exact absurd ⟨by lia,v⟩ n
  ·rw[bR (by lia),ι u];rfl
section
variable{a b c d M:Q3}
def mE(a b c d M:Q3):Prop:=dt a b M=0/\0<=dt b c M/\0<=dt d a M
theorem KL(hD:0<dt a b c)(hM:0<M.w):¬(dX M a=0/\dX M b=0/\dX M c=0):=λ⟨h1,h2,h3⟩=>by
 have:=KG a b c M;have:=kf hD hM;rw[h1,h2,h3] at*;lia
theorem OT(wa:0<a.w)(wb:0<b.w)(wc:0<c.w)(hD:0<dt a b c)(hM:0<M.w):0<dt b c M\/0<dt c a M\/0<dt a b M:=by
 by_cases h:0<dt b c M\/0<dt c a M\/0<dt a b M
 ·exact h
 ·have e:=KE a b c M;have:=kf hD hM;have h1:dt b c M*a.w<=0:=kj (by lia) (by lia)
  have h2:dt c a M*b.w<=0:=kj (by lia) (by lia)
  have h3:dt a b M*c.w<=0:=kj (by lia) (by lia)
  lia
def cH(a b c M:Q3):Bool:=bE (dX M a) (dX M b) (dt a b M)^^(bE (dX M b) (dX M c) (dt b c M)^^bE (dX M c) (dX M a) (dt c a M))
def YL(wa:0<a.w)(wb:0<b.w)(wc:0<c.w)(hD:0<dt a b c)(hM:0<M.w)(o1:¬mE a b c c M)(o2:¬mE b c a a M)(o3:¬mE c a b b M):cH a b c M=decide (0<dt b c M/\0<dt c a M/\0<dt a b M):=
 TN (jg a b c M) (OT wa wb wc hD hM) (KL hD hM) o1 (λ⟨p,q,r⟩=>o2 ⟨p,q,r⟩) λ⟨p,q,r⟩=>o3 ⟨p,q,r⟩
def A7(a b c M:Q3):Bool:=decide (0<dX M b)||(decide (dX M a=0)&&decide (0<dX M c))
def YF(g:dt a b M=0)(h1:0<dt b c M)(h2:0<dt c a M):cH a b c M=A7 a b c M:=KD (jg a b c M) g h1 h2
def qK(a b c M:Q3):cH b c a M=cH a b c M:=by
 unfold cH;generalize bE (dX M a) _ _=p;generalize bE (dX M b) _ _=q;generalize bE (dX M c) _ _=r
 cases p<;>cases q<;>cases r<;>rfl
def dF(a b c d M:Q3):Bool:=bE (dX M a) (dX M b) (dt a b M)^^(bE (dX M b) (dX M c) (dt b c M)^^(bE (dX M c) (dX M d) (dt c d M)^^bE (dX M d) (dX M a) (dt d a M)))
def ZN(a b c d M:Q3):dF a b c d M=(cH a b c M^^cH a c d M):=by
 have:bE (dX M a) (dX M c) (dt a c M)=bE (dX M c) (dX M a) (dt c a M):=by rw[<-KH,wW a c M]
 unfold dF cH;rw[this];generalize bE (dX M a) (dX M b) _=p;generalize bE (dX M b) _ _=q;generalize bE (dX M c) (dX M d) _=r;generalize bE (dX M d) _ _=s;generalize bE (dX M c) (dX M a) _=t
 cases p<;>cases q<;>cases r<;>cases s<;>cases t<;>rfl
structure ip(a b c d:Q3):Prop where
 wa:0<a.w
 wb:0<b.w
 wc:0<c.w
 wd:0<d.w
 h1:0<dt a b c
 h2:0<dt b c d
 h3:0<dt c d a
 h4:0<dt d a b
def ip.rot(h:ip a b c d):ip b c d a:=⟨h.wb,h.wc,h.wd,h.wa,h.h2,h.h3,h.h4,h.h1⟩
theorem vz{x y k:Int}(hy:0<y)(e:x*y=k)(hk:0<k):0<x:=by
 by_cases c:0<x
 ·exact c
 ·have:=kj (by lia:x<=0) (kM hy);lia
theorem ip.in1(h:ip a b c d):dt c d M*dt a b c=dt b c M*dt c d a+dt c a M*dt b c d/\dt d a M*dt a b c=dt c a M*dt d a b+dt a b M*dt c d a:=by
 have e1:=OR a b c M c d;have e2:=OR a b c M d a;have q1:dt c d c=0:=by rw[yZ,A6]
 have q2:dt c d b=dt b c d:=(yZ b c d);have q3:dt d a a=0:=OQ _ _;have q4:dt d a c=dt c d a:=(yZ c d a);rw[q1,q2] at e1;rw[q3,q4] at e2
 constructor<;>lia
theorem ip.in2(h:ip a b c d):dt a b M*dt c d a=dt d a M*dt a b c+dt a c M*dt d a b/\dt b c M*dt c d a=dt c d M*dt a b c+dt a c M*dt b c d:=by
 have e1:=h.rot.rot.in1 (M:=M);exact⟨e1.1,by have:=e1.2;lia⟩
end
section
variable{a b c d M:Q3}
theorem vD{x y k:Int}(hy:0<y)(e:x*y=k)(hk:0<=k):0<=x:=by
 by_cases c:0<=x
 ·exact c
 ·have:=Me (by lia:x<0) hy;lia
def m0{x y:Int}(hx:0<=x)(hy:0<y):0<=x*y:=kz hx (kM hy)
theorem ip.sg(h:ip a b c d)(M:Q3):(0<=dt c a M->(0<=dt b c M->0<=dt c d M)/\(0<=dt a b M->0<=dt d a M)/\(0<dt b c M->0<dt c d M)/\(0<dt a b M->0<dt d a M))/\(0<=dt a c M->(0<=dt c d M->0<=dt b c M)/\(0<=dt d a M->0<=dt a b M)/\(0<dt c d M->0<dt b c M)/\(0<dt d a M->0<dt a b M)):=by
 obtain⟨i1,i2⟩:=h.in1 (M:=M);obtain⟨j1,j2⟩:=h.in2 (M:=M);refine⟨λz=>?_,λz=>?_⟩
 ·have z2:=m0 z h.h2;have z4:=m0 z h.h4;exact⟨λy=>vD h.h1 i1 (by have:=m0 y h.h3;lia),λy=>vD h.h1 i2 (by have:=m0 y h.h3;lia),λy=>vz h.h1 i1 (by have:=kf y h.h3;lia),λy=>vz h.h1 i2 (by have:=kf y h.h3;lia)⟩
 ·have z2:=m0 z h.h2;have z4:=m0 z h.h4;exact⟨λy=>vD h.h3 j2 (by have:=m0 y h.h1;lia),λy=>vD h.h3 j1 (by have:=m0 y h.h1;lia),λy=>vz h.h3 j2 (by have:=kf y h.h1;lia),λy=>vz h.h3 j1 (by have:=kf y h.h1;lia)⟩
theorem zcv(h:ip a b c d)(hM:0<M.w)(o1:¬mE a b c d M)(o2:¬mE b c d a M)(o3:¬mE c d a b M)(o4:¬mE d a b c M):dF a b c d M=decide (0<dt a b M/\0<dt b c M/\0<dt c d M/\0<dt d a M):=by
 obtain⟨s1,s2⟩:=h.sg M;have sw:dt a c M= -dt c a M:=by rw[wW]
 have D2:0<dt a c d:=by rw[<-yZ];exact h.h3
 rw[ZN];have p1:¬mE c a b b M->cH a b c M=decide (0<dt b c M/\0<dt c a M/\0<dt a b M):=λz=>YL h.wa h.wb h.wc h.h1 hM (λ⟨e,f,g⟩=>o1 ⟨e,f,(s1 g).2.1 (by lia)⟩) (λ⟨e,f,g⟩=>o2 ⟨e,(s1 f).1 (by lia),g⟩) z
 have p2:¬mE a c d d M->cH a c d M=decide (0<dt c d M/\0<dt d a M/\0<dt a c M):=λz=>YL h.wa h.wc h.wd D2 hM z (λ⟨e,f,g⟩=>o3 ⟨e,f,(s2 g).1 (by lia)⟩) (λ⟨e,f,g⟩=>o4 ⟨e,(s2 f).2.1 (by lia),g⟩)
 rcases ue (dt c a M) 0 with z|z|z
 ·rw[p1 λ⟨e,_⟩=>by lia,p2 λ⟨e,_⟩=>by lia,ι (p:=_/\0<dt c a M/\_) (by lia),BG]
  have:=s2 (by lia)
  exact ω.mpr ⟨λ⟨x,y,w⟩=>⟨this.2.2.2 y,this.2.2.1 x,x,y⟩,λ⟨x,y,w,v⟩=>⟨w,v,by lia⟩⟩
 ·by_cases k:0<=dt a b M/\0<=dt b c M
  ·have t1:=s1 (by lia)
   have g1:0<dt a b M:=by
    by_cases e:dt a b M=0
    ·exact absurd ⟨e,k.2,t1.2.1 k.1⟩ o1
    ·lia
   have g2:0<dt b c M:=by
    by_cases e:dt b c M=0
    ·exact absurd ⟨e,t1.1 k.2,k.1⟩ o2
    ·lia
   have g3:=t1.2.2.1 g2;have g4:=t1.2.2.2 g1;rw[ζ (p:=_/\_) ⟨g1,g2,g3,g4⟩,<-qK,<-qK,YF z g1 g2,YF (by lia) g3 g4]
   have e:=jg a b c M;rw[z] at e;have n1:=KG a b c M;have n2:=KG a c d M;have m1:=kf h.h1 hM;have m2:=kf D2 hM;unfold A7;rcases ue (dX M a) 0 with x|x|x
   ·have y:0<dX M c:=by
     have x':dt b c M*dX M a<0:=Ug g2 x
     by_cases y:0<dX M c
     ·exact y
     ·have:=lh (kM g1) (by lia:dX M c<=0);lia
    rw[ι (p:=0<dX M a) (by lia),ι (p:=dX M c=0) (by lia),ζ y];rfl
   ·have y:dX M c=0:=(kX.mp (by rw[x] at e;lia:dt a b M*dX M c=0)).resolve_left (by lia)
    rw[x,y] at n1 n2;rw[ι (p:=0<dX M a) (by lia),ι (p:=0<dX M c) (by lia),ζ y,ζ x]
    have q1:dX M b*(c.y*a.w-a.y*c.w)=dt a b c*M.w:=by omega
    have q2:dX M d*(a.y*c.w-c.y*a.w)=dt a c d*M.w:=by omega
    by_cases k:0<c.y*a.w-a.y*c.w
    ·have r1:=vz k q1 m1;have r2:¬0<dX M d:=λz=>by have:=Ug z (by lia:a.y*c.w-c.y*a.w<0);lia
     rw[ζ r1,ι r2];rfl
    ·have r1:¬0<dX M b:=λz=>by have:=lh (kM z) (by lia:c.y*a.w-a.y*c.w<=0);lia
     have k':0<a.y*c.w-c.y*a.w:=by
      by_cases k2:0<a.y*c.w-c.y*a.w
      ·exact k2
      ·rw[show a.y*c.w-c.y*a.w=0 by lia,ph] at q2;lia
     have r2:=vz k' q2 m2;rw[ι r1,ζ r2];rfl
   ·have y:¬0<dX M c:=λy=>by
     have:=kf g2 x;have:=kf g1 y;lia
    rw[ζ x,ι y,ι (p:=dX M a=0) (by lia)];rfl
  ·have t2:=s2 (by lia)
   rw[p1 λ⟨_,e,f⟩=>k ⟨e,f⟩,p2 λ⟨_,e,f⟩=>k ⟨t2.2.1 f,t2.1 e⟩,ι (p:=_/\0<dt c a M/\_) (by lia),ι (p:=_/\_/\0<dt a c M) (by lia),ι (by lia)];rfl
 ·rw[p1 λ⟨e,_⟩=>by lia,p2 λ⟨e,_⟩=>by lia,ι (p:=_/\_/\0<dt a c M) (by lia),BL]
  have:=s1 (by lia)
  exact ω.mpr ⟨λ⟨x,y,w⟩=>⟨w,x,this.2.2.1 x,this.2.2.2 w⟩,λ⟨x,y,w,v⟩=>⟨y,z,x⟩⟩
theorem sC(h:ip a b c d)(hM:0<M.w)(g:dt a b M=0)(g1:0<dt b c M)(g2:0<dt d a M):0<dt c d M/\dF a b c d M=A7 a b c M:=by
 obtain⟨i1,i2⟩:=h.in1 (M:=M);rw[g] at i2;have B1:0<dt c a M:=by
  by_cases z:0<dt c a M
  ·exact z
  ·have:=kf g2 h.h1;have:=kj (by lia:dt c a M<=0) (kM h.h4);lia
 have A2:=((h.sg M).1 (by lia)).2.2.1 g1
 have D2:0<dt a c d:=by rw[<-yZ];exact h.h3
 have sw:dt a c M= -dt c a M:=by rw[wW]
 refine⟨A2,?_⟩;rw[ZN,YF g g1 B1,YL h.wa h.wc h.wd D2 hM (λ⟨e,_⟩=>by lia) (λ⟨e,_⟩=>by lia) (λ⟨e,_⟩=>by lia),ι (by lia),BL]
theorem KN(wa:0<a.w)(wb:0<b.w)(wc:0<c.w)(hM:0<M.w)(hD:0<dt a b c)(g:dt a b M=0)(h1:0<dt b c M)(h2:0<dt c a M):A7 a b c M=(bq a b^^ !bU (a,b)):=by
 have e:=jg a b c M;rw[g] at e;have l:bU (a,b)= !decide (dX a b=0):=by
  show(!decide (a.x*b.w=b.x*a.w))=_
  rw[show decide (a.x*b.w=b.x*a.w)=decide (dX a b=0) from ω.mpr (by unfold dX;lia)]
 rw[l];unfold A7;have na:=zS M a;have nb:=zS M b;rcases ue (dX M a) 0 with x|x|x
 ·have y:0<dX M b:=by
   have x':dt b c M*dX M a<0:=Ug h1 x
   by_cases y:0<dX M b
   ·exact y
   ·have:=lh (kM h2) (by lia:dX M b<=0);lia
  have r:=(zy wa hM wb).2.2 (by lia) (kM y)
  rw[ζ y,yz r,ι (p:=dX a b=0) (by lia)];rfl
 ·have y:dX M b=0:=(kX.mp (by rw[x] at e;lia:dt c a M*dX M b=0)).resolve_left (by lia)
  have r1:=(zy wa hM wb).1 (by lia) (by lia)
  have r2:=(zy wb hM wa).1 (by lia) (by lia)
  have n:=zS a b;have z:dX a b=0:=by lia
  have o:=qH a b c;rw[z] at o;have m:=kf hD wa;have k1:0<dX M c↔0<dX a c:=⟨λu=>(zy wa hM wc).2.1 (by lia) u,λu=>(zy hM wa wc).2.1 (by lia) u⟩
  rw[ι (p:=0<dX M b) (by lia),ζ x,ζ z,yY z,show decide (0<dX M c)= !decide (0<dY a b) from ?_]
  ·cases decide (0<dY a b)<;>rfl
  ·by_cases u:0<dY a b
   ·have:¬0<dX M c:=λv=>by have:=kf u (k1.mp v);lia
    rw[ζ u,ι this];rfl
   ·have:0<dX M c:=k1.mpr (by
     by_cases v:0<dX a c
     ·exact v
     ·have:=A5 (by lia:dY a b<=0) (by lia:dX a c<=0);lia)
    rw[ι u,ζ this];rfl
 ·have y:dX M b<0:=by
   have x':=kf h1 x
   by_cases y:dX M b<0
   ·exact y
   ·have:=kz (kM h2) (by lia:0<=dX M b);lia
  have r:=(zy wb hM wa).2.2 (by lia) (kM x)
  have n:=zS a b;have f:bq a b=false:=by
   cases q:bq a b with
   |false=>rfl
   |true=>have:=zO q;lia
  rw[ι (p:=0<dX M b) (by lia),ι (p:=dX M a=0) (by lia),f,ι (p:=dX a b=0) (by lia)];rfl
end
theorem Mg{s t vx vy wx wy:Int}(ex:s*vx+t*wx=0)(ey:s*vy+t*wy=0)(hv:LP vx vy)(hw:LP wx wy):(s=0->t=0)/\(0<s->t<0)/\(s<0->0<t):=by
 have key:∀{s t:Int},s*vx+t*wx=0->s*vy+t*wy=0->0<=t->0<=s->s=0/\t=0:=λ{s t} ex ey ht hs=>by
  unfold LP at hv hw;have pos:∀{a b:Int},0<=a->0<b->a*b=0->a=0:=λh1 h2 z=>by
   rcases kX.mp z with y|y
   ·exact y
   ·lia
  have nn:∀{a b:Int},0<=a->0<=b->0<=a*b:=λh1 h2=>kz h1 h2;have vx0:0<=vx:=by lia
  have wx0:0<=wx:=by lia
  have a1:=nn hs vx0;have a2:=nn ht wx0;have z1:s*vx=0:=by omega
  have z2:t*wx=0:=by omega
  rcases hv with hv|⟨hv,P9⟩<;>rcases hw with hw|⟨hw,P8⟩
  ·grind
  ·grind
  ·grind
  ·have b1:=nn hs (kM P9);have b2:=nn ht (kM P8);exact⟨pos hs P9 (by omega),pos ht P8 (by omega)⟩
 have di:(-s)*vx+(-t)*wx=0/\(-s)*vy+(-t)*wy=0:=by grind
 refine⟨λh=>?_,λh=>?_,λh=>?_⟩
 ·rcases ue t 0 with y|y|y
  ·have:=(key di.1 di.2 (by lia) (by lia)).2;lia
  ·exact y
  ·exact(key ex ey (by lia) (by lia)).2
 ·refine Da.mp λy=>?_;have:=(key ex ey y (by lia)).1;lia
 ·refine Da.mp λy=>?_;have:=(key di.1 di.2 (by lia) (by lia)).1;lia
theorem Zv{a b:Q3}{f:Q3×Q3}{P:Q3}(h:dt a b P=0)(F0:dt f.1 f.2 P=0)(F1:bq f.1 P=true)(F2:bq P f.2=true):(dt a b f.1=0->dt a b f.2=0)/\(dt a b f.2=0->dt a b f.1=0)/\(aw (dt a b f.1)=aw (dt a b f.2)->dt a b f.1=0/\dt a b f.2=0):=by
 have e1:=y8 a b f.1 f.2 P;have e2:=jU a b f.1 f.2 P;rw[h,F0,pY,pY,BE] at e1 e2;have v:=WU (m:=0) (s:=(P,f.2)) F2;have w:=WU (m:=0) (s:=(f.1,P)) F1;dsimp only at v w;have o1:=Mg e1.symm e2.symm v w;have o2:=Mg (s:=dt a b f.2) (t:=dt a b f.1) (by rw[Bu];exact e1.symm) (by rw[Bu];exact e2.symm) w v
 refine⟨o1.1,o2.1,λz=>?_⟩;rcases wE z with⟨y1,y2⟩|⟨y1,y2⟩|y
 ·grind
 ·grind
 ·exact y
theorem KO{m:Nat}{e f:Q3×Q3}(e1:PQ m e.1)(e2:PQ m e.2)(be:bq e.1 e.2=true)(f1:PQ m f.1)(f2:PQ m f.2)(bf:bq f.1 f.2=true)(h:Tc e f){P:Q3}(hP:PQ m P)(P0:dt e.1 e.2 P=0)(P1:bq e.1 P=true)(P2:bq P e.2=true)(F0:dt f.1 f.2 P=0)(F1:bq P f.1=false)(F2:bq f.2 P=false):False:=by
 rcases h with h|h|⟨h1,h2⟩
 ·rw[yt hP e2 f1 P2 h] at F1;cases F1
 ·rw[yt f2 e1 hP h P1] at F2;cases F2
 ·by_cases c:aw (dt e.1 e.2 f.1)=0/\aw (dt e.1 e.2 f.2)=0
  ·grind
  ·have o:=Zv (f:=e) F0 P0 P1 P2;have bad:dt f.1 f.2 e.1=0->dt f.1 f.2 e.2=0->False:=λz1 z2=>by
    have lb:=vP f1 f2 bf z1 z2;exact c ⟨by rw[lb.1];rfl,by rw[lb.2];rfl⟩
   rcases h2 c with z|z|(z|z)|(z|z)
   ·by_cases q1:bq f.1 P=true
    ·by_cases q2:bq P f.2=true
     ·have:=(Zv P0 F0 q1 q2).2.2 z;exact c ⟨by rw[this.1];rfl,by rw[this.2];rfl⟩
     ·have e3:P=f.2:=yn hP f2 q2 (by rw[F2];exact pb)
      rw[e3] at P0;rw[P0] at z;exact c ⟨z,by rw[P0];rfl⟩
    ·have e3:f.1=P:=yn f1 hP q1 (by rw[F1];exact pb)
     rw[<-e3] at P0;rw[P0] at z;exact c ⟨by rw[P0];rfl,z.symm⟩
   ·grind
   ·have t1:dt f.1 f.2 e.1=0:=by rw[z];exact I5 _ _
    exact bad t1 (o.1 t1)
   ·grind
   ·grind
   ·have t1:dt f.1 f.2 e.2=0:=by rw[z];exact JS _ _
    exact bad (o.2.1 t1) t1
end Nu
variable{p q:Q3}{r:List Q3}
namespace Nu
theorem OU(a b c M:Q3):dt b c M*dY M a+dt c a M*dY M b+dt a b M*dY M c=0:=by unfold dt dY aE br bu bx;grind
def yH(h:bq p q=true):LP (dX p q) (dY p q):=WU (m:=0) (s:=(p,q)) h
def qO(h:LP (dX p q) (dY p q)):bq p q=true:=by
 rcases h with h|⟨h1,h2⟩
 ·exact yz h
 ·rw[yY h1];exact ζ h2
theorem j8{r:Q3}(hp:0<p.w)(hq:0<q.w)(hr:0<r.w)(h1:bq p q=true)(h2:bq q r=true):bq p r=true:=by
 obtain⟨t1,t2,t3⟩:=zy hp hq hr;have u1:=zO h1;have u2:=zO h2;refine qO ?_;rcases yH h1 with a|⟨a1,a2⟩
 ·exact .inl (t3 a u2)
 ·rcases yH h2 with b|⟨b1,b2⟩
  ·exact .inl (t2 u1 b)
  ·have n1:=zS p q;have n2:=zS q r;have n3:=zS p r;have:=t1 u1 u2;have:=(zy hr hq hp).1 (by lia) (by lia)
   exact .inr ⟨by lia,(vI hp hq hr).2.1 (kM a2) b2⟩
section
variable{a b c d M:Q3}
def wt(a b:Q3):(zd (a,b)=(a,b)/\bq a b=true)\/(zd (a,b)=(b,a)/\bq a b=false):=by
 unfold zd
 by_cases c:bq a b=true
 ·rw[θ c];exact .inl ⟨rfl,c⟩
 ·rw[η c];exact .inr ⟨rfl,by simpa using c⟩
theorem XM(h:0<dt a b c):a≠b:=λe=>by rw[e,A6] at h;lia
theorem A8(wa:0<a.w)(wb:0<b.w)(h:0<dt a b c):bq a b=true\/bq b a=true:=by
 have n:=zS a b;have m:=xK a b;rcases ue (dX a b) 0 with x|x|x
 ·exact .inr (yz (by lia))
 ·rcases ue (dY a b) 0 with y|y|y
  ·exact .inr (qO (.inr ⟨by lia,by lia⟩))
  ·have o:=qH a b c;have:=kf h wa;rw[x,y] at o;lia
  ·exact .inl (qO (.inr ⟨x,y⟩))
 ·exact .inl (yz x)
theorem Xe(wa:0<a.w)(wb:0<b.w)(hM:0<M.w)(hD:0<dt a b c)(g:dt a b M=0)(h1:0<=dt b c M)(h2:0<=dt c a M):aY (zd (a,b)).1 (zd (a,b)).2 M=true:=by
 have ex:=jg a b c M;have ey:=OU a b c M;have ew:=KE a b c M;have m:=kf hD hM;rw[g] at ex ey ew;have ex:dt b c M*dX M a+dt c a M*dX M b=0:=by lia
 have ey:dt b c M*dY M a+dt c a M*dY M b=0:=by lia
 have no1:bq M a=true->bq M b=true->False:=λu v=>by
  obtain⟨o1,o2,o3⟩:=Mg ex ey (yH u) (yH v)
  by_cases z:dt b c M=0
  ·rw[z,o1 z] at ew;lia
  ·have:=o2 (by lia);lia
 have no2:bq a M=true->bq b M=true->False:=λu v=>by
  have n1:=zS M a;have n2:=zS M b;have m1:=xK M a;have m2:=xK M b;have ex:dt b c M*dX a M+dt c a M*dX b M=0:=by rw[n1,n2,gB,gB];lia
  have ey:dt b c M*dY a M+dt c a M*dY b M=0:=by rw[m1,m2,gB,gB];lia
  obtain⟨o1,o2,o3⟩:=Mg ex ey (yH u) (yH v)
  by_cases z:dt b c M=0
  ·rw[z,o1 z] at ew;lia
  ·have:=o2 (by lia);lia
 have ff:∀{x:Bool},(x=true->False)->x=false:=λ{x} h=>by cases x;rfl;exact(h rfl).elim
 rcases wt a b with⟨e,q⟩|⟨e,q⟩
 ·rw[e];exact yS g (ff λu=>no1 u (j8 hM wa wb u q)) (ff λu=>no2 (j8 wa wb hM q u) u)
 ·have q:=(A8 wa wb hD).resolve_left (by rw[q];decide)
  rw[e];exact yS (by rw[wW,g];rfl) (ff λu=>no1 (j8 hM wb wa u q) u) (ff λu=>no2 u (j8 wb wa hM q u))
theorem sD(wa:0<a.w)(wb:0<b.w)(hM:0<M.w)(hD:0<dt a b c)(g:dt a b M=0)(u:bq (zd (a,b)).1 M=true)(v:bq M (zd (a,b)).2=true):0<dt b c M/\0<dt c a M:=by
 have ex:=jg a b c M;have ey:=OU a b c M;have ew:=KE a b c M;have m:=kf hD hM;rw[g] at ex ey ew;have n1:=zS M a;have n2:=zS M b;have m1:=xK M a;have m2:=xK M b;have fin:(-dt b c M=0->dt c a M=0)/\(0< -dt b c M->dt c a M<0)/\(-dt b c M<0->0<dt c a M)->0<dt b c M/\0<dt c a M:=λ⟨o1,o2,o3⟩=>by
  rcases ue (dt b c M) 0 with z|z|z
  ·have z1:=o2 (by lia)
   have:=Me z wa;have:=Me z1 wb;lia
  ·rw[z,o1 (by lia)] at ew;lia
  ·exact⟨z,o3 (by lia)⟩
 rcases wt a b with⟨e,q⟩|⟨e,q⟩
 ·rw[e] at u v;exact fin (Mg (vx:=dX a M) (vy:=dY a M) (wx:=dX M b) (wy:=dY M b) (by rw[n1,GH];lia) (by rw[m1,GH];lia) (yH u) (yH v))
 ·rw[e] at u v;obtain⟨o1,o2,o3⟩:=Mg (s:= -dt b c M) (t:=dt c a M) (vx:=dX M a) (vy:=dY M a) (wx:=dX b M) (wy:=dY b M) (by rw[n2,QG,gB];lia) (by rw[m2,QG,gB];lia) (yH v) (yH u)
  exact fin ⟨o1,o2,o3⟩
end
def aI(r:List Q3):List (Q3×Q3):=((r.getLastD zQ.1)::r).zip r
def bX(r:List Q3):Prop:=(∃a b c,r=[a,b,c]/\0<a.w/\0<b.w/\0<c.w/\0<dt a b c)\/∃a b c d,r=[a,b,c,d]/\ip a b c d
variable{M:Q3}
def V9{a b c:Q3}(wa:0<a.w)(wb:0<b.w)(wc:0<c.w)(hM:0<M.w):xk ((aI [a,b,c]).map zd) M=cH a b c M:=by
 show(ba (zd (c,a)) M^^(ba (zd (a,b)) M^^(ba (zd (b,c)) M^^false)))=_
 rw[vQ wc wa hM,vQ wa wb hM,vQ wb wc hM];unfold cH;generalize bE (dX M a) _ _=p;generalize bE (dX M b) _ _=q;generalize bE (dX M c) _ _=r
 cases p<;>cases q<;>cases r<;>rfl
def JN{a b c d:Q3}(h:ip a b c d)(hM:0<M.w):xk ((aI [a,b,c,d]).map zd) M=dF a b c d M:=by
 show(ba (zd (d,a)) M^^(ba (zd (a,b)) M^^(ba (zd (b,c)) M^^(ba (zd (c,d)) M^^false))))=_
 rw[vQ h.wd h.wa hM,vQ h.wa h.wb hM,vQ h.wb h.wc hM,vQ h.wc h.wd hM];unfold dF;generalize bE (dX M a) _ _=p;generalize bE (dX M b) _ _=q;generalize bE (dX M c) _ _=r;generalize bE (dX M d) _ _=s
 cases p<;>cases q<;>cases r<;>cases s<;>rfl
theorem Wh(h:bX r)(hM:0<M.w){s:Q3×Q3}(hs:s∈aI r):∃c,0<s.1.w/\0<s.2.w/\0<c.w/\0<dt s.1 s.2 c/\
  (dt s.1 s.2 M=0->(∀t∈aI r,0<=dt t.1 t.2 M)->0<=dt s.2 c M/\0<=dt c s.1 M)/\
  (dt s.1 s.2 M=0->0<dt s.2 c M->0<dt c s.1 M->xk ((aI r).map zd) M=A7 s.1 s.2 c M/\∀t∈aI r,t≠s->0<dt t.1 t.2 M):=by
 rcases h with⟨a,b,c,rfl,wa,wb,wc,hD⟩|⟨a,b,c,d,rfl,h⟩
 ·have key:∀a b c:Q3,0<a.w->0<b.w->0<c.w->0<dt a b c->∀l:List (Q3×Q3),(∀t,t∈l↔t=(a,b)\/t=(b,c)\/t=(c,a))->xk (l.map zd) M=cH a b c M->∃c',0<a.w/\0<b.w/\0<c'.w/\0<dt a b c'/\(dt a b M=0->(∀t∈l,0<=dt t.1 t.2 M)->0<=dt b c' M/\0<=dt c' a M)/\(dt a b M=0->0<dt b c' M->0<dt c' a M->xk (l.map zd) M=A7 a b c' M/\∀t∈l,t≠(a,b)->0<dt t.1 t.2 M):=λa b c wa wb wc hD l hl hp=>by
   refine⟨c,wa,wb,wc,hD,λ_ z=>⟨z (b,c) ((hl _).mpr (by simp)),z (c,a) ((hl _).mpr (by simp))⟩,λg g1 g2=>⟨by rw[hp,YF g g1 g2],λt ht ne=>?_⟩⟩
   rcases(hl t).mp ht with e|e|e
   ·exact absurd e ne
   ·rw[e];exact g1
   ·rw[e];exact g2
  have hs:s=(c,a)\/s=(a,b)\/s=(b,c):=by simpa[aI] using hs
  have p:=V9 wa wb wc hM (M:=M);have r1:dt c a b=dt a b c:=by rw[yZ,yZ]
  rcases hs with rfl|rfl|rfl
  ·exact key c a b wc wa wb (by rw[r1];exact hD) _ (λt=>by simp[aI]) (by rw[p,<-qK,<-qK])
  ·exact key a b c wa wb wc hD _ (λt=>by simp[aI];grind) p
  ·exact key b c a wb wc wa (by rw[yZ];exact hD) _ (λt=>by simp[aI];grind) (by rw[p,<-qK])
 ·have Mh:∀a b c d:Q3,dF b c d a M=dF a b c d M:=λa b c d=>by
   unfold dF;generalize bE (dX M a) _ _=p;generalize bE (dX M b) _ _=q;generalize bE (dX M c) _ _=r;generalize bE (dX M d) _ _=s
   cases p<;>cases q<;>cases r<;>cases s<;>rfl
  have key:∀a b c d:Q3,ip a b c d->∀l:List (Q3×Q3),(∀t,t∈l↔t=(a,b)\/t=(b,c)\/t=(c,d)\/t=(d,a))->xk (l.map zd) M=dF a b c d M->∃c',0<a.w/\0<b.w/\0<c'.w/\0<dt a b c'/\(dt a b M=0->(∀t∈l,0<=dt t.1 t.2 M)->0<=dt b c' M/\0<=dt c' a M)/\(dt a b M=0->0<dt b c' M->0<dt c' a M->xk (l.map zd) M=A7 a b c' M/\∀t∈l,t≠(a,b)->0<dt t.1 t.2 M):=λa b c d h l hl hp=>by
   obtain⟨i1,i2⟩:=h.in1 (M:=M);refine⟨c,h.wa,h.wb,h.wc,h.h1,λg z=>⟨z (b,c) ((hl _).mpr (by simp)),?_⟩,λg g1 g2=>?_⟩
   ·have z4:=z (d,a) ((hl _).mpr (by simp))
    rw[g] at i2;exact vD h.h4 (show _=dt d a M*dt a b c by omega) (m0 z4 h.h1)
   ·rw[g] at i2;have g4:0<dt d a M:=vz h.h1 (show _=dt c a M*dt d a b by omega) (kf g2 h.h4)
    obtain⟨q1,q2⟩:=sC h hM g g1 g4;refine⟨by rw[hp,q2],λt ht ne=>?_⟩
    rcases(hl t).mp ht with e|e|e|e
    ·exact absurd e ne
    ·rw[e];exact g1
    ·rw[e];exact q1
    ·rw[e];exact g4
  have hs:s=(d,a)\/s=(a,b)\/s=(b,c)\/s=(c,d):=by simpa[aI] using hs
  have p:=JN h hM (M:=M);rcases hs with rfl|rfl|rfl|rfl
  ·exact key d a b c h.rot.rot.rot _ (λt=>by simp[aI]) (by rw[p,<-Mh,<-Mh,<-Mh])
  ·exact key a b c d h _ (λt=>by simp[aI];grind) p
  ·exact key b c d a h.rot _ (λt=>by simp[aI];grind) (by rw[p,<-Mh])
  ·exact key c d a b h.rot.rot _ (λt=>by simp[aI];grind) (by rw[p,<-Mh,<-Mh])
theorem VI(h:bX r)(hM:0<M.w)(iV:∀s∈aI r,aY (zd s).1 (zd s).2 M=false)(z:∀t∈aI r,0<=dt t.1 t.2 M):∀t∈aI r,0<dt t.1 t.2 M:=λt ht=>by
 obtain⟨c,w1,w2,w3,hD,k,_⟩:=Wh h hM ht
 by_cases e:dt t.1 t.2 M=0
 ·have:=Xe w1 w2 hM hD e (k e z).1 (k e z).2;rw[show zd (t.1,t.2)=zd t from rfl,iV t ht] at this;cases this
 ·have:=z t ht;lia
def X9(h:bX r)(hM:0<M.w){s:Q3×Q3}(hs:s∈aI r)(g:dt s.1 s.2 M=0)(u:bq (zd s).1 M=true)(v:bq M (zd s).2=true):xk ((aI r).map zd) M=(bq s.1 s.2^^ !bU s)/\∀t∈aI r,t≠s->0<dt t.1 t.2 M:=by
 obtain⟨c,w1,w2,w3,hD,_,k⟩:=Wh h hM hs;obtain⟨g1,g2⟩:=sD (c:=c) w1 w2 hM hD g u v;obtain⟨k1,k2⟩:=k g g1 g2;exact⟨by rw[k1,KN w1 w2 w3 hM hD g g1 g2],k2⟩
theorem sE(h:bX r)(hM:0<M.w)(iV:∀s∈aI r,aY (zd s).1 (zd s).2 M=false):xk ((aI r).map zd) M=(aI r).all λs=>decide (0<dt s.1 s.2 M):=by
 have ge:=VI h hM iV;rcases h with⟨a,b,c,rfl,wa,wb,wc,hD⟩|⟨a,b,c,d,rfl,h⟩
 ·have o:∀{a b c:Q3},0<a.w->0<b.w->0<dt a b c->aY (zd (a,b)).1 (zd (a,b)).2 M=false->¬mE a b c c M:=λw1 w2 hD e⟨x,y,z⟩=>by rw[Xe w1 w2 hM hD x y z] at e;cases e
  have r1:0<dt b c a:=by rw[yZ];exact hD
  have r2:0<dt c a b:=by rw[yZ,yZ];exact hD
  rw[V9 wa wb wc hM,YL wa wb wc hD hM (o wa wb hD (iV _ (by simp[aI]))) (o wb wc r1 (iV _ (by simp[aI]))) (o wc wa r2 (iV _ (by simp[aI])))]
  show _=(decide (0<dt c a M)&&(decide (0<dt a b M)&&(decide (0<dt b c M)&&true)))
  by_cases x:0<dt a b M<;>by_cases y:0<dt b c M<;>by_cases z:0<dt c a M<;>simp[x,y,z]
 ·have o:∀{a b c d:Q3},ip a b c d->aY (zd (a,b)).1 (zd (a,b)).2 M=false->¬mE a b c d M:=λ{a b c d} h e⟨x,y,z⟩=>by
   obtain⟨i1,i2⟩:=h.in1 (M:=M);rw[x] at i2;have:0<=dt c a M:=vD h.h4 (show _=dt d a M*dt a b c by omega) (m0 z h.h1)
   rw[Xe h.wa h.wb hM h.h1 x y this] at e;cases e
  rw[JN h hM,zcv h hM (o h (iV _ (by simp[aI]))) (o h.rot (iV _ (by simp[aI]))) (o h.rot.rot (iV _ (by simp[aI]))) (o h.rot.rot.rot (iV _ (by simp[aI])))]
  show _=(decide (0<dt d a M)&&(decide (0<dt a b M)&&(decide (0<dt b c M)&&(decide (0<dt c d M)&&true))))
  by_cases x:0<dt a b M<;>by_cases y:0<dt b c M<;>by_cases z:0<dt c d M<;>by_cases w:0<dt d a M<;>simp[x,y,z,w]
end Nu
end
section
namespace Nu
end Nu
variable{s:Q3×Q3}
namespace Nu
section
variable{n:Nat}{ss:List (Q3×Q3)}{ps:List (Nat×Nat)}{g:Int}(T:zr n ss ps g)
include T
theorem wN{q:Q3}(h:cA (4*n+3) ss q s):q∈stC ss ps:=by
 obtain⟨i,hi,e⟩:=wA h.mem;subst e;exact wI ((y5 T).mpr ⟨hi,h⟩)
theorem YY(h:s∈ss):cA (4*n+3) ss s.1 s/\cA (4*n+3) ss s.2 s:=by
 obtain⟨i,hi,e⟩:=wA h;subst e;exact⟨((y5 T).mp (.inl (yE.mpr ⟨hi,.inl rfl⟩))).2,((y5 T).mp (.inl (yE.mpr ⟨hi,.inr rfl⟩))).2⟩
theorem j7{f:Q3×Q3}(h:wD (4*n+3) ss f)(hs:s∈ss)(o1:aY s.1 s.2 f.1=true)(o2:aY s.1 s.2 f.2=true):cA (4*n+3) ss f.1 s/\cA (4*n+3) ss f.2 s/\∀r,cA (4*n+3) ss r s->bq f.1 r=true->bq r f.2=true->False:=by
 obtain⟨i,hi,e⟩:=wA hs;subst e;obtain⟨a,b,c⟩:=bT.nb T ((jA T).mpr h) hi o1 o2;exact⟨((y5 T).mp a).2,((y5 T).mp b).2,λr hr=>c r ((y5 T).mpr ⟨hi,hr⟩)⟩
theorem WH{p r:Q3}(hp:cA (4*n+3) ss p s)(hr:cA (4*n+3) ss r s)(b:bq p r=true):∃q,wD (4*n+3) ss (p,q)/\cA (4*n+3) ss q s/\bq p q=true/\∀r,cA (4*n+3) ss r s->bq p r=true->bq r q=false:=by
 obtain⟨q,_,⟨q1,q2⟩,q3⟩:=WB (k:=4*n+3) (T:=λq=>cA (4*n+3) ss q s/\bq p q=true) (λq h=>h.1.pq) ⟨r,wN T hr,hr,b⟩;refine⟨q,⟨s,hp,q1,q2,λr h1 h2 h3=>?_⟩,q1,q2,λr h1 h2=>q3 r (wN T h1) ⟨h1,h2⟩⟩;have:=q3 r (wN T h1) ⟨h1,h2⟩;dsimp only at h3;rw[this] at h3;cases h3
theorem KP{p r:Q3}(hp:cA (4*n+3) ss p s)(hr:cA (4*n+3) ss r s)(b:bq r p=true):∃q,wD (4*n+3) ss (q,p)/\cA (4*n+3) ss q s/\bq q p=true/\∀r,cA (4*n+3) ss r s->bq r p=true->bq q r=false:=by
 obtain⟨q,_,⟨q1,q2⟩,q3⟩:=Yg (k:=4*n+3) (T:=λq=>cA (4*n+3) ss q s/\bq q p=true) (λq h=>h.1.pq) ⟨r,wN T hr,hr,b⟩;refine⟨q,⟨s,q1,hp,q2,λr h1 h2 h3=>?_⟩,q1,q2,λr h1 h2=>q3 r (wN T h1) ⟨h1,h2⟩⟩;have:=q3 r (wN T h1) ⟨h1,h3⟩;dsimp only at h2;rw[this] at h2;cases h2
end
end Nu
end
section
namespace Nu
section
variable{n:Nat}{A B:List (Q3×Q3)}{ps pt:List (Nat×Nat)}{w w':Int}(TA:zr n A ps w)(TB:zr n B pt w')(AB:∀s∈A,s∈B)
include TA TB AB
end
section
variable{n:Nat}{ss:List (Q3×Q3)}{ps:List (Nat×Nat)}{g:Int}(T:zr n ss ps g){fs:List (Q3×Q3)}(up:lg fs)(hf:∀f,f∈fs↔bT ss ps f)(cl:∀v,ar (ss.map (yu v))=false)
include T up hf cl
end
section
variable{n:Nat}{A B:List (Q3×Q3)}{ps pt:List (Nat×Nat)}{w w':Int}(TA:zr n A ps w)(TB:zr n B pt w')(AB:∀s∈A,s∈B){fs gs:List (Q3×Q3)}(uf:lg fs)(hf:∀f,f∈fs↔bT A ps f)(ug:lg gs)(hg:∀f,f∈gs↔bT B pt f)(cl:∀v,ar (A.map (yu v))=false)
include TA TB AB uf hf ug hg cl
end
noncomputable def holds(g s:Q3×Q3):Bool:=aY s.1 s.2 g.1&&aY s.1 s.2 g.2
section
variable{n:Nat}{ss:List (Q3×Q3)}{ps:List (Nat×Nat)}{g:Int}(T:zr n ss ps g){fs:List (Q3×Q3)}(up:lg fs)(hf:∀f,f∈fs↔bT ss ps f)(cl:∀v,ar (ss.map (yu v))=false)
include T up hf
end
def rt(p:Q3):Q3:=⟨-p.x,-p.y,p.w⟩
end Nu
variable{M:Q3}
namespace Nu
theorem KQ(w:0<M.w):∃k N c,PQ k N/\0<c/\M.x=N.x*c/\M.y=N.y*c/\M.w=N.w*c:=by
 have lt:∀n:Nat,n<2^n:=λn=>Nat.lt_two_pow_self;have le:∀n,n<=M.x.natAbs+M.y.natAbs+M.w.natAbs->n<2^(M.x.natAbs+M.y.natAbs+M.w.natAbs):=λn h=>um h (lt _);have g1:((g3 M.x M.y M.w:Nat):Int) ∣ M.x:=Ue.mpr (Co (Uz _ _) (Uz _ _));have g2:((g3 M.x M.y M.w:Nat):Int) ∣ M.y:=Ue.mpr (Co (Uz _ _) (gv _ _));have g4:((g3 M.x M.y M.w:Nat):Int) ∣ M.w:=Ue.mpr (gv _ _);have pos:0<bH M.x M.y M.w:=by
  rcases Xy (x:=M.x) (y:=M.y) (w:=M.w) (by lia) with z|z
  ·exact z.1
  ·lia
 refine⟨_,⟨IX M.x M.y M.w,IY M.x M.y M.w,IZ M.x M.y M.w⟩,bH M.x M.y M.w,Vm (by lia) (le _ (by lia)) (le _ (by lia)) (le _ (by lia)),pos,?_,?_,?_⟩
 ·exact(Bp (je _ _ _ _ g1)).symm
 ·exact(Bp (je _ _ _ _ g2)).symm
 ·exact(Bp (je _ _ _ _ g4)).symm
theorem OV{N q:Q3}{c:Int}(h:0<c)(ex:M.x=N.x*c)(ey:M.y=N.y*c)(ew:M.w=N.w*c):bq M q=bq N q/\bq q M=bq q N:=by
 have a:∀x y:Int,(x*c<y*c↔x<y)/\(x*c=y*c↔x=y):=λx y=>⟨⟨λz=>Int.lt_of_mul_lt_mul_right z (kM h),λz=>gw z h⟩,⟨λz=>AJ (by lia) z,λz=>by rw[z]⟩⟩
 constructor
 ·rw[QL];unfold bq;rw[y7,y7,ex,ey,ew];rw[show N.x*c*q.w=(N.x*q.w)*c by grind,show q.x*(N.w*c)=(q.x*N.w)*c by grind,show N.y*c*q.w=(N.y*q.w)*c by grind,show q.y*(N.w*c)=(q.y*N.w)*c by grind,(a _ _).1,(a _ _).2,(a _ _).1]
 ·rw[QL];unfold bq;rw[y7,y7,ex,ey,ew];rw[show N.x*c*q.w=(N.x*q.w)*c by grind,show q.x*(N.w*c)=(q.x*N.w)*c by grind,show N.y*c*q.w=(N.y*q.w)*c by grind,show q.y*(N.w*c)=(q.y*N.w)*c by grind,(a _ _).1,(a _ _).2,(a _ _).1]
theorem sG{m:Nat}{os:List (Q3×Q3)}(A:Ap m os){p s:Q3×Q3}(hp:p∈os)(hs:s∈os)(ne:p≠s)(hM:Ky p M)(t:dt s.1 s.2 M=0)(i1:bq M s.1=false)(i2:bq s.2 M=false):False:=by
 obtain⟨k,N,c,pN,c0,ex,ey,ew⟩:=KQ hM.w;have sc:=λq=>OV (q:=q) c0 ex ey ew;have sd:∀a b,dt a b M=dt a b N*c:=λa b=>by unfold dt aE;rw[ex,ey,ew];grind
 obtain⟨p1,p2,p3⟩:=A.ok p hp;obtain⟨s1,s2,s3⟩:=A.ok s hs;have z:∀{a b},dt a b M=0->dt a b N=0:=λ{a b} h=>by rw[sd] at h;exact(kX.mp h).resolve_right (by lia)
 have up:∀{q:Q3},PQ m q->PQ (max m k) q:=λh=>Pt.mono h (Nat.le_max_left _ _);have b:bq p.1 M=true/\bq M p.2=true:=by
  have:=zO p3;rcases(by lia:0<dX p.1 p.2\/dX p.1 p.2=0) with y|y
  ·exact⟨yz (hM.lv y).1,yz (hM.lv y).2⟩
  ·obtain⟨a1,a2,a3⟩:=hM.up y;have a4:dX M p.2=0:=by
    have e1:=(zy (p:=p.1) (q:=M) (r:=p.2) p1.pos hM.w p2.pos).2.1 (by lia)
    have e2:=(zy (p:=M) (q:=p.1) (r:=p.2) hM.w p1.pos p2.pos).1 (by rw[zS];lia) (by lia)
    lia
   exact⟨by rw[yY a1];exact ζ a2,by rw[yY a4];exact ζ a3⟩
 rw[(sc _).2,(sc _).1] at b;rw[(sc _).1] at i1;rw[(sc _).2] at i2;exact KO (up p1) (up p2) p3 (up s1) (up s2) s3 (A.ap p hp s hs ne) (Pt.mono pN (Nat.le_max_right _ _)) (z hM.on) b.1 b.2 (z t) i1 i2
end Nu
end
section
variable{M:Q3}{f:Q3×Q3}
namespace Nu
theorem dQ{a b p q r:Q3}(h:bq a b=true)(hp:dt a b p=0)(hq:dt a b q=0)(hr:dt a b r=0):dt p q r=0:=by
 have e1:dt p q r*dX a b=dt a b p*(q.w*r.x-q.x*r.w)+dt a b q*(r.w*p.x-r.x*p.w)+dt a b r*(p.w*q.x-p.x*q.w):=by unfold dt dX aE br bu bx;grind
 have e2:dt p q r*dY a b= -(dt a b p*(q.y*r.w-q.w*r.y)+dt a b q*(r.y*p.w-r.w*p.y)+dt a b r*(p.y*q.w-p.w*q.y)):=by unfold dt dY aE br bu bx;grind
 rw[hp,hq,hr] at e1 e2;rcases yH h with z|⟨_,z⟩
 ·exact(kX.mp (by lia:dt p q r*dX a b=0)).resolve_right (by lia)
 ·exact(kX.mp (by lia:dt p q r*dY a b=0)).resolve_right (by lia)
theorem KR{p:Q3×Q3}(w1:0<p.1.w)(w2:0<p.2.w)(b:bq p.1 p.2=true)(hM:Ky p M):bq p.1 M=true/\bq M p.2=true:=by
 have:=zO b;rcases(by lia:0<dX p.1 p.2\/dX p.1 p.2=0) with y|y
 ·exact⟨yz (hM.lv y).1,yz (hM.lv y).2⟩
 ·obtain⟨a1,a2,a3⟩:=hM.up y;have a4:dX M p.2=0:=by
   have e1:=(zy (p:=p.1) (q:=M) (r:=p.2) w1 hM.w w2).2.1 (by lia)
   have e2:=(zy (p:=M) (q:=p.1) (r:=p.2) hM.w w1 w2).1 (by rw[zS];lia) (by lia)
   lia
  exact⟨qO (.inr ⟨a1,a2⟩),qO (.inr ⟨a4,a3⟩)⟩
section
variable{n:Nat}{ss:List (Q3×Q3)}{ps:List (Nat×Nat)}{g:Int}(T:zr n ss ps g){fs:List (Q3×Q3)}(up:lg fs)(hf:∀f,f∈fs↔bT ss ps f)
include T up hf
theorem KS{s:Q3×Q3}(h:f∈fs)(hs:s∈ss)(hM:Ky f M)(o:aY s.1 s.2 M=true):holds f s=true:=by
 have A:=Vr T up hf;obtain⟨o0,o1,o2⟩:=zj o;obtain⟨e1,e2⟩:=YY T hs;have bs:=(T.ok s hs).2.2;have fin:∀p q,wD (4*n+3) ss (p,q)->cA (4*n+3) ss p s->cA (4*n+3) ss q s->bq M p=false->bq q M=false->holds f s=true:=λp q hp lp lq u v=>by
  have mg:(p,q)∈fs:=(hf _).mpr ((jA T).mpr hp);have e:f=(p,q):=uB λne=>sG A h mg ne hM (dQ bs (zj lp.on).1 (zj lq.on).1 o0) u v;unfold holds;rw[e,lp.on,lq.on];rfl
 cases b:bq M s.2 with
 |true=>
  obtain⟨p,_,⟨p1,p2⟩,p3⟩:=Yg (k:=4*n+3) (T:=λq=>cA (4*n+3) ss q s/\bq M q=false) (λq h=>h.1.pq) ⟨s.1,wN T e1,e1,o1⟩;have b2:bq p s.2=true:=by
   refine uB λz=>?_;rw[wG e2.pq.pos p1.pq.pos hM.w (pS.mpr z) p2] at b;cases b
  obtain⟨q,q1,q2,q3,q4⟩:=WH T p1 e2 b2;refine fin p q q1 p1 q2 p2 (pS.mpr λz=>?_);have:=p3 q (wN T q2) ⟨q2,zt z⟩;rw[this] at q3;cases q3
 |false=>
  obtain⟨q,q1,q2,q3,q4⟩:=KP T e2 e1 bs;refine fin q s.2 q1 q2 e2 (pS.mpr λz=>?_) o2;rw[j8 hM.w q2.pq.pos e2.pq.pos z q3] at b;cases b
omit up in
theorem WG{s:Q3×Q3}(h:f∈fs)(hs:s∈ss)(hM:Ky f M)(o:holds f s=true):dt s.1 s.2 M=0/\bq s.1 M=true/\bq M s.2=true:=by
 obtain⟨k,h1,h2,h3,_⟩:=(hf f).mp h;have p1:=(T.lies h1).2.1;have p2:=(T.lies h2).2.1;obtain⟨s1,s2,bs⟩:=T.ok s hs;unfold holds at o;rw[pO] at o;obtain⟨a0,a1,a2⟩:=zj o.1;obtain⟨b0,b1,b2⟩:=zj o.2;obtain⟨m1,m2⟩:=KR p1.pos p2.pos h3 hM;refine⟨qW h3 a0 b0 hM.on,uB λz=>?_,uB λz=>?_⟩
 ·rw[wG hM.w s1.pos p1.pos (pS.mpr z) a1] at m1;cases m1
 ·rw[wG p2.pos s2.pos hM.w b2 (pS.mpr z)] at m2;cases m2
end
structure OW(ss:List (Q3×Q3))(sel:Nat->Bool)(r:List Q3):Prop where
 x:∀φ:Q3×Q3->Bool,ar ((kN ss.length).map λk=>sel k&&φ (ss.getD k zQ))=ar ((aI r).map λs=>φ (zd s))
 e:∀k,k<ss.length->sel k=true->∃s∈aI r,zd s=ss.getD k zQ
 m:∀s∈aI r,∃k,k<ss.length/\sel k=true/\ss.getD k zQ=zd s
def vg{a b c:Q3}(h:0<dt a b c):a≠b/\b≠c/\c≠a:=⟨XM h,XM (by rw[yZ];exact h),XM (c:=b) (by rw[yZ,yZ];exact h)⟩
theorem KU{r:List Q3}(h:bX r):(aI r).Nodup:=by
 rcases h with⟨a,b,c,rfl,wa,wb,wc,hD⟩|⟨a,b,c,d,rfl,h⟩
 ·have:=vg hD
  simp[aI];grind
 ·have n1:=vg h.h1;have n2:=vg h.h2;have n3:=vg h.h3;have n4:=vg h.h4
  simp[aI];grind
def zbe{r:List Q3}(h:bX r)(v:Q3):ar ((aI r).map λs=>yu v (zd s))=false:=by
 rw[zY (g:=yu v) λs _=>zc1 v s];rcases h with⟨a,b,c,rfl,_⟩|⟨a,b,c,d,rfl,_⟩
 ·show(yu v (c,a)^^(yu v (a,b)^^(yu v (b,c)^^false)))=false
  unfold yu;dsimp only
  cases decide (a=v)<;>cases decide (b=v)<;>cases decide (c=v)<;>rfl
 ·show(yu v (d,a)^^(yu v (a,b)^^(yu v (b,c)^^(yu v (c,d)^^false))))=false
  unfold yu;dsimp only
  cases decide (a=v)<;>cases decide (b=v)<;>cases decide (c=v)<;>cases decide (d=v)<;>rfl
def iW(s f:Q3×Q3)(w:Int):Int:=if aw (dt s.1 s.2 (zx f))=0 then w*aw (dX s.1 s.2*dX f.1 f.2+dY s.1 s.2*dY f.1 f.2) else aw (dt s.1 s.2 (zx f))
def bL(r:List Q3)(f:Q3×Q3)(w:Int):Bool:=(aI r).all λs=>decide (0<=iW s f w)
def Vw{s:Q3×Q3}{w:Int}(h:0<dt s.1 s.2 (zx f)):0<=iW s f w:=by
 have:aw (dt s.1 s.2 (zx f))=1:=θ h;unfold iW;rw[this,η (by decide)];decide
theorem sH{s:Q3×Q3}{w:Int}(h:dt s.1 s.2 (zx f)<0):¬0<=iW s f w:=by
 have:aw (dt s.1 s.2 (zx f))= -1:=by unfold aw;rw[η (by lia),θ h]
 unfold iW;rw[this,η (by decide)];decide
end Nu
end
section
namespace Nu
theorem KV(s:Q3×Q3)(p q:Q3):dt s.1 s.2 q*p.w-dt s.1 s.2 p*q.w=dX s.1 s.2*dY p q-dY s.1 s.2*dX p q:=by unfold dt dX dY aE br bu bx;grind
theorem A9{ux uy vx vy:Int}(c:ux*vy-uy*vx=0)(hu:LP ux uy)(hv:LP vx vy):0<ux*vx+uy*vy:=by
 rcases hu with u|⟨u,u'⟩
 ·rcases hv with v|⟨v,v'⟩
  ·have h1:=kf u v;have h2:0<=uy*vy:=by
    have e:uy*vy*vx=ux*(vy*vy):=by
     rw[show uy*vy*vx=(uy*vx)*vy by grind,show uy*vx=ux*vy by lia];grind
    have sq:0<=vy*vy:=by
     rcases Gw 0 vy with z|z
     ·exact kz z z
     ·exact A5 z z
    exact vD v e (kz (kM u) sq)
   lia
  ·rw[v] at c;have:=kf u v';lia
 ·rw[u] at c;rcases hv with v|⟨v,v'⟩
  ·have:=kf u' v;lia
  ·have:=kf u' v';rw[u,v];lia
def zcw{α:Type}[DecidableEq α]{l:List α}(nd:l.Nodup){f:α->Bool}(h:∀a∈l,∀b∈l,f a=true->f b=true->a=b):ar (l.map f)=l.any f:=by
 by_cases c:∃a∈l,f a=true
 ·obtain⟨a,ha,e⟩:=c;rw[zY (g:=λv=>(λ_=>true) v&&decide (a=v)) λv hv=>?_,Yc nd ha,Uu.mpr ⟨a,ha,e⟩];rw[Qn]
  by_cases z:a=v
  ·rw[ζ z,<-z,e]
  ·rw[ι z];exact pS.mpr λq=>z (h a ha v hv e q)
 ·rw[vH λa ha=>pS.mpr λz=>c ⟨a,ha,z⟩];exact(List.any_eq_false.mpr λa ha z=>c ⟨a,ha,z⟩).symm
theorem xN(s:Q3×Q3)(M:Q3):dt (zd s).1 (zd s).2 M=0↔dt s.1 s.2 M=0:=by
 rcases wt s.1 s.2 with⟨e,_⟩|⟨e,_⟩
 ·rw[show zd s=(s.1,s.2) from e]
 ·rw[show zd s=(s.2,s.1) from e];show dt s.2 s.1 M=0↔_;rw[wW s.1 s.2];lia
section
variable{n:Nat}{ss:List (Q3×Q3)}{ps:List (Nat×Nat)}{g:Int}(T:zr n ss ps g){fs:List (Q3×Q3)}(up:lg fs)(hf:∀f,f∈fs↔bT ss ps f)
 {r:List Q3}(cv:bX r){sel:Nat->Bool}(S:OW ss sel r)
include T up hf cv S
omit up in
theorem zav{f:Q3×Q3}(h:f∈fs){s t:Q3×Q3}(hs:s∈aI r)(ht:t∈aI r)(a:holds f (zd s)=true)(b:holds f (zd t)=true):s=t:=by
 obtain⟨k,h1,h2,h3,_⟩:=(hf f).mp h;have hM:=V7 (a:=f) (T.lies h1).2.1.pos (T.lies h2).2.1.pos h3;have mem:∀s∈aI r,zd s∈ss:=λs hs=>by obtain⟨k,hk,_,e⟩:=S.m s hs;rw[<-e];exact zg hk
 obtain⟨a0,a1,a2⟩:=WG T hf h (mem s hs) hM a;obtain⟨b0,b1,b2⟩:=WG T hf h (mem t ht) hM b;have:=(X9 cv hM.w hs ((xN _ _).mp a0) a1 a2).2 t ht;refine uB λz=>?_;have:=this λe=>z e.symm;have:=(xN _ _).mp b0;lia
omit up in
theorem B0{f:Q3×Q3}(h:f∈fs):ar ((kN ss.length).map λk=>sel k&&decide (k∈zH ss f))=(aI r).any λs=>holds f (zd s):=by
 rw[zY (g:=λk=>sel k&&holds f (ss.getD k zQ)) λk hk=>?_,S.x (holds f)]
 ·exact zcw (KU cv) λa ha b hb x y=>zav T hf cv S h ha hb x y
 ·have hk:=kn.mp hk
  congr 1
  rw[QL,τ,xg];unfold holds cZ;rw[pO];exact⟨λ⟨_,z⟩=>z,λz=>⟨hk,z⟩⟩
theorem JE{ms:List Nat}{b:Nat}(hb:∀j,j<fs.length->(ms.getD j 0).testBit b=decide (∃k∈zH ss (fs.getD j zQ),sel k=true)){i:Nat}(hi:i<fs.length):
  (spT fs ms i).1.testBit b=bL r (fs.getD i zQ) 1/\(spT fs ms i).2.testBit b=bL r (fs.getD i zQ) (-1):=by
 have A:=Vr T up hf;have hB:∀j,j<fs.length->(ms.getD j 0).testBit b=ar ((kN ss.length).map λk=>sel k&&decide (k∈zH ss (fs.getD j zQ))):=λj hj=>by
  rw[hb j hj,B0 T hf cv S (zg hj),QL,τ,Uu]
  constructor
  ·intro⟨k,hk,sk⟩;obtain⟨kl,o1,o2⟩:=xg.mp hk;obtain⟨s,hs,e⟩:=S.e k kl sk;unfold cZ at o1 o2;exact⟨s,hs,by unfold holds;rw[e,o1,o2];rfl⟩
  ·intro⟨s,hs,e⟩;obtain⟨k,hk,sk,ek⟩:=S.m s hs;unfold holds at e;rw[<-ek,pO] at e;exact⟨k,xg.mpr ⟨hk,e.1,e.2⟩,sk⟩
 have E:ON fs λj=>(ms.getD j 0).testBit b:=λv=>by
  have:=KC T A.nd hf (sel:=sel) (λv=>(S.x (yu v)).trans (zbe cv v)) v;rw[zY λj hj=>υ (·&&_) (hB j (kn.mp hj)),zY (l:=kN fs.length) (f:=λj=>(ms.getD j 0).testBit b&&decide ((fs.getD j zQ).2=v)) λj hj=>υ (·&&_) (hB j (kn.mp hj))];exact this
 obtain⟨k1,k2,k3⟩:=A.ok _ (zg hi);have hM:=V7 k1.pos k2.pos k3;obtain⟨b1,b2,b3⟩:=so A E hi hM;have par:ar ((kN fs.length).map λj=>(ms.getD j 0).testBit b&&ba (fs.getD j zQ) (zx (fs.getD i zQ)))=xk ((aI r).map zd) (zx (fs.getD i zQ)):=by
  rw[zY λj hj=>υ (·&&_) (hB j (kn.mp hj)),zcf T A.nd hf sel hM.w,S.x λs=>ba s _];unfold xk;rw[uE];rfl
 rw[par] at b1 b2;rw[hB i hi,B0 T hf cv S (zg hi)] at b3;have mf:=zg hi;have mem:∀s∈aI r,zd s∈ss:=λs hs=>by obtain⟨k,hk,_,e⟩:=S.m s hs;rw[<-e];exact zg hk
 generalize fs.getD i zQ=f at*;generalize (spT fs ms i).1.testBit b=L at*;generalize (spT fs ms i).2.testBit b=R at*;have lv:(bU f=true/\0<dX f.1 f.2)\/(bU f=false/\dX f.1 f.2=0):=by
  cases l:bU f with
  |true=>exact .inl ⟨rfl,jY k3 l⟩
  |false=>
   unfold bU at l;rw[Ek] at l;have l:=ξ l;exact .inr ⟨rfl,by unfold dX;lia⟩
 cases o:(aI r).any λs=>holds f (zd s) with
 |false=>
  have no:=List.any_eq_false.mp o;have iV:∀s∈aI r,aY (zd s).1 (zd s).2 (zx f)=false:=λs hs=>pS.mpr λz=>no s hs (KS T up hf mf (mem s hs) hM z);have p:=sE cv hM.w iV;have ge:=VI cv hM.w iV;have hd:∀w,bL r f w=xk ((aI r).map zd) (zx f):=λw=>by
   rw[p];unfold bL
   by_cases al:∀s∈aI r,0<dt s.1 s.2 (zx f)
   ·rw[uS.mpr λs hs=>ζ (al s hs),uS.mpr λs hs=>ζ (Vw (al s hs))]
   ·have:∃s∈aI r,dt s.1 s.2 (zx f)<0:=uB λz=>al (ge λt ht=>by
     by_cases q:0<=dt t.1 t.2 (zx f)
     ·exact q
     ·exact absurd ⟨t,ht,by lia⟩ z)
    obtain⟨s,hs,z⟩:=this;rw[FK.mpr ⟨s,hs,by rw[ι (sH z)];decide⟩,FK.mpr ⟨s,hs,by rw[ι (by lia)];decide⟩]
  rw[o,BL] at b3;rw[hd,hd,b3];rcases lv with⟨_,l⟩|⟨_,l⟩
  ·exact⟨b1 l,b1 l⟩
  ·have:=b2 l;rw[b3] at this;exact⟨this,this⟩
 |true=>
  obtain⟨s,hs,a⟩:=List.any_eq_true.mp o;obtain⟨a0,a1,a2⟩:=WG T hf mf (mem s hs) hM a;obtain⟨c1,c2⟩:=X9 cv hM.w hs ((xN _ _).mp a0) a1 a2;unfold holds at a;rw[pO] at a;have d1:=(xN _ _).mp (zj a.1).1;have d2:=(xN _ _).mp (zj a.2).1;have li:=KV s f.1 f.2;rw[d1,d2] at li;have cr:dX s.1 s.2*dY f.1 f.2-dY s.1 s.2*dX f.1 f.2=0:=by lia
  obtain⟨c,w1,w2,_,hD,_⟩:=Wh cv hM.w hs;have z0:aw (dt s.1 s.2 (zx f))=0:=by rw[(xN _ _).mp a0];rfl
  have nx:=zS s.1 s.2;have ny:=xK s.1 s.2;have dir:(bq s.1 s.2=true/\aw (dX s.1 s.2*dX f.1 f.2+dY s.1 s.2*dY f.1 f.2)=1)\/(bq s.1 s.2=false/\aw (dX s.1 s.2*dX f.1 f.2+dY s.1 s.2*dY f.1 f.2)= -1):=by
   rcases A8 w1 w2 hD with z|z
   ·exact .inl ⟨z,θ (A9 cr (yH z) (yH k3))⟩
   ·have:=A9 (ux:=dX s.2 s.1) (uy:=dY s.2 s.1) (by rw[nx,ny,QG,QG];lia) (yH z) (yH k3)
    rw[nx,ny,QG,QG] at this;exact .inr ⟨zt z,by unfold aw;rw[η (by lia),θ (by lia)]⟩
  have lvs:bU s=bU f:=by
   have e:∀x:Q3×Q3,bU x= !decide (dX x.1 x.2=0):=λx=>by
    unfold bU;rw[show decide (x.1.x*x.2.w=x.2.x*x.1.w)=decide (dX x.1 x.2=0) from ω.mpr (by unfold dX;lia)]
   rw[e,e]
   congr 1
   refine ω.mpr ⟨λz=>?_,λz=>?_⟩
   ·rw[z] at cr;have y:dY s.1 s.2≠0:=λy=>by
     have o:=qH s.1 s.2 c;have:=kf hD w1;rw[z,y] at o;lia
    exact(kX.mp (by lia:dY s.1 s.2*dX f.1 f.2=0)).resolve_left y
   ·rw[z] at cr;have y:dY f.1 f.2≠0:=λy=>by
     rcases yH k3 with q|⟨_,q⟩<;>lia
    exact(kX.mp (by lia:dX s.1 s.2*dY f.1 f.2=0)).resolve_right y
  have hd:∀w,bL r f w=decide (0<=w*aw (dX s.1 s.2*dX f.1 f.2+dY s.1 s.2*dY f.1 f.2)):=λw=>by
   unfold bL;rw[QL,uS,τ];have e:iW s f w=w*aw (dX s.1 s.2*dX f.1 f.2+dY s.1 s.2*dY f.1 f.2):=θ z0
   constructor
   ·intro z;rw[<-e];exact ξ (z s hs)
   ·intro z t ht;refine ζ ?_
    by_cases q:t=s
    ·rw[q,e];exact z
    ·exact Vw (c2 t ht q)
  rw[o,Bool.xor_true] at b3;rw[hd,hd];rw[c1,lvs] at b1 b2;rcases dir with⟨q,z⟩|⟨q,z⟩<;>rw[z]<;>rw[q] at b1 b2<;>rcases lv with⟨l,l'⟩|⟨l,l'⟩<;>rw[l] at b1 b2
  ·rw[b3,b1 l'];decide
  ·have:=b2 l';rw[b3] at this⊢;revert this;cases L<;>decide
  ·rw[b3,b1 l'];decide
  ·have:=b2 l';rw[b3] at this⊢;revert this;cases L<;>decide
end
end Nu
variable{a:Q3×Q3}{q:Q3}
namespace Nu
def vj{r:List Q3}(h:bX r){s:Q3×Q3}(hs:s∈aI r):s.1∈r/\s.2∈r/\s.1≠s.2:=by
 rcases h with⟨a,b,c,rfl,_,_,_,hD⟩|⟨a,b,c,d,rfl,h⟩
 ·obtain⟨n1,n2,n3⟩:=vg hD;have hs:s∈[(c,a),(a,b),(b,c)]:=hs;simp only[kT,pe,or_false] at hs;rcases hs with rfl|rfl|rfl<;>simp[n1,n2,n3]
 ·obtain⟨n1,n2,_⟩:=vg h.h1;obtain⟨n3,n4,_⟩:=vg h.h3;have hs:s∈[(d,a),(a,b),(b,c),(c,d)]:=hs;simp only[kT,pe,or_false] at hs;rcases hs with rfl|rfl|rfl|rfl<;>simp[n1,n2,n3,n4]
def xL{r:List Q3}(h:bX r):r.length<=4/\(aI r).length=r.length:=by
 rcases h with⟨a,b,c,rfl,_⟩|⟨a,b,c,d,rfl,_⟩<;>exact⟨by simp,rfl⟩
theorem Xk{α β:Type}{f:α->List β}{m:Nat}:∀xs:List α,(∀a∈xs,(f a).length<=m)->(xs.flatMap f).length<=m*xs.length
 |[],_=>ui _
 |x::xs,h=>by
  rw[Cc,kb,ku,HB];have:=h x (by simp)
  have:=Xk (f:=f) xs λa ha=>h a (by simp[ha])
  lia
theorem OX{α:Type}{a:α}(p:α->Bool)(hp:∀b,p b=false->b=a):∀{l:List α},l.Nodup->l.length<=(l.filter p).length+1
 |[],_=>ui _
 |b::l,nd=>by
  obtain⟨n1,n2⟩:=uU.mp nd;rw[UE,ku]
  cases h:p b with
  |true=>rw[θ rfl,ku];have:=OX p hp n2;lia
  |false=>
   have:l.filter p=l:=List.filter_eq_self.mpr λc hc=>by
    cases k:p c with
    |true=>rfl
    |false=>exact absurd (by rw[hp b h,<-hp c k];exact hc) n1
   rw[this];exact pL _
theorem Rb{α β:Type}{R:α->β->Prop}:∀{L:List β}{l:List α},l.Nodup->(∀a∈l,∃c∈L,R a c)->(∀a∈l,∀b∈l,∀c,R a c->R b c->a=b)->l.length<=L.length
 |[],[],_,_,_=>pL _
 |[],a::l,_,h,_=>by obtain⟨_,z,_⟩:=h a (by simp);cases z
 |c::L,l,nd,h,u=>by
  open Classical in
  by_cases k:∃a∈l,R a c
  ·obtain⟨a,ha,ra⟩:=k;have:=Rb (R:=R) (L:=L) (l:=l.filter λb=>decide (b≠a)) (nd.filter _) (λb hb=>by
    obtain⟨b1,b2⟩:=pG.mp hb;obtain⟨d,hd,rd⟩:=h b b1;rcases kT.mp hd with rfl|hd
    ·exact absurd (u b b1 a ha _ rd ra) (ξ b2)
    ·exact⟨d,hd,rd⟩) λb hb d hd=>u b (pG.mp hb).1 d (pG.mp hd).1
   have e:=OX (a:=a) (λb=>decide (b≠a)) (λb hb=>Classical.not_not.mp (of_decide_eq_false hb)) nd;rw[ku];lia
  ·have:=Rb (R:=R) (L:=L) nd (λb hb=>by
    obtain⟨d,hd,rd⟩:=h b hb;rcases kT.mp hd with rfl|hd
    ·exact absurd ⟨b,hb,rd⟩ k
    ·exact⟨d,hd,rd⟩) u
   rw[ku];lia
theorem sI{n:Nat}{a b c d p:Q3}(hp:PQ n p)(hq:PQ n q)(w:bB a b c d≠0)(p1:dt a b p=0)(p2:dt c d p=0)(q1:dt a b q=0)(q2:dt c d q=0):p=q:=by
 obtain⟨x1,y1⟩:=Xm p1 p2;obtain⟨x2,y2⟩:=Xm q1 q2;have k:∀{u v X:Int},u*bB a b c d=X*p.w->v*bB a b c d=X*q.w->v*p.w-u*q.w=0:=λ{u v X} h1 h2=>by
  have:(v*p.w-u*q.w)*bB a b c d=0:=by
   rw[Int.sub_mul,CP,h2,CP u,h1,CP];lia
  exact(kX.mp this).resolve_right w
 have dx:dX p q=0:=k x1 x2;have dy:dY p q=0:=k y1 y2;refine xh hp hq ?_ ?_
 ·rw[yY dx,dy];rfl
 ·have ex:dX q p=0:=by rw[zS,dx];rfl
  rw[yY ex,xK,dy];rfl
section
variable{r r':List Q3}{ss:List (Q3×Q3)}{n:Nat}
def Mi(ss:List (Q3×Q3))(r r':List Q3):Prop:=∀s,s∈ss↔∃a,(a∈aI r\/a∈aI r')/\zd a=s
def Mi.sw(h:Mi ss r r'):Mi ss r' r:=λs=>(h s).trans ⟨λ⟨a,z,e⟩=>⟨a,z.symm,e⟩,λ⟨a,z,e⟩=>⟨a,z.symm,e⟩⟩
def Yf:(q=(zd a).1\/q=(zd a).2)↔(q=a.1\/q=a.2):=by
 rcases wt a.1 a.2 with⟨e,_⟩|⟨e,_⟩
 ·rw[show zd a=(a.1,a.2) from e]
 ·rw[show zd a=(a.2,a.1) from e];exact or_comm
theorem WO(cv:bX r)(ha:a∈aI r)(pq:∀p∈r,PQ n p){q:Q3}(hq:PQ n q)(o:aY (zd a).1 (zd a).2 q=true)(ne:¬(q=a.1\/q=a.2)){t:Q3×Q3}(ht:t∈aI r)(z:dt t.1 t.2 q=0):t=a:=by
 obtain⟨o0,o1,o2⟩:=zj o;obtain⟨m1,m2,m3⟩:=vj cv ha;have ne:=λz=>ne (Yf.mp z);have pa:PQ n (zd a).1/\PQ n (zd a).2:=by
  rcases wt a.1 a.2 with⟨e,_⟩|⟨e,_⟩
  ·rw[show zd a=(a.1,a.2) from e];exact⟨pq _ m1,pq _ m2⟩
  ·rw[show zd a=(a.2,a.1) from e];exact⟨pq _ m2,pq _ m1⟩
 have u:=(xr pa.1 hq λe=>ne (.inl e.symm)).resolve_right (by rw[o1];exact pb)
 have v:=(xr hq pa.2 λe=>ne (.inr e)).resolve_right (by rw[o2];exact pb)
 refine uB λy=>?_;have:=(X9 cv hq.pos ha ((xN _ _).mp o0) u v).2 t ht y;lia
variable(c1:bX r)(c2:bX r')(q1:∀p∈r,PQ n p)(q2:∀p∈r',PQ n p)(T:Mi ss r r')
include c1 c2 q1 q2 T
theorem Wd(ha:a∈aI r)(hq:PQ n q)(st:ql ss q)(o:aY (zd a).1 (zd a).2 q=true)(ne:¬(q=a.1\/q=a.2)):q∈r'\/∃t∈aI r',aY (zd t).1 (zd t).2 q=true/\bB (zd a).1 (zd a).2 (zd t).1 (zd t).2≠0:=by
 have own:∀{t},t∈aI r->aY (zd t).1 (zd t).2 q=true->t=a:=λht z=>WO c1 ha q1 hq o ne ht ((xN _ _).mp (zj z).1);rcases st with⟨s,hs,z⟩|⟨s,hs,t,ht,o1,o2,w⟩
 ·obtain⟨b,hb,rfl⟩:=(T s).mp hs;have z:=Yf.mp z;rcases hb with hb|hb
  ·have e:=WO c1 ha q1 hq o ne hb (by rcases z with z|z<;>rw[z];exact yI _ _;exact yo _ _)
   exact absurd (e▸z) ne
  ·obtain⟨m1,m2,_⟩:=vj c2 hb;rcases z with z|z<;>rw[z]
   ·exact .inl m1
   ·exact .inl m2
 ·obtain⟨b,hb,rfl⟩:=(T s).mp hs;obtain⟨c,hc,rfl⟩:=(T t).mp ht;rcases hb with hb|hb
  ·rw[own hb o1] at w;rcases hc with hc|hc
   ·rw[own hc o2,XW] at w;exact absurd rfl w
   ·exact .inr ⟨c,hc,o2,w⟩
  ·rcases hc with hc|hc
   ·rw[own hc o2] at w;exact .inr ⟨b,hb,o1,by rw[(Yd _ _ _ _).2.2];lia⟩
   ·by_cases e:q=b.1\/q=b.2
    ·obtain⟨m1,m2,_⟩:=vj c2 hb;rcases e with z|z<;>rw[z]
     ·exact .inl m1
     ·exact .inl m2
    ·have:=WO c2 hb q2 hq o1 e hc ((xN _ _).mp (zj o2).1);rw[this,XW] at w;exact absurd rfl w
def RK(n:Nat)(s:Q3×Q3)(q:Q3):Q3 ⊕ (Q3×Q3)->Prop
 |.inl c=>q=c
 |.inr t=>PQ n q/\dt s.1 s.2 q=0/\dt t.1 t.2 q=0/\bB s.1 s.2 t.1 t.2≠0
omit c1 c2 q1 q2 T in
theorem RK.uniq{s:Q3×Q3}{p q:Q3}:∀{k},RK n s p k->RK n s q k->p=q
 |.inl _,h1,h2=>h1.trans h2.symm
 |.inr _,⟨p0,p1,p2,w⟩,⟨q0,q1,q2,_⟩=>sI p0 q0 w p1 p2 q1 q2
theorem KW:∀l:List Q3,l.Nodup->(∀q∈l,PQ n q/\ql ss q)->l.length<=24:=λl nd h=>by
 have l1:=xL c1;have l2:=xL c2;have:l.length<=((r++r').map (λc=>(zQ,Gp c))++(aI r).flatMap λa=>(aI r').map λb=>(zd a,HO (zd b))).length:=by
  refine Rb (R:=λq(x:(Q3×Q3)×(Q3 ⊕ (Q3×Q3)))=>RK n x.1 q x.2) nd (λq hq=>?_) λa _ b _ c=>RK.uniq;obtain⟨pq,st⟩:=h q hq
  by_cases k:q∈r++r'
  ·exact⟨_,uP _ (ki.mpr ⟨q,k,rfl⟩),rfl⟩
  ·have nk:∀{a},a∈aI r\/a∈aI r'->¬(q=a.1\/q=a.2):=λ{a} ha z=>k (by
    rcases ha with ha|ha
    ·obtain⟨m1,m2,_⟩:=vj c1 ha;rcases z with z|z<;>rw[z]<;>simp[m1,m2]
    ·obtain⟨m1,m2,_⟩:=vj c2 ha;rcases z with z|z<;>rw[z]<;>simp[m1,m2])
   have go:∃a∈aI r,aY (zd a).1 (zd a).2 q=true:=by
    rcases id st with⟨s,hs,z⟩|⟨s,hs,t,ht,o1,o2,w⟩
    ·obtain⟨b,hb,rfl⟩:=(T s).mp hs;exact absurd (Yf.mp z) (nk hb)
    ·obtain⟨b,hb,rfl⟩:=(T s).mp hs;obtain⟨c,hc,rfl⟩:=(T t).mp ht;rcases hb with hb|hb
     ·exact⟨b,hb,o1⟩
     ·rcases Wd c2 c1 q2 q1 T.sw hb pq st o1 (nk (.inr hb)) with z|⟨t,ht,o,_⟩
      ·exact absurd (uP _ z) k
      ·exact⟨t,ht,o⟩
   obtain⟨a,ha,o⟩:=go;rcases Wd c1 c2 q1 q2 T ha pq st o (nk (.inl ha)) with z|⟨t,ht,o',w⟩
   ·exact absurd (uG _ z) k
   ·exact⟨_,uG _ (QC.mpr ⟨a,ha,ki.mpr ⟨t,ht,rfl⟩⟩),pq,(zj o).1,(zj o').1,w⟩
 rw[kb,kJ,kb] at this;have e:=Xk (f:=λa=>(aI r').map λb=>(zd a,HO (α:=Q3) (zd b))) (m:=4) (aI r) λa _=>by rw[kJ];lia
 have:4*(aI r).length<=16:=by lia
 lia
omit c1 c2 q1 q2 T in
theorem KY(c2:bX r'){s:Q3×Q3}(b:bq s.1 s.2=true):(r'.filter λp=>decide (dt s.1 s.2 p=0)).length<=2:=by
 have k:∀{x y z:Q3},0<dt x y z->decide (dt s.1 s.2 x=0)=true->decide (dt s.1 s.2 y=0)=true->decide (dt s.1 s.2 z=0)=true->False:=λh x y z=>by
  have:=dQ b (ξ x) (ξ y) (ξ z);lia
 rcases c2 with⟨x,y,z,rfl,_,_,_,hD⟩|⟨x,y,z,w,rfl,h⟩
 ·have:=k hD;simp only[UE,Dg]
  cases h1:decide (dt s.1 s.2 x=0)<;>cases h2:decide (dt s.1 s.2 y=0)<;>cases h3:decide (dt s.1 s.2 z=0)<;>first|exact(this h1 h2 h3).elim|exact Dp rfl
 ·simp only[UE,Dg]
  cases h1:decide (dt s.1 s.2 x=0)<;>cases h2:decide (dt s.1 s.2 y=0)<;>cases h3:decide (dt s.1 s.2 z=0)<;>cases h4:decide (dt s.1 s.2 w=0)<;>first|exact(k h.h1 h1 h2 h3).elim|exact(k h.h2 h2 h3 h4).elim|exact(k h.h3 h3 h4 h1).elim|exact(k h.h4 h4 h1 h2).elim|exact Dp rfl
def Mj(r':List Q3)(s:Q3×Q3):List ((Q3×Q3)×(Q3 ⊕ (Q3×Q3))):=((s.1::r'.filter λp=>decide (dt s.1 s.2 p=0)).map λc=>(s,.inl c))++(aI r').map λt=>(s,.inr (zd t))
end
section
variable{r r':List Q3}{ss:List (Q3×Q3)}{n m:Nat}{ps:List (Nat×Nat)}{g:Int}(Td:zr n ss ps g)(c1:bX r)(c2:bX r')(q1:∀p∈r,PQ n p)(q2:∀p∈r',PQ n p)(T:Mi ss r r')
include Td c1 c2 q1 q2 T
omit Td in
theorem Zu{f:Q3×Q3}(b:bq f.1 f.2=true)(ha:a∈aI r)(l1:cA (4*n+3) ss f.1 (zd a))(l2:cA (4*n+3) ss f.2 (zd a)):∃k∈Mj r' (zd a),k.1=zd a/\RK (4*n+3) (zd a) f.1 k.2:=by
 have up:∀{p},PQ n p->PQ (4*n+3) p:=λh=>Pt.mono h (by lia)
 by_cases e:f.1=(zd a).1
 ·exact⟨(zd a,.inl (zd a).1),uP _ (ki.mpr ⟨_,uN ..,rfl⟩),rfl,e⟩
 ·have ne2:f.1≠(zd a).2:=λz=>by
   have:=(zj l2.on).2.2;rw[<-z,b] at this;cases this
  rcases Wd c1 c2 (λp hp=>up (q1 p hp)) (λp hp=>up (q2 p hp)) T ha l1.pq l1.st l1.on (λz=>(Yf.mpr z).elim e ne2) with z|⟨t,ht,o,w⟩
  ·exact⟨(zd a,.inl f.1),uP _ (ki.mpr ⟨f.1,uM _ (pG.mpr ⟨z,ζ (zj l1.on).1⟩),rfl⟩),rfl,rfl⟩
  ·exact⟨(zd a,.inr (zd t)),uG _ (ki.mpr ⟨t,ht,rfl⟩),rfl,l1.pq,(zj l1.on).1,(zj o).1,w⟩
theorem KZ:∀l:List (Q3×Q3),l.Nodup->(∀f∈l,wD (4*n+3) ss f)->l.length<=56:=λl nd h=>by
 have n1:=xL c1;have n2:=xL c2;have:l.length<=(((aI r).flatMap λa=>Mj r' (zd a))++(aI r').flatMap λa=>Mj r (zd a)).length:=by
  refine Rb (R:=λf(x:(Q3×Q3)×(Q3 ⊕ (Q3×Q3)))=>cA (4*n+3) ss f.1 x.1/\cA (4*n+3) ss f.2 x.1/\RK (4*n+3) x.1 f.1 x.2) nd (λf hf=>?_) λf hf k hk c⟨a1,a2,a3⟩⟨b1,b2,b3⟩=>?_
  ·obtain⟨s,l1,l2,b,_⟩:=h f hf;obtain⟨a,ha,e⟩:=(T s).mp l1.mem;subst e;rcases ha with ha|ha
   ·obtain⟨k,hk,e,z⟩:=Zu c1 c2 q1 q2 T b ha l1 l2;exact⟨k,uP _ (QC.mpr ⟨a,ha,hk⟩),by rw[e];exact⟨l1,l2,z⟩⟩
   ·obtain⟨k,hk,e,z⟩:=Zu c2 c1 q2 q1 T.sw b ha l1 l2;exact⟨k,uG _ (QC.mpr ⟨a,ha,hk⟩),by rw[e];exact⟨l1,l2,z⟩⟩
  ·have e:=RK.uniq a3 b3;obtain⟨_,_,nf⟩:=j7 Td (h f hf) a1.mem a1.on a2.on;obtain⟨_,_,nk⟩:=j7 Td (h k hk) b1.mem b1.on b2.on;have bf:bq f.1 f.2=true:=by obtain⟨_,_,_,z,_⟩:=h f hf;exact z
   have bk:bq k.1 k.2=true:=by obtain⟨_,_,_,z,_⟩:=h k hk;exact z
   refine Uy e (uB λne=>?_);rcases xr a2.pq b2.pq ne with z|z
   ·exact nk f.2 a2 (by rw[<-e];exact bf) z
   ·exact nf k.2 b2 (by rw[e];exact bk) z
 have ln:∀{r r':List Q3},bX r->bX r'->(∀p∈r,PQ n p)->((aI r).flatMap λa=>Mj r' (zd a)).length<=28:=λ{r r'} c1 c2 q1=>by
  have n1:=xL c1;have n2:=xL c2;have:=Xk (f:=λa=>Mj r' (zd a)) (m:=7) (aI r) λa ha=>by
   obtain⟨m1,m2,ne⟩:=vj c1 ha;have b:bq (zd a).1 (zd a).2=true:=by
    rcases wt a.1 a.2 with⟨e,z⟩|⟨e,z⟩
    ·rw[show zd a=(a.1,a.2) from e];exact z
    ·rw[show zd a=(a.2,a.1) from e];exact(xr (q1 _ m1) (q1 _ m2) ne).resolve_left (by rw[z];exact pb)
   have:=KY c2 b;unfold Mj;rw[kb,kJ,kJ,ku];lia
  lia
 have:=ln c1 c2 q1;have:=ln c2 c1 q2;rw[kb] at*;lia
omit Td in
theorem zct(h:Ss n ss):∃ps g,zr n ss ps g:=by
 refine⟨(kN ss.length).flatMap λi=>(kN ss.length).map λj=>(i,j),((2^n:Nat):Int),h,λs hs=>?_,λe he=>?_,λa b ha hb _ _=>.inl (QC.mpr ⟨a,kn.mpr ha,ki.mpr ⟨b,kn.mpr hb,rfl⟩⟩)⟩
 ·obtain⟨a,b,_⟩:=h s hs;have:=a.lw;have:=b.lw;lia
 ·obtain⟨a,ha,z⟩:=QC.mp he;obtain⟨b,hb,rfl⟩:=ki.mp z;exact⟨kn.mp ha,kn.mp hb⟩
omit Td in
theorem sJ(h:Ss n ss):OD (4*n+3) ss:=by
 obtain⟨ps,g,Td⟩:=zct c1 c2 q1 q2 T h;exact⟨λl nd h=>um (KW c1 c2 (λp hp=>Pt.mono (q1 p hp) (by lia)) (λp hp=>Pt.mono (q2 p hp) (by lia)) T l nd h) (by decide),λl nd h=>um (KZ Td c1 c2 q1 q2 T l nd h) (by decide)⟩
end
end Nu
end
section
namespace Nu
def qV{p q:Q3}(hp:SQ p)(hq:SQ q):(dX p q).natAbs<2^200001/\(dY p q).natAbs<2^200001:=
 ⟨zA (yT (zF hq.1 hp.2.2) (zF hp.1 hq.2.2)) (by decide),zA (yT (zF hq.2.1 hp.2.2) (zF hp.2.1 hq.2.2)) (by decide)⟩
def sK{x y:Int}(hy:0<y):aw (x*y)=aw x:=by
 obtain⟨h1,h2⟩:=yB (x:=x) hy;unfold aw
 by_cases c:0<x
 ·rw[θ c,θ (h1.mpr c)]
 ·rw[η c,η λz=>c (h1.mp z)]
  by_cases d:x<0
  ·rw[θ d,θ (h2.mpr d)]
  ·rw[η d,η λz=>d (h2.mp z)]
def B3(b:Bool):xM [.bool b]=some (.int (if b=true then 1 else 0)):=rfl
theorem Jq(u v:Int):(if decide (v<u)=true then(1:Int) else 0)-(if decide (u<v)=true then 1 else 0)=aw (u-v):=by
 unfold aw;simp only[decide_eq_true_eq]
 repeat' split
 all_goals lia
def jZ(c d:En->Option Bool)(Z:En):bM c d Z=(c Z).bind λb=>if b=true then d Z else some false:=rfl
def jh{a b c:Q3}(ha:SQ a)(hb:SQ b)(hc:SQ c)(wa:0<a.w):yL [eQ a,eQ b,eQ c]=some (.int (aw (dt a b c))):=by
 obtain⟨b1,b2,_⟩:=fG hb ha;obtain⟨a1,a2,_⟩:=fG ha hb;obtain⟨c1,c2,_⟩:=fG hc ha;obtain⟨OY,mW,_⟩:=fG ha hc;obtain⟨x1,x2⟩:=qV ha hb;obtain⟨y1,y2⟩:=qV ha hc;have m1:zf (.int (b.x*a.w-a.x*b.w)) (.int (c.y*a.w-a.y*c.w))=some (.int (dX a b*dY a c)):=zC x1 y2;have m2:zf (.int (b.y*a.w-a.y*b.w)) (.int (c.x*a.w-a.x*c.w))=some (.int (dY a b*dX a c)):=zC x2 y1;unfold yL
 dsimp! [xm,xy,xa,b1,b2,a1,a2,c1,c2,OY,mW,xb,m1,m2,jO,yP,B3]
 rw[Jq,<-qH,sK wa]
def jk{p q:Q3}(hp:SQ p)(hq:SQ q):xo [eQ p,eQ q]=some (.bool (bq p q)):=by
 obtain⟨a1,a2,a3,a4,a5,a6⟩:=fG hp hq;obtain⟨b1,b2,b3,b4,b5,b6⟩:=fG hq hp;unfold xo
 by_cases c:p.x*q.w=q.x*p.w
 ·dsimp! [xm,xy,xa,a1,a2,b1,b2,yG,yP,ζ c,bq,dm,θ c]
 ·dsimp! [xm,xy,xa,a1,a2,b1,b2,yG,yP,ι c,bq,dm,η c]
def mX(f g:Q3×Q3):Bool:=if f.1=g.1 then bq f.2 g.2 else bq f.1 g.1
def OZ(f:Q3×Q3):Prop:=SQ f.1/\SQ f.2
def Za{f g:Q3×Q3}(hf:OZ f)(hg:OZ g):wQ [eS f,eS g]=some (.bool (mX f g)):=by
 have e1:=jk hf.1 hg.1;have e2:=jk hf.2 hg.2;unfold wQ mX
 by_cases c:f.1=g.1
 ·dsimp! [zJ,zU,X8,ζ c,e2,θ c]
 ·dsimp! [zJ,zU,X8,ι c,e1,η c]
def B4:En->Option Bool:=bM (dB (d2 cz (dV 3) (aj zu (aa (aA 1) ae)))) (dB (aj wQ (aa (d2 af (aA 1) (dV 3)) (aa (dV 2) ae))))
def O0:En->Option Ou:=ak 3 (d2 zN (dV 3) (dC (.int 1)))
abbrev mF(x:Dt)(s:List (Q3×Q3))(f:Q3×Q3)(k:Nat):En:=[.fz x,.ow false 1 (.list (s.map eS)),.fz (eS f),.fz (eN k)]
theorem O1{x:Dt}{s:List (Q3×Q3)}{f:Q3×Q3}(hs:∀g∈s,OZ g)(hf:OZ f):∀(n k:Nat),k<=s.length->s.length-k<n->∃j,j<=s.length/\cJ [] B4 O0 n (mF x s f k)=some (.nx (mF x s f j)):=λn=>by
 induction n with
 |zero=>intro k _ h;lia
 |succ n ih=>
  intro k hk h;have l1:dB (d2 cz (dV 3) (aj zu (aa (aA 1) ae))) (mF x s f k)=some (decide (k<s.length)):=by
   dsimp! [xZ,qE]
  by_cases c:k<s.length
  ·have ix:=Op (f:=eS) (kC c);have ix:af (.list (s.map eS)) (eN k)=some (eS s[k]):=ix;have ah:=Za (hs _ (pi c)) hf;have l2:dB (aj wQ (aa (d2 af (aA 1) (dV 3)) (aa (dV 2) ae))) (mF x s f k)=some (mX s[k] f):=by
    dsimp! [ix,ah]
   have e:B4 (mF x s f k)=some (mX s[k] f):=by
    unfold B4;rw[jZ,l1,kG,ζ c,θ rfl,l2]
   rw[cJ,e,kG]
   cases z:mX s[k] f with
   |false=>exact⟨k,hk,η pb⟩
   |true=>
    obtain⟨j,hj,e⟩:=ih (k+1) c (by lia)
    refine⟨j,hj,?_⟩;rw[θ rfl,show O0 (mF x s f k)=some (.nx (mF x s f (k+1))) from rfl,kG];exact e
  ·have e:B4 (mF x s f k)=some false:=by
    unfold B4;rw[jZ,l1,kG,ι c,η pb]
   rw[cJ,e,kG];exact⟨k,hk,η pb⟩
theorem za8{fs:List (Q3×Q3)}(h:∀f∈fs,OZ f)(hl:fs.length<60):∃l:List (Q3×Q3),l.Perm fs/\qh [.list (fs.map eS)]=some (.list (l.map eS)):=by
 suffices Gv (qh [.list (fs.map eS)]) λd=>∃l:List (Q3×Q3),l.Perm fs/\d=.list (l.map eS) by obtain⟨d,e,l,p,rfl⟩:=this;exact⟨l,p,e⟩
 unfold qh;simp only[bg,ag,aU,aK,ae,aB,iL,dV,sF,fJ,ku,UQ,kZ,UW,Bg,Qk,gO,kG,UM,Uf,UF,Bc,EY,g6,if_true,cC];rw[uL];refine xz (σ:=List (Q3×Q3)) (λs=>[.fz (.list (fs.map eS)),.ow false 1 (.list (s.map eS)),.un,.un]) (λi s=>s.Perm (fs.take i)) [] rfl (by rw[Uc]) (λi a s hi hs=>?_) λs hs=>?_
 ·have ha:a∈fs:=kg hi;have li:=(kH.mp hi).1;have ln:s.length=i:=by rw[hs.length_eq,uC];lia
  obtain⟨j,hj,e⟩:=O1 (x:=.list (fs.map eS)) (s:=s) (λg hg=>h g (UK (hs.mem_iff.mp hg))) (h a ha) 64 0 (by lia) (by lia)
  refine⟨s.take j++a::s.drop j,?_,?_⟩
  ·show((wm 64 [] B4 O0 (mF (.list (fs.map eS)) s a 0)).bind (cC (jQ 1 (dV 3) (dV 2)))).bind (ic [2,3])=_
   rw[show wm 64 [] B4 O0=cJ [] B4 O0 64 from rfl,e,kG,VM];have c:0<=(some ((j:Nat):Int)).getD (-1)/\(some ((j:Nat):Int)).getD (-1)<=((s.map eS).length:Int)/\(s.map eS).length<ψ:=⟨by show(0:Int)<=j;lia,by rw[kJ];show(j:Int)<=_;lia,by rw[kJ];exact xd (by lia)⟩
   have ei:jQ 1 (dV 3) (dV 2) (mF (.list (fs.map eS)) s a j)=some (.nx ((mF (.list (fs.map eS)) s a j).set 1 (.ow false 1 (.list (jV j (eS a) (s.map eS)))))):=θ c;rw[ei,kG,show jV j (eS a) (s.map eS)=(s.take j++a::s.drop j).map eS from by unfold jV;rw[pD,kZ,Gh,Gi];rfl]
   rfl
  ·rw[pP,hi];refine Ff.trans ?_;rw[Qz];exact(hs.cons a).trans (List.perm_append_singleton a _).symm
 ·rw[uc] at hs;exact⟨_,rfl,s,hs,rfl⟩
theorem Zx{a b:List Bool}(h:a.Perm b):ar a=ar b:=by
 induction h with
 |nil=>rfl
 |cons x _ ih=>rw[yj,yj,ih]
 |swap x y l=>
  rw[yj,yj,yj,yj];generalize ar l=z
  cases x<;>cases y<;>cases z<;>rfl
 |trans _ _ h1 h2=>exact h1.trans h2
section
variable(φ:Q3->Q3->Bool)
variable(sy:∀a b,φ a b=φ b a)
include sy
end
theorem O4{n:Nat}{a b:Q3}(ha:PQ n a)(hb:PQ n b):(zx (a,b)).x.natAbs<2^(2*n+1)/\(zx (a,b)).y.natAbs<2^(2*n+1)/\(zx (a,b)).w.natAbs<2^(2*n+1)/\0<(zx (a,b)).w:=by
 have k:∀{x y z w:Int},x.natAbs<2^n->y.natAbs<2^n->z.natAbs<2^n->w.natAbs<2^n->(x*y+z*w).natAbs<2^(2*n+1):=λ{x y z w} h1 h2 h3 h4=>by
  have e:(2:Nat)^(2*n+1)=2^n*2^n+2^n*2^n:=by rw[DY,Nat.two_mul n,HL];lia
  have m1:(x*y).natAbs<2^n*2^n:=by rw[Qb];exact DG h1 h2
  have m2:(z*w).natAbs<2^n*2^n:=by rw[Qb];exact DG h3 h4
  have:=Int.natAbs_add_le (x*y) (z*w);rw[e];lia
 refine⟨k ha.lx hb.lw hb.lx ha.lw,k ha.ly hb.lw hb.ly ha.lw,?_,?_⟩
 ·have:=k ha.lw hb.lw ha.lw hb.lw;have e:(zx (a,b)).w=a.w*b.w+a.w*b.w:=by show 2*a.w*b.w=_;grind
  rw[e];exact this
 ·exact kf (kf (by decide) ha.pos) hb.pos
theorem K1{n:Nat}{w:Int}(h:w.natAbs<2^n):(2*w).natAbs<2^(n+1):=by
 rw[Qb,DY];show 2*w.natAbs<_;lia
noncomputable def cel(ns:List Int)(k:Nat):Int:=ns.getD k 0
theorem YI(ns:List Int)(k:Nat):yK [.scr ns,.int (k:Int)]=some (.int (cel ns k)):=by
 unfold yK cel
 by_cases c:k<ns.length
 ·have a:=Op (f:=Dt.int) (kC c);have l:decide ((k:Int)<(ns.length:Int))=true:=ζ (by lia)
  dsimp! [zu,kJ,cz,kP,l,a]
  rw[kE,kC c];rfl
 ·have l:decide ((k:Int)<(ns.length:Int))=false:=ι (by lia)
  dsimp! [zu,kJ,cz,kP,l]
  rw[kE,pR (by lia)];rfl
def xD{i j:Int}(h0:j≠0)(h:j.natAbs<2^60):zE (.int i) (.int j)=some (.int (i.fdiv j)):=by
 simp only[zE,kI,θ (N9 (i:=i) h0 h (by decide))]
def yw{i j:Int}(h0:j≠0):zG (.int i) (.int j)=some (.int (i.fmod j)):=by
 simp only[zG,kI,θ h0]
structure Lay where
 p:Int
 q:Int
 r:Int
 s:Int
 t:Int
 u:Int
 v:Int
structure Lay.Ok(m:Lay):Prop where
 det:0<m.p*m.s-m.q*m.r
 bd:m.p.natAbs<=5/\m.q.natAbs<=5/\m.r.natAbs<=5/\m.s.natAbs<=5
 ft:m.t.natAbs<2^70/\m.u.natAbs<2^70
 sh:m.v=1\/m.v=2\/m.v=3\/m.v=6
def cT(m:Lay):Dt:=.tuple [.int m.p,.int m.q,.int m.r,.int m.s,.int m.t,.int m.u,.int m.v]
def xe{c n:Int}(h:0<n):0<=c.fmod n/\c.fmod n<n:=⟨BK _ h,CN _ h⟩
def B5(xs ys:List Dt)(h:xs.length+ys.length<=ψ):zR (.list xs) (.list ys)=some (.list (xs++ys)):=by unfold zR;exact θ h
def K2(x:Dt)(xs ys:List Dt)(h:(x::xs).length+ys.length<=ψ):yV (.tuple (x::xs)) (.tuple ys)=some (.tuple (x::xs++ys)):=by unfold yV;exact θ h
theorem K3(c:Int):∃m:Lay,m.Ok/\v7 [.int c]=some (cT m):=by
 have OY:=yw (i:=c) (j:=8) (by decide)
 have mW:=xD (i:=c) (j:=8) (by decide) (by decide)
 have d3':=yw (i:=c.fdiv 8) (j:=5) (by decide)
 have d4':=xD (i:=c) (j:=40) (by decide) (by decide)
 have d5':=yw (i:=c.fdiv 40) (j:=13) (by decide)
 have d6':=xD (i:=c) (j:=520) (by decide) (by decide)
 have d7':=yw (i:=c.fdiv 520) (j:=13) (by decide)
 have d8':=yw (i:=c.fdiv 40) (j:=5) (by decide)
 have pw:qU (.int 10) (.int 18)=some (.int 1000000000000000000):=by
  have:C7 10 18:=⟨by decide,by decide,by decide⟩
  simp only[qU,kI,θ this];rfl
 have ap:zN (.int 1000000000000000000) (.int 9)=some (.int 1000000000000000009):=rfl;have b1:=xe (c:=c) (n:=8) (by decide)
 have b2:=xe (c:=c.fdiv 8) (n:=5) (by decide)
 have b3:=xe (c:=c.fdiv 40) (n:=13) (by decide)
 have b4:=xe (c:=c.fdiv 520) (n:=13) (by decide)
 have b5:=xe (c:=c.fdiv 40) (n:=5) (by decide)
 generalize c.fmod 8=i1 at*;generalize (c.fdiv 8).fmod 5=i2 at*;generalize (c.fdiv 40).fmod 13=i3 at*;generalize (c.fdiv 520).fmod 13=i4 at*;generalize (c.fdiv 40).fmod 5=i5 at*;have t1:∃p q r s:Int,0<p*s-q*r/\(p.natAbs<=5/\q.natAbs<=5/\r.natAbs<=5/\s.natAbs<=5)/\af (.list [.tuple [.int 1,.int 0,.int 0,.int 1],.tuple [.int 2,.int 1,.int 0,.int 1],.tuple [.int 1,.int 1,.int (-1),.int 1],.tuple [.int 3,.int (-1),.int 1,.int 2],.tuple [.int 1,.int 2,.int 0,.int 1],.tuple [.int 0,.int (-1),.int 1,.int 0],.tuple [.int 5,.int 3,.int 3,.int 2],.tuple [.int (-1),.int 0,.int 2,.int (-3)]]) (.int i1)=some (.tuple [.int p,.int q,.int r,.int s]):=by
  rcases(by lia:i1=0\/i1=1\/i1=2\/i1=3\/i1=4\/i1=5\/i1=6\/i1=7) with rfl|rfl|rfl|rfl|rfl|rfl|rfl|rfl
  ·exact⟨1,0,0,1,by decide,by decide,rfl⟩
  ·exact⟨2,1,0,1,by decide,by decide,rfl⟩
  ·exact⟨1,1,-1,1,by decide,by decide,rfl⟩
  ·exact⟨3,-1,1,2,by decide,by decide,rfl⟩
  ·exact⟨1,2,0,1,by decide,by decide,rfl⟩
  ·exact⟨0,-1,1,0,by decide,by decide,rfl⟩
  ·exact⟨5,3,3,2,by decide,by decide,rfl⟩
  ·exact⟨-1,0,2,-3,by decide,by decide,rfl⟩
 have t2:∃w:Int,w.natAbs<2^60/\af (.list [.int 1,.int 1,.int 1,.int 1000003,.int 1000000000000000009]) (.int i2)=some (.int w):=by
  rcases(by lia:i2=0\/i2=1\/i2=2\/i2=3\/i2=4) with rfl|rfl|rfl|rfl|rfl<;>exact⟨_,by decide,rfl⟩
 have t3:∃v:Int,(v=1\/v=2\/v=3\/v=6)/\af (.list [.int 1,.int 1,.int 2,.int 3,.int 6]) (.int i5)=some (.int v):=by
  rcases(by lia:i5=0\/i5=1\/i5=2\/i5=3\/i5=4) with rfl|rfl|rfl|rfl|rfl<;>exact⟨_,by decide,rfl⟩
 obtain⟨p,q,r,s,hd,hb,x1⟩:=t1;obtain⟨w,hw,x2⟩:=t2;obtain⟨v,hv,x3⟩:=t3;have f1:(i3-6).natAbs<2^4:=by lia
 have f2:(i4-6).natAbs<2^4:=by lia
 have m1:=zC f1 hw;have m2:=zC f2 hw;have g1:=zF f1 hw;have g2:=zF f2 hw;refine⟨⟨p,q,r,s,(i3-6)*w,(i4-6)*w,v⟩,⟨hd,hb,⟨zA g1 (by decide),zA g2 (by decide)⟩,hv⟩,?_⟩
 have kc:zR (.list [.tuple [.int 1,.int 0,.int 0,.int 1],.tuple [.int 2,.int 1,.int 0,.int 1],.tuple [.int 1,.int 1,.int (-1),.int 1],.tuple [.int 3,.int (-1),.int 1,.int 2]]) (.list [.tuple [.int 1,.int 2,.int 0,.int 1],.tuple [.int 0,.int (-1),.int 1,.int 0],.tuple [.int 5,.int 3,.int 3,.int 2],.tuple [.int (-1),.int 0,.int 2,.int (-3)]])=some (.list [.tuple [.int 1,.int 0,.int 0,.int 1],.tuple [.int 2,.int 1,.int 0,.int 1],.tuple [.int 1,.int 1,.int (-1),.int 1],.tuple [.int 3,.int (-1),.int 1,.int 2],.tuple [.int 1,.int 2,.int 0,.int 1],.tuple [.int 0,.int (-1),.int 1,.int 0],.tuple [.int 5,.int 3,.int 3,.int 2],.tuple [.int (-1),.int 0,.int 2,.int (-3)]]):=B5 _ _ (by decide)
 have kt:yV (.tuple [.int p,.int q,.int r,.int s]) (.tuple [.int ((i3-6)*w),.int ((i4-6)*w),.int v])=some (cT ⟨p,q,r,s,(i3-6)*w,(i4-6)*w,v⟩):=K2 _ _ _ (by show 7<=ψ;decide)
 unfold v7
 dsimp! [Zq,wV,kc,OY,mW,d3',d4',d5',d6',d7',d8',pw,ap,x2,xb,m1,m2,x1,x3,kt]
def ay(d:Int)(x:Int×Int×Int):Int×Int×Int:=if x.1.fmod d=0/\x.2.1.fmod d=0/\x.2.2.fmod d=0 then(x.1.fdiv d,x.2.1.fdiv d,x.2.2.fdiv d) else x
def xt(m:Lay)(a:Q3):Int×Int×Int:=(m.p*a.x+m.q*a.y+m.t*a.w,m.r*a.x+m.s*a.y+m.u*a.w,m.v*a.w)
def bv(m:Lay)(a:Q3):Q3:=let x:=ay 3 (ay 3 (ay 2 (ay 2 (xt m a))));⟨x.1,x.2.1,x.2.2⟩
def ixY(m:Lay):af (cT m) (.int 0)=some (.int m.p)/\af (cT m) (.int 1)=some (.int m.q)/\af (cT m) (.int 2)=some (.int m.r)/\af (cT m) (.int 3)=some (.int m.s)/\af (cT m) (.int 4)=some (.int m.t)/\af (cT m) (.int 5)=some (.int m.u)/\af (cT m) (.int 6)=some (.int m.v):=⟨rfl,rfl,rfl,rfl,rfl,rfl,rfl⟩
def B6:En->Option Ou:=au (bM (dB (d2 zB (d2 zG (dV 2) (dV 5)) (dC (.int 0)))) (bM (dB (d2 zB (d2 zG (dV 3) (dV 5)) (dC (.int 0)))) (dB (d2 zB (d2 zG (dV 4) (dV 5)) (dC (.int 0)))))) (ag (ak 2 (d2 zE (dV 2) (dV 5)))
  (ag (ak 3 (d2 zE (dV 3) (dV 5)))
  (ak 4 (d2 zE (dV 4) (dV 5))))) aO
abbrev lu(m p:Dt)(x:Int×Int×Int)(z:Sl):En:=[.fz m,.fz p,.fz (.int x.1),.fz (.int x.2.1),.fz (.int x.2.2),z]
def sL{m p:Dt}{x:Int×Int×Int}{d:Int}(h0:d≠0)(hd:d.natAbs<2^60):B6 (lu m p x (.fz (.int d)))=some (.nx (lu m p (ay d x) (.fz (.int d)))):=by
 have a1:=yw (i:=x.1) h0;have a2:=yw (i:=x.2.1) h0;have a3:=yw (i:=x.2.2) h0;have b1:=xD (i:=x.1) h0 hd;have b2:=xD (i:=x.2.1) h0 hd;have b3:=xD (i:=x.2.2) h0 hd;unfold B6 ay
 by_cases c1:x.1.fmod d=0
 ·by_cases c2:x.2.1.fmod d=0
  ·by_cases c3:x.2.2.fmod d=0
   ·rw[θ ⟨c1,c2,c3⟩]
    dsimp! [a1,a2,a3,b1,b2,b3,yh,ζ c1,ζ c2,ζ c3]
   ·rw[η λz=>c3 z.2.2]
    dsimp! [a1,a2,a3,yh,ζ c1,ζ c2,ι c3]
  ·rw[η λz=>c2 z.2.1]
   dsimp! [a1,a2,yh,ζ c1,ι c2]
 ·rw[η λz=>c1 z.1]
  dsimp! [a1,yh,ι c1]
def sN{m:Lay}(hm:m.Ok){a:Q3}(hx:a.x.natAbs<2^10)(hy:a.y.natAbs<2^10)(hw:a.w=1):vh [cT m,eQ a]=some (eQ (bv m a)):=by
 obtain⟨p1,p2,p3,p4⟩:=hm.bd;have k:∀{i:Int},i.natAbs<=5->i.natAbs<2^3:=λh=>um h (by decide)
 have w1:a.w.natAbs<2^1:=by rw[hw];decide
 have vv:m.v.natAbs<2^3:=by rcases hm.sh with z|z|z|z<;>rw[z]<;>decide
 have m1:=zC (k p1) hx;have m2:=zC (k p2) hy;have m3:=zC hm.ft.1 w1;have m4:=zC (k p3) hx;have m5:=zC (k p4) hy;have m6:=zC hm.ft.2 w1;have m7:=zC vv w1;obtain⟨i0,i1,i2,i3,i4,i5,i6⟩:=ixY m;have st:∀z,iL (aK (aa (dC (.int 2)) (aa (dC (.int 2)) (aa (dC (.int 3)) (aa (dC (.int 3)) ae))))) (lu (cT m) (eQ a) (xt m a) z)=some [.int 2,.int 2,.int 3,.int 3]:=λz=>by dsimp! []
 have fd:∀{x:Int×Int×Int}{ds:List Dt}{d:Int},d≠0->d.natAbs<2^60->zw (gN 5) B6 [5] (.int d::ds) (lu (cT m) (eQ a) x .un)=zw (gN 5) B6 [5] ds (lu (cT m) (eQ a) (ay d x) .un):=λ{x ds d} h0 hd=>by
  rw[zw,show gN 5 (.int d) (lu (cT m) (eQ a) x .un)=some (lu (cT m) (eQ a) x (.fz (.int d))) from rfl,kG,sL h0 hd,kG];rfl
 have lp:zw (gN 5) B6 [5] [.int 2,.int 2,.int 3,.int 3] (lu (cT m) (eQ a) (xt m a) .un)=some (.nx (lu (cT m) (eQ a) (ay 3 (ay 3 (ay 2 (ay 2 (xt m a))))) .un)):=by
  rw[fd (by decide) (by decide),fd (by decide) (by decide),fd (by decide) (by decide),fd (by decide) (by decide)]
  rfl
 have df:aB [5] (iL (aK (aa (dC (.int 2)) (aa (dC (.int 2)) (aa (dC (.int 3)) (aa (dC (.int 3)) ae)))))) (gN 5) B6 (lu (cT m) (eQ a) (xt m a) .un)=some (.nx (lu (cT m) (eQ a) (ay 3 (ay 3 (ay 2 (ay 2 (xt m a))))) .un)):=by
  unfold aB;rw[st,kG,lp]
 have df:aB [5] (iL (aK (aa (dC (.int 2)) (aa (dC (.int 2)) (aa (dC (.int 3)) (aa (dC (.int 3)) ae)))))) (gN 5) B6 [.fz (cT m),.fz (eQ a),.fz (.int (m.p*a.x+m.q*a.y+m.t*a.w)),.fz (.int (m.r*a.x+m.s*a.y+m.u*a.w)),.fz (.int (m.v*a.w)),.un]=some (.nx (lu (cT m) (eQ a) (ay 3 (ay 3 (ay 2 (ay 2 (xt m a))))) .un)):=df;unfold vh;generalize eb:aB [5] _ (gN 5) _=FF;have eb:aB [5] (iL (aK (aa (dC (.int 2)) (aa (dC (.int 2)) (aa (dC (.int 3)) (aa (dC (.int 3)) ae)))))) (gN 5) B6=FF:=eb;rw[eb] at df;clear eb st fd lp;unfold bv;generalize ay 3 (ay 3 (ay 2 (ay 2 (xt m a))))=y at*
 dsimp! [xm,xy,xa,i0,i1,i2,i3,i4,i5,i6,m1,m2,m3,m4,m5,m6,m7,vF,df]
 rfl
abbrev gp(x y:Int):Q3:=⟨x,y,1⟩
def w1:(0:Int)<1:=by decide
structure B7(n:Nat)(r:List Q3):Prop where
 cv:bX r
 bd:∀p∈r,p.w=1/\p.x.natAbs<=n/\p.y.natAbs<=n
theorem vn(x y x' y' x'' y'':Int):dt (gp x y) (gp x' y') (gp x'' y'')=(x'-x)*(y''-y)-(y'-y)*(x''-x):=by unfold dt aE br bu bx;grind
theorem Vc{n:Nat}{x y:Int}(hx:x.natAbs<=n)(hy:y.natAbs<=n)(hn:n<=60):SQ (gp x y):=by
 have k:∀{z:Int},z.natAbs<=n->z.natAbs<2^100000:=λh=>zA (m:=6) (by lia) (by decide)
 exact⟨k hx,k hy,zA (m:=1) (show(1:Int).natAbs<2^1 by decide) (by decide)⟩
def ix4(a b c d:Dt):af (.list [a,b,c,d]) (.int 0)=some a/\af (.list [a,b,c,d]) (.int 1)=some b/\af (.list [a,b,c,d]) (.int 2)=some c/\af (.list [a,b,c,d]) (.int 3)=some d:=⟨rfl,rfl,rfl,rfl⟩
def ix3(a b c:Dt):af (.list [a,b,c]) (.int 0)=some a/\af (.list [a,b,c]) (.int 1)=some b/\af (.list [a,b,c]) (.int 2)=some c:=⟨rfl,rfl,rfl⟩
def rv3(a b c:Dt):[a,b,c].reverse=[c,b,a]:=rfl
theorem sP{x y p q:Int}(hp:0<p)(hq:0<q):bX [gp x y,gp (x+p) y,gp (x+p) (y+q),gp x (y+q)]:=by
 have m:=kf hp hq;refine .inr ⟨_,_,_,_,rfl,w1,w1,w1,w1,?_,?_,?_,?_⟩<;>rw[vn]<;>grind
def Rct(r:List Q3):Prop:=r.length=4->∃x y p q,0<p/\0<q/\r=[gp x y,gp (x+p) y,gp (x+p) (y+q),gp x (y+q)]
theorem VS(c0 c1 c2 c3:Int):∃r,(B7 10 r/\Rct r)/\xY [.list [.int c0,.int c1,.int c2,.int c3]]=some (.list (r.map eQ)):=by
 have m0:=yw (i:=c0) (j:=9) (by decide)
 have m1:=yw (i:=c1) (j:=9) (by decide)
 have m2:=yw (i:=c2) (j:=2) (by decide)
 have mW:=xD (i:=c2) (j:=2) (by decide) (by decide)
 have Rc:=xD (i:=c2) (j:=10) (by decide) (by decide)
 have Mk:=xD (i:=c2) (j:=18) (by decide) (by decide)
 have m3:=yw (i:=c2.fdiv 2) (j:=5) (by decide)
 have m4:=yw (i:=c2.fdiv 10) (j:=5) (by decide)
 have m5:=yw (i:=c2.fdiv 2) (j:=9) (by decide)
 have m6:=yw (i:=c2.fdiv 18) (j:=9) (by decide)
 have m7:=yw (i:=c3) (j:=9) (by decide)
 have d9:=xD (i:=c3) (j:=9) (by decide) (by decide)
 have m8:=yw (i:=c3.fdiv 9) (j:=9) (by decide)
 have b0:=xe (c:=c0) (n:=9) (by decide)
 have b1:=xe (c:=c1) (n:=9) (by decide)
 have b3:=xe (c:=c2.fdiv 2) (n:=5) (by decide)
 have b4:=xe (c:=c2.fdiv 10) (n:=5) (by decide)
 have b5:=xe (c:=c2.fdiv 2) (n:=9) (by decide)
 have b6:=xe (c:=c2.fdiv 18) (n:=9) (by decide)
 have b7:=xe (c:=c3) (n:=9) (by decide)
 have b8:=xe (c:=c3.fdiv 9) (n:=9) (by decide)
 obtain⟨i0,i1,i2,i3⟩:=ix4 (.int c0) (.int c1) (.int c2) (.int c3)
 by_cases c:c2.fmod 2=0
 ·refine⟨[gp (c0.fmod 9-4) (c1.fmod 9-4),gp (c0.fmod 9-4+(1+(c2.fdiv 2).fmod 5)) (c1.fmod 9-4),gp (c0.fmod 9-4+(1+(c2.fdiv 2).fmod 5)) (c1.fmod 9-4+(1+(c2.fdiv 10).fmod 5)),gp (c0.fmod 9-4) (c1.fmod 9-4+(1+(c2.fdiv 10).fmod 5))],⟨⟨sP (by lia) (by lia),λp hp=>?_⟩,λ_=>⟨_,_,_,_,by lia,by lia,rfl⟩⟩,?_⟩
  ·simp only[kT,pe,or_false] at hp;rcases hp with rfl|rfl|rfl|rfl<;>refine⟨rfl,?_,?_⟩<;>dsimp only<;>lia
  ·unfold xY
   dsimp! [i0,i1,i2,i3,m0,m1,m2,mW,Rc,m3,m4,xb,vF,yh,ζ c]
   rw[show c0.fmod 9-4+(1+(c2.fdiv 2).fmod 5)=c0.fmod 9-4+1+(c2.fdiv 2).fmod 5 by lia,show c1.fmod 9-4+(1+(c2.fdiv 10).fmod 5)=c1.fmod 9-4+1+(c2.fdiv 10).fmod 5 by lia]
   rfl
 ·generalize ex:c0.fmod 9-4=x at*;generalize ey:c1.fmod 9-4=y at*;generalize ex1:c3.fmod 9-4=x1 at*;generalize ey1:(c3.fdiv 9).fmod 9-4=y1 at*;generalize ex2:(c2.fdiv 2).fmod 9-4=x2 at*;generalize ey2:(c2.fdiv 18).fmod 9-4=y2 at*;have h0:x.natAbs<=4/\y.natAbs<=4/\x1.natAbs<=4/\y1.natAbs<=4/\x2.natAbs<=4/\y2.natAbs<=4:=by omega
  obtain⟨hx,hy,hx1,hy1,hx2,hy2⟩:=h0;have sa:=Vc hx hy (by decide)
  have sb:=Vc hx1 hy1 (by decide)
  have sc:=Vc hx2 hy2 (by decide)
  have t1:yL [.tuple [.int x,.int y,.int 1],.tuple [.int x1,.int y1,.int 1],.tuple [.int x2,.int y2,.int 1]]=some (.int (aw (dt (gp x y) (gp x1 y1) (gp x2 y2)))):=jh (a:=gp x y) (b:=gp x1 y1) (c:=gp x2 y2) sa sb sc w1;have t2:yL [.tuple [.int x2,.int y2,.int 1],.tuple [.int x1,.int y1,.int 1],.tuple [.int x,.int y,.int 1]]=some (.int (aw (dt (gp x2 y2) (gp x1 y1) (gp x y)))):=jh (a:=gp x2 y2) (b:=gp x1 y1) (c:=gp x y) sc sb sa w1;have rv:dt (gp x2 y2) (gp x1 y1) (gp x y)= -dt (gp x y) (gp x1 y1) (gp x2 y2):=by rw[vn,vn];grind
  obtain⟨j0,j1,j2⟩:=ix3 (.tuple [.int x,.int y,.int 1]) (.tuple [.int x1,.int y1,.int 1]) (.tuple [.int x2,.int y2,.int 1]);obtain⟨l0,l1,l2⟩:=ix3 (.tuple [.int x2,.int y2,.int 1]) (.tuple [.int x1,.int y1,.int 1]) (.tuple [.int x,.int y,.int 1]);have e0:zo (.int (c0.fmod 9)) (.int 4)=some (.int x):=by rw[xb,ex]
  have e1:zo (.int (c1.fmod 9)) (.int 4)=some (.int y):=by rw[xb,ey]
  have e2:zo (.int (c3.fmod 9)) (.int 4)=some (.int x1):=by rw[xb,ex1]
  have e3:zo (.int ((c3.fdiv 9).fmod 9)) (.int 4)=some (.int y1):=by rw[xb,ey1]
  have e4:zo (.int ((c2.fdiv 2).fmod 9)) (.int 4)=some (.int x2):=by rw[xb,ex2]
  have e5:zo (.int ((c2.fdiv 18).fmod 9)) (.int 4)=some (.int y2):=by rw[xb,ey2]
  rcases ue (dt (gp x y) (gp x1 y1) (gp x2 y2)) 0 with z|z|z
  ·have s1:aw (dt (gp x y) (gp x1 y1) (gp x2 y2))= -1:=by unfold aw;rw[η (by lia),θ z]
   have s2:aw (dt (gp x2 y2) (gp x1 y1) (gp x y))=1:=θ (by lia)
   rw[s1] at t1;rw[s2] at t2;refine⟨[gp x2 y2,gp x1 y1,gp x y],⟨⟨.inl ⟨_,_,_,rfl,w1,w1,w1,by lia⟩,λp hp=>?_⟩,nofun⟩,?_⟩
   ·simp only[kT,pe,or_false] at hp;rcases hp with rfl|rfl|rfl<;>refine⟨rfl,?_,?_⟩<;>dsimp only<;>lia
   ·unfold xY
    dsimp! [IH,i0,i1,i2,i3,m0,m1,m2,mW,Mk,m5,m6,m7,d9,m8,e0,e1,e2,e3,e4,e5,yh,yP,ι c,j0,j1,j2,l0,l1,l2,t1,t2,rv3,show decide ((-1:Int)<0)=true from rfl,show decide ((1:Int)=0)=false from rfl]
    rfl
  ·have s1:aw (dt (gp x y) (gp x1 y1) (gp x2 y2))=0:=by rw[z];rfl
   rw[s1] at t1;refine⟨[gp x y,gp (x+2) y,gp x (y+3)],⟨⟨.inl ⟨_,_,_,rfl,w1,w1,w1,by rw[vn];grind⟩,λp hp=>?_⟩,nofun⟩,?_⟩
   ·simp only[kT,pe,or_false] at hp;rcases hp with rfl|rfl|rfl<;>refine⟨rfl,?_,?_⟩<;>dsimp only<;>lia
   ·unfold xY
    dsimp! [i0,i1,i2,i3,m0,m1,m2,mW,Mk,m5,m6,m7,d9,m8,e0,e1,e2,e3,e4,e5,yh,yP,vF,ι c,j0,j1,j2,t1,show decide ((0:Int)<0)=false from rfl,show decide ((0:Int)=0)=true from rfl]
    rfl
  ·have s1:aw (dt (gp x y) (gp x1 y1) (gp x2 y2))=1:=θ z;rw[s1] at t1;refine⟨[gp x y,gp x1 y1,gp x2 y2],⟨⟨.inl ⟨_,_,_,rfl,w1,w1,w1,z⟩,λp hp=>?_⟩,nofun⟩,?_⟩
   ·simp only[kT,pe,or_false] at hp;rcases hp with rfl|rfl|rfl<;>refine⟨rfl,?_,?_⟩<;>dsimp only<;>lia
   ·unfold xY
    dsimp! [i0,i1,i2,i3,m0,m1,m2,mW,Mk,m5,m6,m7,d9,m8,e0,e1,e2,e3,e4,e5,yh,yP,ι c,j0,j1,j2,t1,show decide ((1:Int)<0)=false from rfl,show decide ((1:Int)=0)=false from rfl]
    rfl
end Nu
variable{x:Int×Int×Int}{y w f:Int}{a:Q3}{r:List Q3}
namespace Nu
theorem K4{x:Int}(hw:w=1\/w=2\/w=3\/w=6)(h2:¬(x%2=0/\y%2=0/\w%2=0))(h3:¬(x%3=0/\y%3=0/\w%3=0)):g3 x y w=1:=by
 have da:=Wi x y w;have db:=W6 x y w;have dc:=Wq x y w;generalize g3 x y w=g at*;have z:∀{d a:Int},d ∣ (g:Int)->(g:Int) ∣ a->a%d=0:=λh k=>Int.emod_eq_zero_of_dvd (Int.dvd_trans h k);have k2:¬(2:Int) ∣ (g:Int):=λh=>h2 ⟨z h da,z h db,z h dc⟩;have k3:¬(3:Int) ∣ (g:Int):=λh=>h3 ⟨z h da,z h db,z h dc⟩;clear z da db h2 h3;have l6:g<=6:=by
  have w0:0<w:=by rcases hw with e|e|e|e<;>rw[e]<;>decide
  have le:=Int.le_of_dvd w0 dc;have:w<=6:=by rcases hw with e|e|e|e<;>rw[e]<;>decide
  clear k2 k3 dc hw;lia
 have cs:∀g:Nat,g<=6->g=0\/g=1\/g=2\/g=3\/g=4\/g=5\/g=6:=by decide
 rcases cs g l6 with rfl|rfl|rfl|rfl|rfl|rfl|rfl
 ·exact absurd ⟨0,rfl⟩ k2
 ·rfl
 ·exact absurd ⟨1,rfl⟩ k2
 ·exact absurd ⟨1,rfl⟩ k3
 ·exact absurd ⟨2,rfl⟩ k2
 ·rcases hw with e|e|e|e<;>rw[e] at dc<;>exact absurd dc (by decide)
 ·exact absurd ⟨3,rfl⟩ k2
abbrev K6(d:Int)(x:Int×Int×Int):Prop:=x.1%d=0/\x.2.1%d=0/\x.2.2%d=0
def jc{d:Int}(hd:0<d)(x:Int×Int×Int):ay d x=if K6 d x then(x.1/d,x.2.1/d,x.2.2/d) else x:=by
 unfold ay;simp only[Int.fmod_eq_emod_of_nonneg _ (kM hd),Ud _ (kM hd)]
def Rd(f:Int)(x y:Int×Int×Int):Prop:=x.1=y.1*f/\x.2.1=y.2.1*f/\x.2.2=y.2.2*f
theorem K7(h:x.2.2%4≠0):∃f,(f=1\/f=2)/\Rd f x (ay 2 (ay 2 x))/\¬K6 2 (ay 2 (ay 2 x)):=by
 by_cases c:K6 2 x
 ·have e:ay 2 x=(x.1/2,x.2.1/2,x.2.2/2):=by rw[jc (by decide),θ c]
  have n:¬K6 2 (ay 2 x):=by rw[e];intro z;have:=z.2.2;dsimp only at this;lia
  rw[jc (by decide) (ay 2 x),η n]
  refine⟨2,.inr rfl,?_,n⟩;rw[e];obtain⟨c1,c2,c3⟩:=c;refine⟨?_,?_,?_⟩<;>dsimp only<;>lia
 ·have e:ay 2 x=x:=by rw[jc (by decide),η c]
  rw[e,e];exact⟨1,.inl rfl,⟨by lia,by lia,by lia⟩,c⟩
theorem K8(h:x.2.2%9≠0):∃f,(f=1\/f=3)/\Rd f x (ay 3 (ay 3 x))/\¬K6 3 (ay 3 (ay 3 x)):=by
 by_cases c:K6 3 x
 ·have e:ay 3 x=(x.1/3,x.2.1/3,x.2.2/3):=by rw[jc (by decide),θ c]
  have n:¬K6 3 (ay 3 x):=by rw[e];intro z;have:=z.2.2;dsimp only at this;lia
  rw[jc (by decide) (ay 3 x),η n]
  refine⟨3,.inr rfl,?_,n⟩;rw[e];obtain⟨c1,c2,c3⟩:=c;refine⟨?_,?_,?_⟩<;>dsimp only<;>lia
 ·have e:ay 3 x=x:=by rw[jc (by decide),η c]
  rw[e,e];exact⟨1,.inl rfl,⟨by lia,by lia,by lia⟩,c⟩
theorem TR{v:Int}(hf:f=1\/f=2)(e:w=v*f)(hw:w=1\/w=2\/w=3\/w=6):v=1\/v=2\/v=3\/v=6:=by rcases hf with rfl|rfl<;>lia
theorem TS{v:Int}(hf:f=1\/f=3)(e:w=v*f)(hw:w=1\/w=2\/w=3\/w=6):v=1\/v=2\/v=3\/v=6:=by rcases hf with rfl|rfl<;>lia
def TU{a b:Int}(e:a=b*f)(h:b%2=0):a%2=0:=by rw[e,Int.mul_emod,h,pY];rfl
def K9(hw:x.2.2=1\/x.2.2=2\/x.2.2=3\/x.2.2=6):∃f,0<f/\Rd f x (ay 3 (ay 3 (ay 2 (ay 2 x))))/\0<(ay 3 (ay 3 (ay 2 (ay 2 x)))).2.2/\g3 (ay 3 (ay 3 (ay 2 (ay 2 x)))).1 (ay 3 (ay 3 (ay 2 (ay 2 x)))).2.1 (ay 3 (ay 3 (ay 2 (ay 2 x)))).2.2=1:=by
 obtain⟨f,hf,tf,nf⟩:=K7 (x:=x) (by rcases hw with e|e|e|e<;>rw[e]<;>decide)
 generalize ay 2 (ay 2 x)=y at*;have hy:=TR hf tf.2.2 hw;obtain⟨g,hg,tg,ng⟩:=K8 (x:=y) (by rcases hy with e|e|e|e<;>rw[e]<;>decide)
 generalize ay 3 (ay 3 y)=z at*;have hz:=TS hg tg.2.2 hy;obtain⟨t1,t2,t3⟩:=tg;obtain⟨u1,u2,u3⟩:=tf;have k:∀{a b c:Int},a=b*f->b=c*g->a=c*(f*g):=λh1 h2=>by rw[h1,h2,Int.mul_assoc,uY g f]
 exact⟨f*g,kf (by rcases hf with e|e<;>rw[e]<;>decide) (by rcases hg with e|e<;>rw[e]<;>decide),⟨k u1 t1,k u2 t2,k u3 t3⟩,by rcases hz with e|e|e|e<;>rw[e]<;>decide,K4 hz (λ⟨a1,a2,a3⟩=>nf ⟨TU t1 a1,TU t2 a2,TU t3 a3⟩) ng⟩
def YQ{m:Lay}(hm:m.Ok)(hw:a.w=1):∃f,0<f/\Rd f (xt m a) ((bv m a).x,(bv m a).y,(bv m a).w)/\0<(bv m a).w/\g3 (bv m a).x (bv m a).y (bv m a).w=1:=K9 (x:=xt m a) (by
 show m.v*a.w=1\/m.v*a.w=2\/m.v*a.w=3\/m.v*a.w=6
 rw[hw,Dw];exact hm.sh)
theorem W0{x:Int}{n:Nat}(h:x=y*f)(hf:0<f)(hx:x.natAbs<n):y.natAbs<n:=by
 have:y.natAbs<=x.natAbs:=by rw[h,Qb];exact DF _ (by lia)
 lia
theorem Ji{p q t x:Int}(hp:p.natAbs<=5)(hq:q.natAbs<=5)(ht:t.natAbs<2^70)(hx:x.natAbs<=60)(hy:y.natAbs<=60)(hw:w=1):(p*x+q*y+t*w).natAbs<2^80:=by
 have m1:(p*x).natAbs<=5*60:=by rw[Qb];exact GZ hp hx
 have m2:(q*y).natAbs<=5*60:=by rw[Qb];exact GZ hq hy
 rw[hw,Dw];lia
theorem La{m:Lay}(hm:m.Ok)(hw:a.w=1)(hx:a.x.natAbs<=60)(hy:a.y.natAbs<=60):PQ 80 (bv m a):=by
 obtain⟨f,hf,⟨e1,e2,e3⟩,p,g⟩:=YQ hm hw;obtain⟨b1,b2,b3,b4⟩:=hm.bd;refine⟨p,g,W0 e1 hf (Ji b1 b2 hm.ft.1 hx hy hw),W0 e2 hf (Ji b3 b4 hm.ft.2 hx hy hw),W0 e3 hf ?_⟩;show(m.v*a.w).natAbs<2^80;rw[hw,Dw];have:=hm.sh;lia
theorem Lb{m:Lay}(hm:m.Ok){b c:Q3}(ha:a.w=1)(hb:b.w=1)(hc:c.w=1)(h:0<dt a b c):0<dt (bv m a) (bv m b) (bv m c):=by
 obtain⟨f,hf,⟨e1,e2,e3⟩,_⟩:=YQ hm ha;obtain⟨g,hg,⟨g1,g2,g4⟩,_⟩:=YQ hm hb;obtain⟨k,hk,⟨k1,k2,k3⟩,_⟩:=YQ hm hc;have e:dt (bv m a) (bv m b) (bv m c)*(f*g*k)=(m.p*m.s-m.q*m.r)*m.v*dt a b c:=by
  unfold xt at e1 e2 e3 g1 g2 g4 k1 k2 k3;dsimp only at e1 e2 e3 g1 g2 g4 k1 k2 k3;generalize bv m a=A at*;generalize bv m b=B at*;generalize bv m c=C at*;have z:dt A B C*(f*g*k)=aE (A.x*f) (A.y*f) (A.w*f) (B.x*g) (B.y*g) (B.w*g) (C.x*k) (C.y*k) (C.w*k):=by unfold dt aE br bu bx;grind
  rw[z,<-e1,<-e2,<-e3,<-g1,<-g2,<-g4,<-k1,<-k2,<-k3];unfold dt aE br bu bx;grind
 have pv:0<m.v:=by have:=hm.sh;lia
 have pos:=kf (kf hm.det pv) h;have pf:=kf (kf hf hg) hk;rw[<-e] at pos;exact Int.pos_of_mul_pos_left pos pf
def Zw{φ:Q3->Q3}(h:bX r)(hw:∀a∈r,0<(φ a).w)(hd:∀a∈r,∀b∈r,∀c∈r,0<dt a b c->0<dt (φ a) (φ b) (φ c)):bX (r.map φ):=by
 rcases h with⟨a,b,c,rfl,_,_,_,h⟩|⟨a,b,c,d,rfl,h⟩
 ·exact .inl ⟨_,_,_,rfl,hw a (by simp),hw b (by simp),hw c (by simp),hd a (by simp) b (by simp) c (by simp) h⟩
 ·exact .inr ⟨_,_,_,_,rfl,hw a (by simp),hw b (by simp),hw c (by simp),hw d (by simp),hd a (by simp) b (by simp) c (by simp) h.h1,hd b (by simp) c (by simp) d (by simp) h.h2,hd c (by simp) d (by simp) a (by simp) h.h3,hd d (by simp) a (by simp) b (by simp) h.h4⟩
def sQ{φ:Q3->Q3}(h:bX r)(hw:∀a∈r,0<(φ a).w)(hd:∀a∈r,∀b∈r,∀c∈r,0<dt a b c->0<dt (φ c) (φ b) (φ a)):bX (r.map φ).reverse:=by
 rcases h with⟨a,b,c,rfl,_,_,_,h⟩|⟨a,b,c,d,rfl,h⟩
 ·exact .inl ⟨_,_,_,rfl,hw c (by simp),hw b (by simp),hw a (by simp),hd a (by simp) b (by simp) c (by simp) h⟩
 ·exact .inr ⟨_,_,_,_,rfl,hw d (by simp),hw c (by simp),hw b (by simp),hw a (by simp),hd b (by simp) c (by simp) d (by simp) h.h2,hd a (by simp) b (by simp) c (by simp) h.h1,hd d (by simp) a (by simp) b (by simp) h.h4,hd c (by simp) d (by simp) a (by simp) h.h3⟩
theorem VB{m:Lay}(hm:m.Ok){n:Nat}(h:B7 n r)(hn:n<=60):bX (r.map (bv m))/\∀p∈r.map (bv m),PQ 80 p:=by
 have pq:∀a∈r,PQ 80 (bv m a):=λa ha=>by
  obtain⟨b1,b2,b3⟩:=h.bd a ha;exact La hm b1 (by lia) (by lia)
 exact⟨Zw h.cv (λa ha=>(pq a ha).pos) λa ha b hb c hc=>Lb hm (h.bd a ha).1 (h.bd b hb).1 (h.bd c hc).1,λp hp=>by
  obtain⟨a,ha,rfl⟩:=ki.mp hp;exact pq a ha⟩
theorem B8{b c:Q3}(ha:a.w=1)(hb:b.w=1)(hc:c.w=1):dt a b c=(b.x-a.x)*(c.y-a.y)-(b.y-a.y)*(c.x-a.x):=by unfold dt aE br bu bx;rw[ha,hb,hc];grind
end Nu
end
section
variable{c:En->Option Bool}{f g:En->Option Ou}{Z:En}
namespace Nu
def qC(f g:En->Option Ou)(Z:En):ag f g Z=(f Z).bind (cC g):=rfl
def B9(c:En->Option Bool)(f g:En->Option Ou)(Z:En):au c f g Z=(c Z).bind λb=>if b=true then f Z else g Z:=rfl
def XR(i:Nat)(f:En->Option Dt)(Z:En):ak i f Z=(f Z).bind λd=>some (.nx (Z.set i (.fz d))):=rfl
def jB(i:Nat)(f:En->Option Dt)(Z:En):aU i f Z=(f Z).bind λd=>some (.nx (Z.set i (.ow false 1 d))):=rfl
def vJ(h:c Z=some false):au c f aO Z=some (.nx Z):=by rw[B9,h];rfl
def YJ(h:c Z=some true):au c f g Z=f Z:=by rw[B9,h];rfl
def zv{ρ':En}(h:f Z=some (.nx ρ')):ag f g Z=g ρ':=by rw[qC,h];rfl
def tw1:En->Option Ou:=au (dB (d2 zB (dV 3) (dC (.int 1)))) (aU 2 (aj yv (aa (dV 1) ae))) aO
def tw2:En->Option Ou:=au (dB (d2 zB (dV 3) (dC (.int 2)))) (aU 2 (ao 3 [] (iL (dV 1)) (gT 3 (aG (gN 0) (aG (gN 1) (aG (gN 2) bJ)))) aD (ax (aa (d2 zN (dV 0) (dC (.int 1))) (aa (dV 1) (aa (dC (.int 1)) ae)))))) aO
def tw3:En->Option Ou:=au (dB (d2 zB (dV 3) (dC (.int 3)))) (ag (ak 4 (jL (ao 3 [] (iL (dV 1)) (gT 3 (aG (gN 0) (aG (gN 1) (aG (gN 2) bJ)))) aD (dV 0))))
  (aU 2 (IH (ao 3 [4] (iL (dV 1)) (gT 3 (aG (gN 0) (aG (gN 1) (aG (gN 2) bJ)))) aD (ax (aa (d2 zo (d2 zf (dC (.int 2)) (dV 3)) (dV 0)) (aa (dV 1) (aa (dC (.int 1)) ae)))))))) aO
def tw4:En->Option Ou:=au (bM (dB (d2 zB (dV 3) (dC (.int 4)))) (dB (d2 zB (aj zu (aa (dV 1) ae)) (dC (.int 4))))) (aU 2 (d2 zR (fS (dV 1) oN (oS (dC (.int 3)))) (aK (aa (ax (aa (d2 zo (d2 af (d2 af (dV 1) (dC (.int 3))) (dC (.int 0))) (dC (.int 1))) (aa (d2 af (d2 af (dV 1) (dC (.int 3))) (dC (.int 1))) (aa (dC (.int 1)) ae)))) ae)))) aO
def TV:En->Option Ou:=ag (ak 5 (aj v7 (aa (d2 zE (aj yK (aa (dV 0) (aa (dC (.int 8)) ae))) (dC (.int 8))) ae)))
  (aC (ax (aa (ao 1 [5] (iL (dV 1)) (gN 0) aD (aj vh (aa (dV 1) (aa (dV 0) ae)))) (aa (ao 1 [5] (iL (aA 2)) (gN 0) aD (aj vh (aa (dV 1) (aa (dV 0) ae)))) ae))))
abbrev eI(ns:List Int)(r:List Q3)(sl z:Sl)(w:Int):En:=[.fz (.scr ns),.fz (.list (r.map eQ)),sl,.fz (.int w),z,.un]
def HS(sl:Sl):Prop:=∃r,sR sl=some (.list (r.map eQ))/\B7 30 r
def wv{ns:List Int}{r:List Q3}{sl z:Sl}{w k:Int}:dB (d2 zB (dV 3) (dC (.int k))) (eI ns r sl z w)=some (decide (w=k)):=by dsimp! [yh]
section
variable{ns:List Int}{r:List Q3}(hr:B7 10 r){sl z:Sl}{w:Int}(h:HS sl)
include hr h
theorem Lc:∃cV z',HS cV/\tw1 (eI ns r sl z w)=some (.nx (eI ns r cV z' w)):=by
 by_cases c:w=1
 ·refine⟨.ow false 1 (.list (r.map eQ)),z,⟨r,rfl,hr.cv,λp hp=>?_⟩,?_⟩
  ·obtain⟨b1,b2,b3⟩:=hr.bd p hp;exact⟨b1,by lia,by lia⟩
  ·exact(YJ (by rw[wv,ζ c])).trans rfl
 ·exact⟨sl,z,h,vJ (by rw[wv,ι c])⟩
theorem Le:∃cV z',HS cV/\tw2 (eI ns r sl z w)=some (.nx (eI ns r cV z' w)):=by
 by_cases c:w=2
 ·refine⟨.ow false 1 (.list ((r.map λp=>gp (p.x+1) p.y).map eQ)),z,⟨r.map λp=>gp (p.x+1) p.y,rfl,?_,λq hq=>?_⟩,?_⟩
  ·refine Zw hr.cv (λ_ _=>w1) λa ha b hb c hc hd=>?_;rw[B8 (hr.bd a ha).1 (hr.bd b hb).1 (hr.bd c hc).1] at hd;rw[vn,show b.x+1-(a.x+1)=b.x-a.x by lia,show c.x+1-(a.x+1)=c.x-a.x by lia]
   exact hd
  ·obtain⟨p,hp,rfl⟩:=ki.mp hq;obtain⟨b1,b2,b3⟩:=hr.bd p hp;refine⟨rfl,?_,?_⟩<;>dsimp only<;>lia
  ·refine(YJ (by rw[wv,ζ c])).trans ?_
   rw[jB];have e:ao 3 [] (iL (dV 1)) (gT 3 (aG (gN 0) (aG (gN 1) (aG (gN 2) bJ)))) aD (ax (aa (d2 zN (dV 0) (dC (.int 1))) (aa (dV 1) (aa (dC (.int 1)) ae)))) (eI ns r sl z w)=some (.list (r.map λp=>eQ (gp (p.x+1) p.y))):=by
    dsimp! []
    rw[zW (e:=eQ) (h:=λp=>eQ (gp (p.x+1) p.y)) λp _=>by dsimp! [eQ,vF]]
    rfl
   rw[e,uE];rfl
 ·exact⟨sl,z,h,vJ (by rw[wv,ι c])⟩
theorem Lf:∃cV z',HS cV/\tw3 (eI ns r sl z w)=some (.nx (eI ns r cV z' w)):=by
 by_cases c:w=3
 ·have ne:∃p ps,r=p::ps:=by
   rcases hr.cv with⟨a,b,c,rfl,_⟩|⟨a,b,c,d,rfl,_⟩<;>exact⟨_,_,rfl⟩
  have mx:∃k,k.natAbs<=10/\jL (ao 3 [] (iL (dV 1)) (gT 3 (aG (gN 0) (aG (gN 1) (aG (gN 2) bJ)))) aD (dV 0)) (eI ns r sl z w)=some (.int k):=by
   have e:ao 3 [] (iL (dV 1)) (gT 3 (aG (gN 0) (aG (gN 1) (aG (gN 2) bJ)))) aD (dV 0) (eI ns r sl z w)=some (.list (r.map λp=>Dt.int p.x)):=by
    dsimp! []
    rw[zW (e:=eQ) (h:=λp=>Dt.int p.x) λp _=>by dsimp! [eQ]]
    rfl
   have e2:zn yN (r.map λp=>Dt.int p.x)=some (r.map λp=>p.x):=yX λ_ _=>rfl;have bd:∀n∈r.map λp=>p.x,n.natAbs<=10:=λn hn=>by
    obtain⟨p,hp,rfl⟩:=ki.mp hn;exact(hr.bd p hp).2.1
   obtain⟨p,ps,rfl⟩:=ne;refine⟨iJ (p.x::ps.map λp=>p.x) 0,bd _ ?_,?_⟩
   ·rcases(Y6 (ps.map λp=>p.x) p.x).2.2 with e|e
    ·show((ps.map λp=>p.x).foldl max p.x)∈_
     rw[e];simp
    ·exact uM _ e
   ·unfold jL;rw[e,kG];show Fx (zn yN _) _=_;rw[e2,kG];rfl
  obtain⟨k,hk,em⟩:=mx;refine⟨.ow false 1 (.list ((r.map λp=>gp (2*k-p.x) p.y).reverse.map eQ)),.fz (.int k),⟨(r.map λp=>gp (2*k-p.x) p.y).reverse,rfl,?_,λq hq=>?_⟩,?_⟩
  ·refine sQ hr.cv (λ_ _=>w1) λa ha b hb c hc hd=>?_;rw[B8 (hr.bd a ha).1 (hr.bd b hb).1 (hr.bd c hc).1] at hd;rw[vn]
   grind
  ·obtain⟨p,hp,rfl⟩:=ki.mp (hH.mp hq);obtain⟨b1,b2,b3⟩:=hr.bd p hp;refine⟨rfl,?_,?_⟩<;>dsimp only<;>lia
  ·refine(YJ (by rw[wv,ζ c])).trans ?_
   refine(zv (ρ':=eI ns r sl (.fz (.int k)) w) (by rw[XR,em];rfl)).trans ?_
   rw[jB];have m2:=zC (i:=2) (j:=k) (m:=2) (n:=4) (by decide) (by lia)
   have e:ao 3 [4] (iL (dV 1)) (gT 3 (aG (gN 0) (aG (gN 1) (aG (gN 2) bJ)))) aD (ax (aa (d2 zo (d2 zf (dC (.int 2)) (dV 3)) (dV 0)) (aa (dV 1) (aa (dC (.int 1)) ae)))) (eI ns r sl (.fz (.int k)) w)=some (.list (r.map λp=>eQ (gp (2*k-p.x) p.y))):=by
    dsimp! []
    rw[zW (e:=eQ) (h:=λp=>eQ (gp (2*k-p.x) p.y)) λp _=>by dsimp! [eQ,xb,m2]]
    rfl
   unfold IH;rw[e,kG];show Fx (some _) _=_;rw[kG,Fg,uE];rfl
 ·exact⟨sl,z,h,vJ (by rw[wv,ι c])⟩
theorem Lg(rc:Rct r):∃cV z',HS cV/\tw4 (eI ns r sl z w)=some (.nx (eI ns r cV z' w)):=by
 have e2:dB (d2 zB (aj zu (aa (dV 1) ae)) (dC (.int 4))) (eI ns r sl z w)=some (decide (r.length=4)):=by
  have:decide ((r.length:Int)=4)=decide (r.length=4):=ω.mpr (by lia)
  rw[<-this]
  dsimp! [xZ]
  rfl
 have eb:∀b,decide (w=4)=b->(b=true->decide (r.length=4)=true)->bM (dB (d2 zB (dV 3) (dC (.int 4)))) (dB (d2 zB (aj zu (aa (dV 1) ae)) (dC (.int 4)))) (eI ns r sl z w)=some b:=λb h1 h2=>by
  rw[jZ,wv,kG,h1]
  cases b with
  |true=>rw[θ rfl,e2,h2 rfl]
  |false=>rfl
 by_cases c:w=4
 ·rcases hr.cv with⟨a,b,c',rfl,_⟩|⟨a,b,c',d,rfl,q⟩
  ·refine⟨sl,z,h,vJ ?_⟩;rw[jZ,wv,ζ c,kG,θ rfl,e2];rfl
  ·obtain⟨x,y,p,q,hp,hq,e⟩:=rc rfl;rw[e] at hr⊢;have bd:=λi hi=>hr.bd i hi;have b1:=bd _ (uN ..);have b3:=bd (gp (x+p) (y+q)) (by simp)
   refine⟨.ow false 1 (.list ([gp x y,gp (x+p) y,gp (x+p) (y+q),gp (x-1) (y+q)].map eQ)),z,⟨_,rfl,?_,λi hi=>?_⟩,?_⟩
   ·have m:=kf hp hq;refine .inr ⟨_,_,_,_,rfl,w1,w1,w1,w1,?_,?_,?_,?_⟩<;>rw[vn]<;>grind
   ·dsimp only at b1 b3;simp only[kT,pe,or_false] at hi;rcases hi with rfl|rfl|rfl|rfl<;>refine⟨rfl,?_,?_⟩<;>dsimp only<;>lia
   ·refine(YJ ?_).trans rfl;rw[jZ,wv,ζ c,kG,θ rfl];rfl
 ·exact⟨sl,z,h,vJ (eb false (ι c) nofun)⟩
end
theorem C0{m n:Nat}{r:List Q3}(h:B7 m r)(l:m<=n):B7 n r:=⟨h.cv,λp hp=>let⟨b1,b2,b3⟩:=h.bd p hp;⟨b1,by lia,by lia⟩⟩
theorem Lh{ns:List Int}{r:List Q3}(hr:B7 10 r){sl z:Sl}{w:Int}(h:HS sl):∃one aq,(bX one/\∀p∈one,PQ 80 p)/\(bX aq/\∀p∈aq,PQ 80 p)/\(TV (eI ns r sl z w)).bind cD=some (.tuple [.list (one.map eQ),.list (aq.map eQ)]):=by
 obtain⟨r',e,PY⟩:=h;have c8:yK [.scr ns,.int 8]=some (.int (cel ns 8)):=YI ns 8;have d8:=xD (i:=cel ns 8) (j:=8) (by decide) (by decide)
 obtain⟨m,hm,em⟩:=K3 ((cel ns 8).fdiv 8);refine⟨r.map (bv m),r'.map (bv m),VB hm (C0 hr (by decide)) (by decide:10<=60),VB hm PY (by decide),?_⟩
 have la:∀{n:Nat}{r:List Q3},B7 n r->n<=60->∀a∈r,vh [cT m,eQ a]=some (eQ (bv m a)):=λ{n r} h l a ha=>by
  obtain⟨b1,b2,b3⟩:=h.bd a ha;exact sN hm (by lia) (by lia) b1
 unfold TV;have s1:ak 5 (aj v7 (aa (d2 zE (aj yK (aa (dV 0) (aa (dC (.int 8)) ae))) (dC (.int 8))) ae)) (eI ns r sl z w)=some (.nx [.fz (.scr ns),.fz (.list (r.map eQ)),sl,.fz (.int w),z,.fz (cT m)]):=by
  dsimp! [c8,d8,em]
 rw[zv s1];have vr:aA 2 [.fz (.scr ns),.fz (.list (r.map eQ)),sl,.fz (.int w),z,.fz (cT m)]=some (.list (r'.map eQ)):=e;generalize aA 2=vv at vr⊢
 dsimp! [vr]
 rw[zW (e:=eQ) (h:=λa=>eQ (bv m a)) λp hp=>by dsimp! [la hr (by decide) p hp]]
 dsimp! []
 rw[zW (e:=eQ) (h:=λa=>eQ (bv m a)) λp hp=>by dsimp! [la PY (by decide) p hp]]
 dsimp! [uE]
 rfl
def zcp(ns:List Int):ao 1 [0] (iC bI (aa (dC (.int 4)) ae)) (gN 0) aD (aj yK (aa (dV 1) (aa (dV 0) ae))) [.fz (.scr ns),.un,.un,.un,.un,.un]=some (.list [.int (cel ns 0),.int (cel ns 1),.int (cel ns 2),.int (cel ns 3)]):=by
 have r4:bI [.int 4]=some ([0,1,2,3].map eN):=Wr (n:=4) (by decide)
 generalize el:[0,1,2,3]=l at r4
 dsimp! [r4]
 rw[zW (e:=eN) (h:=λk=>.int (cel ns k)) λk _=>by
  have:=YI ns k;rw[show eN k=.int (k:Int) from rfl,this];rfl]
 rw[<-el];rfl
def Z5(ns:List Int)(x:Sl):ao 1 [0] (iC dU (aa (dC (.int 4)) (aa (dC (.int 8)) ae))) (gN 0) aD (aj yK (aa (dV 1) (aa (dV 0) ae))) [.fz (.scr ns),x,.un,.un,.un,.un]=some (.list [.int (cel ns 4),.int (cel ns 5),.int (cel ns 6),.int (cel ns 7)]):=by
 have r4:dU [.int 4,.int 8]=some ([4,5,6,7].map eN):=by
  simp only[dU];rw[θ ⟨by decide,xj (by decide)⟩];rfl
 generalize el:[4,5,6,7]=l at r4
 dsimp! [r4]
 rw[zW (e:=eN) (h:=λk=>.int (cel ns k)) λk _=>by
  have:=YI ns k;rw[show eN k=.int (k:Int) from rfl,this];rfl]
 rw[<-el];rfl
def Li(ns:List Int):∃one aq,(bX one/\∀p∈one,PQ 80 p)/\(bX aq/\∀p∈aq,PQ 80 p)/\qZ [.scr ns]=some (.tuple [.list (one.map eQ),.list (aq.map eQ)]):=by
 obtain⟨r,⟨hr,rc⟩,er⟩:=VS (cel ns 0) (cel ns 1) (cel ns 2) (cel ns 3);obtain⟨r2,⟨LQ,_⟩,er2⟩:=VS (cel ns 4) (cel ns 5) (cel ns 6) (cel ns 7);have c8:yK [.scr ns,.int 8]=some (.int (cel ns 8)):=YI ns 8;have m8:=yw (i:=cel ns 8) (j:=8) (by decide)
 obtain⟨s1,z1,h1,e1⟩:=Lc (ns:=ns) (w:=(cel ns 8).fmod 8) (z:=.un) hr (sl:=.fz (.list (r2.map eQ))) ⟨r2,rfl,C0 LQ (by decide)⟩
 obtain⟨s2,z2,h2,e2⟩:=Le (ns:=ns) (w:=(cel ns 8).fmod 8) (z:=z1) hr h1;obtain⟨s3,z3,h3,e3⟩:=Lf (ns:=ns) (w:=(cel ns 8).fmod 8) (z:=z2) hr h2;obtain⟨s4,z4,h4,e4⟩:=Lg (ns:=ns) (w:=(cel ns 8).fmod 8) (z:=z3) hr h3 rc;obtain⟨one,aq,p1,p2,e5⟩:=Lh (ns:=ns) (w:=(cel ns 8).fmod 8) (z:=z4) hr h4;refine⟨one,aq,p1,p2,?_⟩;have ec:=zcp ns;have ec2:=Z5 ns (.fz (.list (r.map eQ)));show((ag (ak 1 (aj xY (aa (ao 1 [0] (iC bI (aa (dC (.int 4)) ae)) (gN 0) aD (aj yK (aa (dV 1) (aa (dV 0) ae)))) ae)))
  (ag (ak 2 (aj xY (aa (ao 1 [0] (iC dU (aa (dC (.int 4)) (aa (dC (.int 8)) ae))) (gN 0) aD (aj yK (aa (dV 1) (aa (dV 0) ae)))) ae)))
  (ag (ak 3 (d2 zG (aj yK (aa (dV 0) (aa (dC (.int 8)) ae))) (dC (.int 8)))) (ag tw1 (ag tw2 (ag tw3 (ag tw4 TV))))))) [.fz (.scr ns),.un,.un,.un,.un,.un]).bind cD=_
 generalize ao 1 [0] (iC bI _) (gN 0) aD _=C1 at ec⊢;generalize ao 1 [0] (iC dU _) (gN 0) aD _=C2 at ec2⊢;rw[zv (ρ':=[.fz (.scr ns),.fz (.list (r.map eQ)),.un,.un,.un,.un]) (by rw[XR];simp only[aj,aa,ae,ec,kG,er];rfl)]
 rw[zv (ρ':=[.fz (.scr ns),.fz (.list (r.map eQ)),.fz (.list (r2.map eQ)),.un,.un,.un]) (by rw[XR];simp only[aj,aa,ae,ec2,kG,er2];rfl)]
 rw[zv (ρ':=eI ns r (.fz (.list (r2.map eQ))) .un ((cel ns 8).fmod 8)) (by dsimp! [c8,m8])]
 rw[zv e1,zv e2,zv e3,zv e4,e5]
end Nu
end
section
variable{n:Nat}{P:Q3}
namespace Nu
def Xs(x y:Bool):bZ (.bool x) (.bool y)=some (.bool (x^^y)):=by cases x<;>cases y<;>rfl
def bS(f:Q3×Q3)(P:Q3):Bool:=aY (zd f).1 (zd f).2 P
def O5{c d:Q3}(hc:PQ n c)(hd:PQ n d)(hP:PQ n P)(b:bq c d=true):aY c d P=true↔dt c d P=0/\(P=c\/P=d\/(bq c P^^bq d P)=true):=by
 constructor
 ·intro h;obtain⟨h0,h1,h2⟩:=zj h;refine⟨h0,?_⟩
  by_cases e1:P=c
  ·exact .inl e1
  ·have:=(xr hc hP (UR e1)).resolve_right (by rw[h1];exact pb)
   rw[this,h2];exact .inr (.inr rfl)
 ·rintro⟨h0,rfl|rfl|h⟩
  ·exact(Yj b).1
  ·exact(Yj b).2
  ·refine yS h0 ?_ ?_<;>cases h1:bq c P<;>cases h2:bq d P<;>rw[h1,h2] at h<;>first|cases h|skip
   ·have:=yt hc hd hP b h2;rw[this] at h1;cases h1
   ·exact zt h1
   ·have:=yt hc hd hP b h2;rw[this] at h1;cases h1
theorem TW{a b:Q3}(ha:PQ n a)(hb:PQ n b)(hP:PQ n P)(ne:a≠b):bS (a,b) P=(decide (dt a b P=0)&&(decide (P=a)||(decide (P=b)||(bq a P^^bq b P)))):=by
 rw[QL];simp only[pO,GF,decide_eq_true_eq];unfold bS;rcases wt a b with⟨e,z⟩|⟨e,z⟩
 ·rw[e];exact O5 ha hb hP z
 ·rw[e];have z:=(xr ha hb ne).resolve_left (by rw[z];exact pb)
  refine(O5 hb ha hP z).trans ?_;rw[wW a b P,Bool.xor_comm]
  constructor
  ·rintro⟨h,q⟩;exact⟨by lia,q.elim (λq=>.inr (.inl q)) λq=>q.elim .inl λq=>.inr (.inr q)⟩
  ·rintro⟨h,q⟩;exact⟨by lia,q.elim (λq=>.inr (.inl q)) λq=>q.elim .inl λq=>.inr (.inr q)⟩
theorem Y7(hn:n<=100000){a b:Q3}(ha:PQ n a)(hb:PQ n b)(hP:PQ n P)(ne:a≠b):zZ [eQ P,eQ a,eQ b]=some (.bool (bS (a,b) P)):=by
 have t:=jh (SQ.of ha hn) (SQ.of hb hn) (SQ.of hP hn) ha.pos;have b1:=jk (SQ.of ha hn) (SQ.of hP hn);have b2:=jk (SQ.of hb hn) (SQ.of hP hn);rw[TW ha hb hP ne];unfold zZ
 by_cases c:dt a b P=0
 ·have z:aw (dt a b P)=0:=by rw[c];rfl
  rw[ζ c,Qn]
  by_cases e1:P=a
  ·dsimp! [t,b1,b2,yG,Xs,yA,z,ζ e1,decide_true,HG]
  ·by_cases e2:P=b
   ·dsimp! [t,b1,b2,yG,Xs,yA,z,ι e1,ζ e2,decide_true,HG,Gk]
   ·dsimp! [t,b1,b2,yG,Xs,yA,z,ι e1,ι e2,decide_true,Gk]
 ·have z:¬aw (dt a b P)=0:=λz=>c (by unfold aw at z;split at z<;>first|lia|(split at z<;>lia))
  rw[ι c,At]
  dsimp! [t,yG,ι z]
def zbl(f:Q3×Q3):Yh [eS f]=some (.bool true):=by
 kernel_rfl
theorem XH{r:List Q3}(h:bX r){k:Nat}(hk:k<r.length):∃s,(aI r)[k]?=some s/\s.1∈r/\s.2∈r/\af (.list (r.map eQ)) (.int ((k:Int)-1))=some (eQ s.1)/\af (.list (r.map eQ)) (.int (k:Int))=some (eQ s.2):=by
 rcases h with⟨a,b,c,rfl,_⟩|⟨a,b,c,d,rfl,_⟩
 ·have hk:k<3:=hk;rcases(by lia:k=0\/k=1\/k=2) with rfl|rfl|rfl<;>exact⟨_,rfl,by simp,by simp,rfl,rfl⟩
 ·have hk:k<4:=hk;rcases(by lia:k=0\/k=1\/k=2\/k=3) with rfl|rfl|rfl|rfl<;>exact⟨_,rfl,by simp,by simp,rfl,rfl⟩
theorem Vf{α:Type}(l:List α)(z:α):(kN l.length).map (λk=>l.getD k z)=l:=by
 refine QU λi=>?_;rw[kY]
 by_cases c:i<l.length
 ·rw[uA c,kC c];show some (l.getD i z)=_;rw[kE,kC c];rfl
 ·rw[pR (by rw[pM];lia),pR (by lia)];rfl
theorem Zp{r:List Q3}(h:bX r)(hq:∀p∈r,SQ p):∃l:List (Q3×Q3),l.Perm (aI r)/\jI [.list (r.map eQ)]=some (.list (l.map eS)):=by
 obtain⟨l4,ln⟩:=xL h;have mem:∀s∈aI r,s.1∈r/\s.2∈r:=λs hs=>by
  obtain⟨k,hk,e⟩:=pW.mp hs;obtain⟨s',e',m1,m2,_⟩:=XH h (k:=k) (by lia)
  rw[kC hk,e] at e'
  cases e';exact⟨m1,m2⟩
 obtain⟨l,hl,e⟩:=za8 (fs:=aI r) (λf hf=>⟨hq _ (mem f hf).1,hq _ (mem f hf).2⟩) (by lia)
 refine⟨l,hl,?_⟩;unfold jI;have it:iC bI (aa (aj zu (aa (dV 0) ae)) ae) [.fz (.list (r.map eQ))]=some ((kN r.length).map eN):=by
  have:aa (aj zu (aa (dV 0) ae)) ae [.fz (.list (r.map eQ))]=some [eN r.length]:=by dsimp! [xZ]
  show(aa (aj zu (aa (dV 0) ae)) ae [.fz (.list (r.map eQ))]).bind bI=_
  rw[this,kG,Wr (by lia)]
 generalize iC bI (aa (aj zu (aa (dV 0) ae)) ae)=gg at it⊢
 dsimp! [it]
 rw[zW (e:=eN) (h:=λk=>eS ((aI r).getD k zQ)) λk hk=>by
  obtain⟨s,es,_,_,x1,x2⟩:=XH h (kn.mp hk);have x1:af (.list (r.map eQ)) (.int ((k:Int)-1))=some (eQ s.1):=x1;have x2:af (.list (r.map eQ)) (eN k)=some (eQ s.2):=x2;have ks:zo (eN k) (.int 1)=some (.int ((k:Int)-1)):=rfl
  dsimp! [ks,x1,x2]
  rw[kE,es];rfl]
 have em:(kN r.length).map (λk=>eS ((aI r).getD k zQ))=(aI r).map eS:=by
  have:=υ (List.map eS) (Vf (aI r) zQ);rw[uE,ln] at this;exact this
 rw[em]
 dsimp! [e]
theorem Yn{α:Type}{e:α->Dt}{h:Dt->En->Option En}{b:En->Option Ou}{fg:List Nat}{Z:En}{c:α->Bool}{v:Dt}:∀{xs:List α},(∀a∈xs,∃bA,(h (e a) Z).bind b=some (if c a=true then .nx bA else .rt v bA)/\fgt fg bA=Z)->∃ρ',zw h b fg (xs.map e) Z=some (if xs.all c=true then .nx Z else .rt v ρ')
 |[],_=>⟨Z,rfl⟩
 |a::xs,st=>by
  obtain⟨bA,e1,e2⟩:=st a (by simp)
  obtain⟨b9,e4,e5⟩:=kA.mp e1;rw[kZ,zw,e4,kG,e5,kG,Gf]
  cases c a with
  |false=>exact⟨bA,rfl⟩
  |true=>
   obtain⟨ρ',e6⟩:=Yn (xs:=xs) λy hy=>st y (by simp[hy])
   refine⟨ρ',?_⟩;rw[Qn,<-e6];show zw h b fg (xs.map e) (fgt fg bA)=_;rw[e2]
end Nu
end
section
namespace Nu
def zbu{p q:Q3}(hp:SQ p)(hq:SQ q):jN [eQ p,eQ q]=some (eQ (zx (p,q))):=by
 obtain⟨a1,a2,_⟩:=fG hp hq;obtain⟨b1,b2,_⟩:=fG hq hp;have m5:=zC (i:=2) (m:=2) (by decide) hp.2.2
 have w2:(2*p.w).natAbs<2^100001:=K1 hp.2.2;have m6:=zC w2 hq.2.2;unfold jN
 dsimp! [xm,xy,xa,a1,a2,b1,b2,m5,m6,vF]
 rfl
abbrev Ml(c p:Dt)(w:Int)(M:Dt):En:=[.fz c,.fz p,.fz (.int w),.fz M,.un,.un,.un,.un,.un,.un,.un,.un,.un]
def Re:En->Option Ou:=ag (ak 5 (d2 af (dV 0) (d2 zo (dV 4) (dC (.int 1)))))
  (ag (ak 6 (d2 af (dV 0) (dV 4)))
  (ag (ak 7 (aj yL (aa (dV 5) (aa (dV 6) (aa (dV 3) ae)))))
  (ag (au (dB (d2 zB (dV 7) (dC (.int 0)))) (ag (yM (dV 1) (gT 2 (aG (gN 8) (aG (gN 9) bJ))))
  (ag (ak 10 (d2 zo (d2 zf (d2 af (dV 9) (dC (.int 0))) (d2 af (dV 8) (dC (.int 2)))) (d2 zf (d2 af (dV 8) (dC (.int 0))) (d2 af (dV 9) (dC (.int 2))))))
  (ag (ak 11 (d2 zo (d2 zf (d2 af (dV 9) (dC (.int 1))) (d2 af (dV 8) (dC (.int 2)))) (d2 zf (d2 af (dV 8) (dC (.int 1))) (d2 af (dV 9) (dC (.int 2))))))
  (ag (ak 12 (d2 zN (d2 zf (d2 zo (d2 zf (d2 af (dV 6) (dC (.int 0))) (d2 af (dV 5) (dC (.int 2)))) (d2 zf (d2 af (dV 5) (dC (.int 0))) (d2 af (dV 6) (dC (.int 2))))) (dV 10)) (d2 zf (d2 zo (d2 zf (d2 af (dV 6) (dC (.int 1))) (d2 af (dV 5) (dC (.int 2)))) (d2 zf (d2 af (dV 5) (dC (.int 1))) (d2 af (dV 6) (dC (.int 2))))) (dV 11))))
  (ak 7 (d2 zf (dV 2) (d2 zo (aj xM (aa (d2 lC (dV 12) (dC (.int 0))) ae)) (aj xM (aa (d2 cz (dV 12) (dC (.int 0))) ae))))))))) aO)
  (au (dB (d2 cz (dV 7) (dC (.int 0)))) (aC (dC (.bool false))) aO))))
def Lj(x:Int):(aw x).natAbs<2^1:=by unfold aw;split<;>first|decide|(split<;>decide)
theorem sS{c:Dt}{f s:Q3×Q3}{w:Int}(hw:w.natAbs<2^1){M:Q3}(eM:M=zx f)(sM:SQ M)(s1:SQ s.1)(s2:SQ s.2)(p1:0<s.1.w)(f1:SQ f.1)(f2:SQ f.2){k:Nat}(x1:af c (.int ((k:Int)-1))=some (eQ s.1))(x2:af c (.int (k:Int))=some (eQ s.2)):
  ∃bA,(gN 4 (eN k) (Ml c (eS f) w (eQ M))).bind Re=some (if decide (0<=iW s f w)=true then .nx bA else .rt (.bool false) bA)/\fgt [4,5,6,7,8,9,10,11,12] bA=Ml c (eS f) w (eQ M):=by
 have t:=jh s1 s2 sM p1;have x2:af c (eN k)=some (eQ s.2):=x2;have ks:zo (eN k) (.int 1)=some (.int ((k:Int)-1)):=rfl;have hs:∀z:Int,cz (.int z) (.int 0)=some (.bool (!decide (0<=z))):=λz=>by
  rw[yP,show decide (z<0)= !decide (0<=z) from by rw[<-decide_not];exact ω.mpr (by lia)]
 unfold Re
 by_cases c0:aw (dt s.1 s.2 M)=0
 ·obtain⟨u1,u2,_⟩:=fG s2 s1;obtain⟨v1,v2,_⟩:=fG s1 s2;obtain⟨g1,g2,_⟩:=fG f2 f1;obtain⟨h1,h2,_⟩:=fG f1 f2;obtain⟨e1,e2⟩:=qV s1 s2;obtain⟨OY,mW⟩:=qV f1 f2;have m1:zf (.int (s.2.x*s.1.w-s.1.x*s.2.w)) (.int (f.2.x*f.1.w-f.1.x*f.2.w))=some (.int (dX s.1 s.2*dX f.1 f.2)):=zC e1 OY;have m2:zf (.int (s.2.y*s.1.w-s.1.y*s.2.w)) (.int (f.2.y*f.1.w-f.1.y*f.2.w))=some (.int (dY s.1 s.2*dY f.1 f.2)):=zC e2 mW;have hg:iW s f w=w*aw (dX s.1 s.2*dX f.1 f.2+dY s.1 s.2*dY f.1 f.2):=by unfold iW;rw[<-eM];exact θ c0
  have m3:=zC hw (Lj (dX s.1 s.2*dX f.1 f.2+dY s.1 s.2*dY f.1 f.2));have st:=Jq (dX s.1 s.2*dX f.1 f.2+dY s.1 s.2*dY f.1 f.2) 0;rw[DV] at st;rw[hg];have ka:zN (.int (dX s.1 s.2*dX f.1 f.2)) (.int (dY s.1 s.2*dY f.1 f.2))=some (.int (dX s.1 s.2*dX f.1 f.2+dY s.1 s.2*dY f.1 f.2)):=vF _ _;generalize dX s.1 s.2*dX f.1 f.2+dY s.1 s.2*dY f.1 f.2=al at*;refine⟨[.fz c,.fz (eS f),.fz (.int w),.fz (eQ M),.fz (eN k),.fz (eQ s.1),.fz (eQ s.2),.fz (.int (w*aw al)),.fz (eQ f.1),.fz (eQ f.2),.fz (.int (f.2.x*f.1.w-f.1.x*f.2.w)),.fz (.int (f.2.y*f.1.w-f.1.y*f.2.w)),.fz (.int al)],?_,rfl⟩;have ef:eS f=.tuple [eQ f.1,eQ f.2]:=rfl;have nb:decide (al<0)= !decide (0<=al):=by rw[<-decide_not];exact ω.mpr (by lia)
  rw[nb] at st;have z0:decide (aw (dt s.1 s.2 M)=0)=true:=ζ c0
  dsimp! [yM,ef,ks,x1,x2,t,yh,z0,hs,xm,xy,xa,u1,u2,v1,v2,g1,g2,h1,h2,xb,ka,m1,m2,jO,yP,B3,st,m3]
  cases decide (0<=w*aw al)<;>rfl
 ·have hg:iW s f w=aw (dt s.1 s.2 M):=by unfold iW;rw[<-eM];exact η c0
  refine⟨[.fz c,.fz (eS f),.fz (.int w),.fz (eQ M),.fz (eN k),.fz (eQ s.1),.fz (eQ s.2),.fz (.int (aw (dt s.1 s.2 M))),.un,.un,.un,.un,.un],?_,rfl⟩;rw[hg]
  dsimp! [ks,x1,x2,t,yh,ι c0,hs]
  cases decide (0<=aw (dt s.1 s.2 M))<;>rfl
theorem O6{p q:Q3}{n:Nat}(hn:n<=4000)(hp:PQ n p)(hq:PQ n q):SQ (zx (p,q))/\0<(zx (p,q)).w:=by
 obtain⟨h1,h2,h3,h4⟩:=O4 hp hq;exact⟨⟨zA h1 (by lia),zA h2 (by lia),zA h3 (by lia)⟩,h4⟩
theorem qY{n:Nat}(hn:n<=4000){r:List Q3}(h:bX r)(hr:∀p∈r,PQ n p){f:Q3×Q3}(f1:PQ n f.1)(f2:PQ n f.2){w:Int}(hw:w.natAbs<2^1):wf [.list (r.map eQ),eS f,.int w]=some (.bool (bL r f w)):=by
 have sq:∀{p},PQ n p->SQ p:=λh=>SQ.of h (by lia)
 have am:=zbu (sq f1) (sq f2);obtain⟨sM,_⟩:=O6 hn f1 f2;have sM:SQ (zx f):=sM;obtain⟨l4,ln⟩:=xL h;have s1:ak 3 (aj jN (aa (d2 af (dV 1) (dC (.int 0))) (aa (d2 af (dV 1) (dC (.int 1))) ae))) [.fz (.list (r.map eQ)),.fz (eS f),.fz (.int w),.un,.un,.un,.un,.un,.un,.un,.un,.un,.un]=some (.nx (Ml (.list (r.map eQ)) (eS f) w (eQ (zx f)))):=by
  dsimp! [zJ,zU,am]
 have it:iC bI (aa (aj zu (aa (dV 0) ae)) ae) (Ml (.list (r.map eQ)) (eS f) w (eQ (zx f)))=some ((kN r.length).map eN):=by
  have:aa (aj zu (aa (dV 0) ae)) ae (Ml (.list (r.map eQ)) (eS f) w (eQ (zx f)))=some [eN r.length]:=by dsimp! [xZ]
  unfold iC;rw[this,kG,Wr (by lia)]
 obtain⟨ρ',lp⟩:=Yn (e:=eN) (h:=gN 4) (b:=Re) (fg:=[4,5,6,7,8,9,10,11,12]) (Z:=Ml (.list (r.map eQ)) (eS f) w (eQ (zx f))) (c:=λk=>decide (0<=iW ((aI r).getD k zQ) f w)) (v:=.bool false) (xs:=kN r.length) λk hk=>by
  obtain⟨s,es,m1,m2,x1,x2⟩:=XH h (kn.mp hk);have e:(aI r).getD k zQ=s:=by rw[kE,es];rfl
  rw[e];exact sS hw rfl sM (sq (hr _ m1)) (sq (hr _ m2)) (hr _ m1).pos (sq f1) (sq f2) x1 x2
 have ea:(kN r.length).all (λk=>decide (0<=iW ((aI r).getD k zQ) f w))=bL r f w:=by
  unfold bL
  conv=>rhs;rw[<-Vf (aI r) zQ]
  rw[HH,ln];rfl
 rw[ea] at lp;show((ag (ak 3 (aj jN (aa (d2 af (dV 1) (dC (.int 0))) (aa (d2 af (dV 1) (dC (.int 1))) ae)))) (ag (aB [4,5,6,7,8,9,10,11,12] (iC bI (aa (aj zu (aa (dV 0) ae)) ae)) (gN 4) Re) (aC (dC (.bool true))))) [.fz (.list (r.map eQ)),.fz (eS f),.fz (.int w),.un,.un,.un,.un,.un,.un,.un,.un,.un,.un]).bind cD=_;rw[zv s1,qC];unfold aB;rw[it,kG,lp,kG]
 cases bL r f w<;>rfl
def XO{f g:Q3×Q3}(h:dg [f.1,f.2] [g.1,g.2]=true):mX f g=true:=by
 rw[dg] at h;unfold mX
 by_cases c:f.1=g.1
 ·rw[θ c] at h⊢;rw[dg] at h
  by_cases d:f.2=g.2
  ·rw[θ d] at h;cases h
  ·rw[η d] at h;exact h
 ·rw[η c] at h⊢;exact h
def LN(p:Q3):List (Q3×Q3)->Q3->Prop
 |[],q=>p=q
 |f::L,q=>f.1=p/\LN f.2 L q
section
variable{n:Nat}{ss:List (Q3×Q3)}{ps:List (Nat×Nat)}{g:Int}(T:zr n ss ps g)
include T
theorem JD{s:Q3×Q3}(hs:s∈ss):∀{L:List (Q3×Q3)}{p:Q3},lg L->cA (4*n+3) ss p s->(∀f,f∈L↔wD (4*n+3) ss f/\aY s.1 s.2 f.1=true/\aY s.1 s.2 f.2=true/\bq f.1 p=false)->LN p L s.2
 |[],p,_,lp,h=>by
  refine uB λne=>?_;have ne:p≠s.2:=ne;have e2:=(YY T hs).2;have b:=(xr lp.pq e2.pq ne).resolve_right (by rw[(zj lp.on).2.2];exact pb)
  obtain⟨q,q1,q2,q3,_⟩:=WH T lp e2 b
  cases(h (p,q)).mpr ⟨q1,lp.on,q2.on,zq p⟩
 |f::L,p,up,lp,h=>by
  obtain⟨u1,u2⟩:=uK.mp up;obtain⟨pf,o1,o2,bf⟩:=(h f).mp (by simp)
  obtain⟨l1,l2,nf⟩:=j7 T pf hs o1 o2;have Rf:bq f.1 f.2=true:=by obtain⟨_,_,_,z,_⟩:=pf;exact z
  have e2:=(YY T hs).2;have hp:bq p s.2=true:=by
   have h1:bq p f.2=true:=by
    refine uB λz=>?_;rw[wG l2.pq.pos lp.pq.pos l1.pq.pos (pS.mpr z) bf] at Rf;cases Rf
   refine uB λz=>?_;rw[wG l2.pq.pos e2.pq.pos lp.pq.pos (zj o2).2.2 (pS.mpr z)] at h1;cases h1
  have e:f.1=p:=by
   obtain⟨q,q1,q2,q3,_⟩:=WH T lp e2 hp;have m:=(h (p,q)).mpr ⟨q1,lp.on,q2.on,zq p⟩;rcases kT.mp m with z|z
   ·rw[<-z]
   ·have:=XO (u1 _ z);unfold mX at this
    by_cases c:f.1=p
    ·exact c
    ·rw[η c] at this;have this:bq f.1 p=true:=this;rw[bf] at this;cases this
  refine⟨e,JD hs u2 l2 λk=>⟨λhk=>?_,λ⟨k1,k2,k3,k4⟩=>?_⟩⟩
  ·obtain⟨k1,k2,k3,k4⟩:=(h k).mp (by simp[hk])
   refine⟨k1,k2,k3,pS.mpr λz=>?_⟩;obtain⟨m1,m2,nk⟩:=j7 T k1 hs k2 k3;have:=XO (u1 k hk);unfold mX at this
   by_cases c:f.1=k.1
   ·rw[θ c] at this;exact nk f.2 l2 z this
   ·rw[η c] at this;exact nf k.1 m1 this z
  ·have m:=(h k).mpr ⟨k1,k2,k3,by
    rw[<-e];obtain⟨m1,m2,_⟩:=j7 T k1 hs k2 k3;refine pS.mpr λz=>?_;rw[yt m1.pq l1.pq l2.pq z Rf] at k4;cases k4⟩
   rcases kT.mp m with z|z
   ·rw[z,Rf] at k4;cases k4
   ·exact z
end
def Fq(n:Nat)(fs:List (Q3×Q3)):Prop:=∀f∈fs,PQ n f.1/\PQ n f.2/\f.1≠f.2
abbrev mY(P:Q3)(all:Dt)(ws:List (Q3×Q3)):En:=[.fz (eQ P),.fz all,.ow false 1 (.list (ws.map eS)),.un,.un,.un]
def sT:En->Option Ou:=ag (au (cb (dB (d2 cI (dV 0) (dV 3))) (dB (d2 cI (dV 0) (dV 4)))) (aC (dC (.bool true))) aO)
  (au (dB (aj zZ (aa (dV 0) (aa (dV 3) (aa (dV 4) ae))))) (iw 2 (ax (aa (dV 3) (aa (dV 4) ae)))) aO)
theorem sU{n:Nat}(hn:n<=100000){P:Q3}(hP:PQ n P){all:Dt}{f:Q3×Q3}(hf:PQ n f.1/\PQ n f.2/\f.1≠f.2){ws:List (Q3×Q3)}(hl:ws.length<8000000):∃bA,(gT 2 (aG (gN 3) (aG (gN 4) bJ)) (eS f) (mY P all ws)).bind sT=some (if P=f.1\/P=f.2 then .rt (.bool true) bA else .nx bA)/\(¬(P=f.1\/P=f.2)->fgt [3,4] bA=mY P all (if bS f P=true then ws++[f] else ws)):=by
 have o:=Y7 hn hf.1 hf.2.1 hP hf.2.2;have o:zZ [eQ P,eQ f.1,eQ f.2]=some (.bool (bS f P)):=o;have ef:eS f=.tuple [eQ f.1,eQ f.2]:=rfl;unfold sT
 by_cases c1:P=f.1
 ·refine⟨[.fz (eQ P),.fz all,.ow false 1 (.list (ws.map eS)),.fz (eQ f.1),.fz (eQ f.2),.un],?_,λz=>absurd (.inl c1) z⟩;rw[θ (.inl c1)]
  dsimp! [ef,yA,ζ c1]
 ·by_cases c2:P=f.2
  ·refine⟨[.fz (eQ P),.fz all,.ow false 1 (.list (ws.map eS)),.fz (eQ f.1),.fz (eQ f.2),.un],?_,λz=>absurd (.inr c2) z⟩;rw[θ (.inr c2)]
   dsimp! [ef,yA,ι c1,ζ c2]
  ·have no:¬(P=f.1\/P=f.2):=λz=>z.elim c1 c2;have ls:(ws.map eS).length<ψ:=by rw[kJ];exact Qg hl (xj (pL _))
   cases c3:bS f P with
   |true=>
    refine⟨[.fz (eQ P),.fz all,.ow false 1 (.list ((ws++[f]).map eS)),.fz (eQ f.1),.fz (eQ f.2),.un],?_,λ_=>rfl⟩;rw[c3] at o;rw[η no]
    dsimp! [ef,yA,ι c1,ι c2,o,θ ls]
    rw[pD];rfl
   |false=>
    refine⟨[.fz (eQ P),.fz all,.ow false 1 (.list (ws.map eS)),.fz (eQ f.1),.fz (eQ f.2),.un],?_,λ_=>rfl⟩;rw[c3] at o;rw[η no]
    dsimp! [ef,yA,ι c1,ι c2,o]
theorem Zd{n:Nat}(hn:n<=100000){P:Q3}(hP:PQ n P){all:Dt}:∀{fs ws:List (Q3×Q3)},Fq n fs->ws.length+fs.length<8000000->(∃ρ',zw (gT 2 (aG (gN 3) (aG (gN 4) bJ))) sT [3,4] (fs.map eS) (mY P all ws)=some (.rt (.bool true) ρ'))\/((∀f∈fs,P≠f.1/\P≠f.2)/\zw (gT 2 (aG (gN 3) (aG (gN 4) bJ))) sT [3,4] (fs.map eS) (mY P all ws)=some (.nx (mY P all (ws++fs.filter λf=>bS f P))))
 |[],ws,_,_=>.inr ⟨nofun,by rw[Dg,Ab];rfl⟩
 |f::fs,ws,hf,hl=>by
  rw[ku] at hl;obtain⟨bA,e1,e2⟩:=sU hn hP (all:=all) (hf f (by simp)) (ws:=ws) (by lia)
  obtain⟨b9,e4,e5⟩:=kA.mp e1;rw[kZ,zw,e4,kG,e5,kG]
  by_cases c:P=f.1\/P=f.2
  ·rw[θ c];exact .inl ⟨bA,rfl⟩
  ·rw[η c];have e2:=e2 c;show(∃ρ',zw _ sT [3,4] (fs.map eS) (fgt [3,4] bA)=_)\/(_/\zw _ sT [3,4] (fs.map eS) (fgt [3,4] bA)=_);rw[e2]
   rcases Zd hn hP (all:=all) (fs:=fs) (ws:=if bS f P=true then ws++[f] else ws) (λg hg=>hf g (by simp[hg])) (by split<;>(try rw[kb,uh])<;>lia) with h|⟨h1,h2⟩
   ·exact .inl h
   ·refine .inr ⟨λg hg=>?_,?_⟩
    ·rcases kT.mp hg with rfl|hg
     ·exact⟨λz=>c (.inl z),λz=>c (.inr z)⟩
     ·exact h1 g hg
    ·rw[h2,UE]
     cases bS f P with
     |true=>rw[θ rfl,θ rfl,Ca];rfl
     |false=>rfl
theorem C3{x:Int}:aw x=0↔x=0:=by
 unfold aw
 constructor
 ·intro z;split at z<;>first|lia|(split at z<;>lia)
 ·rintro rfl;rfl
theorem JI{n:Nat}(hn:n<=100000){P:Q3}(hP:PQ n P){fs:List (Q3×Q3)}(hf:Fq n fs)(hl:fs.length<100)(h:(∃f∈fs,P=f.1\/P=f.2)\/∃f∈fs,∃g∈fs,bS f P=true/\bS g P=true/\¬(dt f.1 f.2 g.1=0/\dt f.1 f.2 g.2=0)):jH [eQ P,.list (fs.map eS)]=some (.bool true):=by
 show((ag (aU 2 (aK ae)) (ag (aB [3,4] (iL (dV 1)) (gT 2 (aG (gN 3) (aG (gN 4) bJ))) sT)
  (ag (aB [5] (iL (fS (aA 2) (oS (dC (.int 1))) oN)) (gN 5)
  (au (cb (dB (d2 yb (aj yL (aa (d2 af (d2 af (aA 2) (dC (.int 0))) (dC (.int 0))) (aa (d2 af (d2 af (aA 2) (dC (.int 0))) (dC (.int 1))) (aa (d2 af (dV 5) (dC (.int 0))) ae)))) (dC (.int 0)))) (dB (d2 yb (aj yL (aa (d2 af (d2 af (aA 2) (dC (.int 0))) (dC (.int 0))) (aa (d2 af (d2 af (aA 2) (dC (.int 0))) (dC (.int 1))) (aa (d2 af (dV 5) (dC (.int 1))) ae)))) (dC (.int 0))))) (aC (dC (.bool true))) aO))
  (aC (dC (.bool false)))))) [.fz (eQ P),.fz (.list (fs.map eS)),.un,.un,.un,.un]).bind cD=_
 rw[zv (ρ':=mY P (.list (fs.map eS)) []) (by dsimp! [];rfl),qC]
 have d1:aB [3,4] (iL (dV 1)) (gT 2 (aG (gN 3) (aG (gN 4) bJ))) sT (mY P (.list (fs.map eS)) [])=zw (gT 2 (aG (gN 3) (aG (gN 4) bJ))) sT [3,4] (fs.map eS) (mY P (.list (fs.map eS)) []):=rfl;rw[d1];rcases Zd hn hP (all:=.list (fs.map eS)) (ws:=[]) hf (by rw[UQ];lia) with⟨ρ',e⟩|⟨no,e⟩
 ·rw[e];rfl
 ·rw[e,kG,VM,gO];rcases h with⟨f,hf,z⟩|⟨f,mf,k,mk,o1,o2,nc⟩
  ·exact(z.elim (no f hf).1 (no f hf).2).elim
  have m1:f∈fs.filter λf=>bS f P:=pG.mpr ⟨mf,o1⟩;have m2:k∈fs.filter λf=>bS f P:=pG.mpr ⟨mk,o2⟩;have sub:∀g∈fs.filter (λf=>bS f P),PQ n g.1/\PQ n g.2/\g.1≠g.2:=λg hg=>hf g (pG.mp hg).1;generalize fs.filter (λf=>bS f P)=W at*
  cases W with
  |nil=>cases m1
  |cons w0 W=>
   obtain⟨s1,s2,s3⟩:=sub w0 (by simp)
   have ww:af (.list (eS w0::W.map eS)) (.int 0)=some (eS w0):=Op (xs:=w0::W) (f:=eS) (i:=0) rfl;have it:iL (fS (aA 2) (oS (dC (.int 1))) oN) (mY P (.list (fs.map eS)) (w0::W))=some (W.map eS):=by
    show Fx (some (Dt.list (y0 ((w0::W).map eS) (some 1) none))) fJ=_
    rw[(TQ (w0::W)).1];rfl
   obtain⟨ρ',lp⟩:=Yn (e:=eS) (h:=gN 5) (b:=au (cb (dB (d2 yb (aj yL (aa (d2 af (d2 af (aA 2) (dC (.int 0))) (dC (.int 0))) (aa (d2 af (d2 af (aA 2) (dC (.int 0))) (dC (.int 1))) (aa (d2 af (dV 5) (dC (.int 0))) ae)))) (dC (.int 0)))) (dB (d2 yb (aj yL (aa (d2 af (d2 af (aA 2) (dC (.int 0))) (dC (.int 0))) (aa (d2 af (d2 af (aA 2) (dC (.int 0))) (dC (.int 1))) (aa (d2 af (dV 5) (dC (.int 1))) ae)))) (dC (.int 0))))) (aC (dC (.bool true))) aO) (fg:=[5]) (Z:=mY P (.list (fs.map eS)) (w0::W)) (c:=λg=>decide (dt w0.1 w0.2 g.1=0)&&decide (dt w0.1 w0.2 g.2=0)) (v:=.bool true) (xs:=W) λg hg=>by
    obtain⟨g1,g2,g3⟩:=sub g (by simp[hg])
    have t1:=jh (SQ.of s1 hn) (SQ.of s2 hn) (SQ.of g1 hn) s1.pos;have t2:=jh (SQ.of s1 hn) (SQ.of s2 hn) (SQ.of g2 hn) s1.pos;refine⟨[.fz (eQ P),.fz (.list (fs.map eS)),.ow false 1 (.list ((w0::W).map eS)),.un,.un,.fz (eS g)],?_,rfl⟩;have z1:decide (aw (dt w0.1 w0.2 g.1)=0)=decide (dt w0.1 w0.2 g.1=0):=ω.mpr C3;have z2:decide (aw (dt w0.1 w0.2 g.2)=0)=decide (dt w0.1 w0.2 g.2=0):=ω.mpr C3
    cases c1:decide (dt w0.1 w0.2 g.1=0) with
    |false=>
     rw[c1] at z1
     dsimp! [ww,zJ,zU,t1,yG,z1,c1,At]
    |true=>
     rw[c1] at z1
     cases c2:decide (dt w0.1 w0.2 g.2=0) with
     |false=>
      rw[c2] at z2
      dsimp! [ww,zJ,zU,t1,t2,yG,z1,z2,c1,c2,Dy]
     |true=>
      rw[c2] at z2
      dsimp! [ww,zJ,zU,t1,t2,yG,z1,z2,c1,c2,AZ]
   have na:W.all (λg=>decide (dt w0.1 w0.2 g.1=0)&&decide (dt w0.1 w0.2 g.2=0))=false:=by
    refine pS.mpr λz=>nc ?_;have z:=uS.mp z;have al:∀g∈w0::W,dt w0.1 w0.2 g.1=0/\dt w0.1 w0.2 g.2=0:=λg hg=>by
     rcases kT.mp hg with rfl|hg
     ·exact⟨yI _ _,yo _ _⟩
     ·have:=z g hg;rw[pO,τ,τ] at this;exact this
    obtain⟨f1,f2⟩:=al f m1;obtain⟨k1,k2⟩:=al k m2;rcases xr s1 s2 s3 with b|b
    ·exact⟨dQ b f1 f2 k1,dQ b f1 f2 k2⟩
    ·have sw:∀{x:Q3},dt w0.1 w0.2 x=0->dt w0.2 w0.1 x=0:=λ{x} h=>by rw[wW w0.1 w0.2,h];rfl
     exact⟨dQ b (sw f1) (sw f2) (sw k1),dQ b (sw f1) (sw f2) (sw k2)⟩
   rw[na,η pb] at lp;rw[qC];unfold aB;rw[it,kG,lp];rfl
end Nu
variable{k:Nat}{ds:List Dt}
namespace Nu
def fN(k:Nat)(d:Dt):Prop:=∃y,cB d=some y/\y.canLay0=true/\y.depth<=k
def Lk(i:Int):fN k (.int i):=⟨.int i,rfl,rfl,ui _⟩
def C4(b:Bool):fN k (.bool b):=⟨.bool b,rfl,rfl,ui _⟩
theorem Rg{k:Nat}:∀{ds:List Dt},(∀d∈ds,fN k d)->∃ys,we ds=some ys/\uH ys=true/\ud ys<=k/\ys.length=ds.length
 |[],_=>⟨[],rfl,rfl,ui _,rfl⟩
 |d::ds,h=>by
  obtain⟨y,e1,c1,d1⟩:=h d (by simp)
  obtain⟨ys,e2,c2,d2,l⟩:=Rg (ds:=ds) λx hx=>h x (by simp[hx])
  refine⟨y::ys,by rw[we,e1,kG,e2];rfl,?_,?_,by rw[ku,ku,l]⟩
  ·simp only[uH,c1,c2,AZ]
  ·simp only[ud];lia
theorem vm(h:∀d∈ds,fN k d):fN (k+1) (.list ds):=by
 obtain⟨ys,e,c,d,_⟩:=Rg h;exact⟨.list ys,by rw[cB,e];rfl,by simp only[uu,c],by simp only[QJ];lia⟩
theorem Xd(h:∀d∈ds,fN k d):fN (k+1) (.tuple ds):=by
 obtain⟨ys,e,c,d,_⟩:=Rg h;exact⟨.tuple ys,by rw[cB,e];rfl,by simp only[uu,c],by simp only[QJ];lia⟩
def O7(p:Q3):fN 1 (eQ p):=Xd λd hd=>by
 simp only[kT,pe,or_false] at hd;rcases hd with rfl|rfl|rfl<;>exact Lk _
def XF(f:Q3×Q3):fN 2 (eS f):=Xd λd hd=>by
 simp only[kT,pe,or_false] at hd;rcases hd with rfl|rfl<;>exact O7 _
theorem qS{j:Nat}{d:Dt}(h:fN j d)(l:j<=k):fN k d:=let⟨y,e,c,d⟩:=h;⟨y,e,c,by lia⟩
def WR{d:Dt}(h:fN 64 d):bZ d d=some (.bool false):=by
 obtain⟨y,e,c,dp⟩:=h;unfold bZ;have s:uq y=true:=by unfold uq;rw[c,ζ dp];rfl
 rw[e,kG,kG,θ ⟨s,s⟩,SeqAt.eqv_refl y c];rfl
theorem Ll(h:∀d∈ds,fN 60 d):bZ (.list ds) (.list [])=some (.bool (!ds.isEmpty)):=by
 obtain⟨ys,e,c,dp,l⟩:=Rg h;have e1:cB (.list ds)=some (.list ys):=by rw[cB,e];rfl
 have s:uq (.list ys)=true:=by unfold uq;rw[show uu (.list ys)=true by simp only[uu,c],ζ (by simp only[QJ];lia)];rfl
 unfold bZ;rw[e1,kG,show cB (.list [])=some (.list []) from rfl,kG,θ ⟨s,rfl⟩]
 cases ys with
 |nil=>cases ds with
  |nil=>rfl
  |cons d ds=>cases l
 |cons y ys=>cases ds with
  |nil=>cases l
  |cons d ds=>rfl
abbrev mG(a b:Dt)(lo hi:Q3)(z:Sl):En:=[.fz a,.fz b,.fz (eQ lo),.fz (eQ hi),z,.un]
def Mm:En->Option Ou:=ag (au (dB (d2 bZ (d2 af (dV 5) (dC (.int 0))) (dV 2))) (aC (dC (.bool false))) aO) (ak 2 (d2 af (dV 5) (dC (.int 1))))
theorem ZG{a b:Dt}{hi:Q3}{z:Sl}:∀{L:List (Q3×Q3)}{p q:Q3},LN p L q->zw (gN 5) Mm [5] (L.map eS) (mG a b p hi z)=some (.nx (mG a b q hi z))
 |[],p,q,h=>by cases h;rfl
 |f::L,p,q,⟨h1,h2⟩=>by
  have st:(gN 5 (eS f) (mG a b p hi z)).bind Mm=some (.nx [.fz a,.fz b,.fz (eQ f.2),.fz (eQ hi),z,.fz (eS f)]):=by
   unfold Mm
   dsimp! [zJ,zU,X8,ζ h1]
  obtain⟨b9,e4,e5⟩:=kA.mp st;rw[kZ,zw,e4,kG,e5,kG];exact ZG h2
theorem zbj{n:Nat}(hn:n<=100000){f:Q3×Q3}(f1:PQ n f.1)(f2:PQ n f.2)(ne:f.1≠f.2){L:List (Q3×Q3)}(hL:∀g∈L,PQ n g.1/\PQ n g.2)(h:LN (zd f).1 (L.filter λg=>bS f g.1&&bS f g.2) (zd f).2):jq [eS f,.list (L.map eS)]=some (.bool true):=by
 have o:∀{P},PQ n P->zZ [eQ P,eQ f.1,eQ f.2]=some (.bool (bS f P)):=λhP=>Y7 hn f1 f2 hP ne;have bf:=jk (SQ.of f1 hn) (SQ.of f2 hn);show((ag (yM (dV 0) (gT 2 (aG (gN 2) (aG (gN 3) bJ))))
  (ag (aU 4 (ao 1 [2,3] (iL (dV 1)) (gN 0) (bM (dB (aj zZ (aa (d2 af (dV 0) (dC (.int 0))) (aa (dV 1) (aa (dV 2) ae))))) (dB (aj zZ (aa (d2 af (dV 0) (dC (.int 1))) (aa (dV 1) (aa (dV 2) ae)))))) (dV 0)))
  (ag (au (aT (dB (aj xo (aa (dV 2) (aa (dV 3) ae))))) (yM (ax (aa (dV 3) (aa (dV 2) ae))) (gT 2 (aG (gN 2) (aG (gN 3) bJ)))) aO)
  (ag (cm 4 (aB [5] (iL (dV 4)) (gN 5) Mm)) (aC (d2 cI (dV 2) (dV 3))))))) [.fz (eS f),.fz (.list (L.map eS)),.un,.un,.un,.un]).bind cD=_
 have ef:eS f=.tuple [eQ f.1,eQ f.2]:=rfl;rw[zv (ρ':=mG (eS f) (.list (L.map eS)) f.1 f.2 .un) (by dsimp! [yM,ef])]
 have cp:ao 1 [2,3] (iL (dV 1)) (gN 0) (bM (dB (aj zZ (aa (d2 af (dV 0) (dC (.int 0))) (aa (dV 1) (aa (dV 2) ae))))) (dB (aj zZ (aa (d2 af (dV 0) (dC (.int 1))) (aa (dV 1) (aa (dV 2) ae)))))) (dV 0) (mG (eS f) (.list (L.map eS)) f.1 f.2 .un)=some (.list ((L.filter λg=>bS f g.1&&bS f g.2).map eS)):=by
  dsimp! []
  rw[wk (e:=eS) (h:=eS) (c:=λg=>bS f g.1&&bS f g.2) λg hg=>by
   have o1:=o (hL g hg).1;have o2:=o (hL g hg).2
   cases c1:bS f g.1 with
   |false=>rw[c1] at o1;dsimp! [zJ,o1,c1,At]
   |true=>
    rw[c1] at o1
    cases c2:bS f g.2 with
    |false=>rw[c2] at o2;dsimp! [zJ,zU,o1,o2,c1,c2,Dy]
    |true=>rw[c2] at o2;dsimp! [zJ,zU,o1,o2,c1,c2,AZ]]
  rfl
 generalize L.filter (λg=>bS f g.1&&bS f g.2)=K at*;rw[zv (ρ':=mG (eS f) (.list (L.map eS)) f.1 f.2 (.ow false 1 (.list (K.map eS)))) (by rw[jB,cp];rfl)]
 have sw:au (aT (dB (aj xo (aa (dV 2) (aa (dV 3) ae))))) (yM (ax (aa (dV 3) (aa (dV 2) ae))) (gT 2 (aG (gN 2) (aG (gN 3) bJ)))) aO (mG (eS f) (.list (L.map eS)) f.1 f.2 (.ow false 1 (.list (K.map eS))))=some (.nx (mG (eS f) (.list (L.map eS)) (zd f).1 (zd f).2 (.ow false 1 (.list (K.map eS))))):=by
  unfold zd
  cases c:bq f.1 f.2 with
  |true=>rw[c] at bf;dsimp! [bf]
  |false=>rw[c] at bf;dsimp! [yM,bf]
 rw[zv sw,qC];have lp:cm 4 (aB [5] (iL (dV 4)) (gN 5) Mm) (mG (eS f) (.list (L.map eS)) (zd f).1 (zd f).2 (.ow false 1 (.list (K.map eS))))=some (.nx (mG (eS f) (.list (L.map eS)) (zd f).2 (zd f).2 (.fz (.list (K.map eS))))):=by
  show zw (gN 5) Mm [5] (K.map eS) (mG (eS f) (.list (L.map eS)) (zd f).1 (zd f).2 (.fz (.list (K.map eS))))=_
  exact ZG h
 rw[lp]
 dsimp! [yA,decide_true]
end Nu
end
section
variable{X Y:List (Q3×Q3)}
namespace Nu
def XE{k:Nat}(h:k<X.length):(X++Y).getD k zQ=X.getD k zQ:=by
 rw[kE,QH h,<-kE]
theorem Vh{k:Nat}:(X++Y).getD (X.length+k) zQ=Y.getD k zQ:=by
 rw[kE,uJ (by lia),Nat.add_sub_cancel_left,<-kE]
def Zg{sel:Nat->Bool}(φ:Q3×Q3->Bool):ar ((kN (X++Y).length).map λk=>sel k&&φ ((X++Y).getD k zQ))=(ar ((kN X.length).map λk=>sel k&&φ (X.getD k zQ))^^ar ((kN Y.length).map λk=>sel (X.length+k)&&φ (Y.getD k zQ))):=by
 rw[kb,List.range_add,pD,zbv,uE]
 congr 1
 ·exact zY λk hk=>by rw[XE (kn.mp hk)]
 ·exact zY λk _=>by show(sel (X.length+k)&&φ ((X++Y).getD (X.length+k) zQ))=_;rw[Vh]
theorem O8{r:List Q3}(h:X.Perm ((aI r).map zd)):OW (X++Y) (λk=>decide (k<X.length)) r:=by
 refine⟨λφ=>?_,λk hk hs=>?_,λs hs=>?_⟩
 ·have z:ar ((kN Y.length).map λk=>decide (X.length+k<X.length)&&φ (Y.getD k zQ))=false:=vH λk _=>by rw[ι (by lia)];rfl
  rw[Zg,Zk λj hj=>ζ hj,z,BL,Zx (h.map φ),uE];rfl
 ·have hk:=ξ hs;have m:X.getD k zQ∈X:=zg hk;obtain⟨s,hs,e⟩:=ki.mp (h.mem_iff.mp m);exact⟨s,hs,by rw[XE hk];exact e⟩
 ·obtain⟨k,hk,e⟩:=wA (h.mem_iff.mpr (ki.mpr ⟨s,hs,rfl⟩));exact⟨k,by rw[kb];lia,ζ hk,by rw[XE hk,e]⟩
theorem O9{r:List Q3}(h:Y.Perm ((aI r).map zd)):OW (X++Y) (λk=> !decide (k<X.length)) r:=by
 refine⟨λφ=>?_,λk hk hs=>?_,λs hs=>?_⟩
 ·have z:ar ((kN X.length).map λk=> !decide (k<X.length)&&φ (X.getD k zQ))=false:=vH λk hk=>by rw[ζ (kn.mp hk)];rfl
  rw[Zg,z,BG,Zk λj _=>by rw[ι (by lia)];rfl,Zx (h.map φ),uE];rfl
 ·have hs:¬k<X.length:=λz=>by rw[ζ z] at hs;cases hs
  rw[kb] at hk;have m:Y.getD (k-X.length) zQ∈Y:=zg (by lia)
  obtain⟨s,LL,e⟩:=ki.mp (h.mem_iff.mp m);have:=Vh (X:=X) (Y:=Y) (k:=k-X.length);rw[show X.length+(k-X.length)=k by lia] at this
  exact⟨s,LL,by rw[this];exact e⟩
 ·obtain⟨k,hk,e⟩:=wA (h.mem_iff.mpr (ki.mpr ⟨s,hs,rfl⟩));exact⟨X.length+k,by rw[kb];lia,by rw[ι (by lia)];rfl,by rw[Vh,e]⟩
def sV(one aq:List Q3)(f:Q3×Q3):Dt:=.tuple [eS f,.bool (bL one f 1),.bool (bL one f (-1)),.bool (bL aq f 1),.bool (bL aq f (-1))]
theorem W5{one aq:List Q3}(c1:bX one)(c2:bX aq)(q1:∀p∈one,PQ 80 p)(q2:∀p∈aq,PQ 80 p){l1 l2:List (Q3×Q3)}(p1:l1.Perm (aI one))(p2:l2.Perm (aI aq)):Fc 80 (l1++l2)/\(l1++l2).length<=8/\∃fs ps g,wg [.list (l1.map eS),.list (l2.map eS)]=some (.list (fs.map (sV one aq)))/\zr 80 ((l1++l2).map zd) ps g/\lg fs/\(∀f,f∈fs↔bT ((l1++l2).map zd) ps f)/\fs.length<=1300000:=by
 have fc:Fc 80 (l1++l2):=λf hf=>by
  rcases pC.mp hf with m|m
  ·obtain⟨a,b,c⟩:=vj c1 (p1.mem_iff.mp m);exact⟨q1 _ a,q1 _ b,c⟩
  ·obtain⟨a,b,c⟩:=vj c2 (p2.mem_iff.mp m);exact⟨q2 _ a,q2 _ b,c⟩
 have ln:(l1++l2).length<=8:=by
  have:=xL c1;have:=xL c2;rw[kb,p1.length_eq,p2.length_eq];lia
 have tw:Mi ((l1++l2).map zd) one aq:=λs=>by
  rw[List.mem_map]
  constructor
  ·rintro⟨a,m,e⟩;exact⟨a,(pC.mp m).imp (p1.mem_iff.mp ·) (p2.mem_iff.mp ·),e⟩
  ·rintro⟨a,m,e⟩;exact⟨a,List.mem_append.mpr (m.imp (p1.mem_iff.mpr ·) (p2.mem_iff.mpr ·)),e⟩
 obtain⟨d,e,fs,ps,g,rfl,T,up,hf,lf⟩:=ZZ (n:=80) (by decide) fc (by lia) (sJ c1 c2 q1 q2 tw fc.ss)
 refine⟨fc,ln,fs,ps,g,?_,T,up,hf,lf⟩;rw[e];have ss:(l1++l2).map zd=l1.map zd++l2.map zd:=pD;have S1:OW ((l1++l2).map zd) (λk=>decide (k<l1.length)) one:=by
  rw[ss];have:=O8 (Y:=l2.map zd) (p1.map zd);rw[kJ] at this;exact this
 have S2:OW ((l1++l2).map zd) (λk=> !decide (k<l1.length)) aq:=by
  rw[ss];have:=O9 (X:=l1.map zd) (p2.map zd);rw[kJ] at this;exact this
 have mg:∀j,j<fs.length->(yl l1.length ((l1++l2).map zd) fs).getD j 0=xc l1.length (zH ((l1++l2).map zd) (fs.getD j zQ)):=λj hj=>by
  unfold yl;rw[kE,kY,kC hj,kE,kC hj];rfl
 have H1:∀i,i<fs.length->_:=λi hi=>JE T up hf c1 S1 (ms:=yl l1.length ((l1++l2).map zd) fs) (b:=0) (λj hj=>by rw[mg j hj,(Js _ _).1];exact ω.mpr (by simp only[decide_eq_true_eq])) hi
 have H2:∀i,i<fs.length->_:=λi hi=>JE T up hf c2 S2 (ms:=yl l1.length ((l1++l2).map zd) fs) (b:=1) (λj hj=>by rw[mg j hj,(Js _ _).2];exact ω.mpr (by simp only[UL,decide_eq_false_iff_not])) hi
 congr 2
 refine Eq.trans (QS λi hi=>?_) ((uE (f:=λk=>fs.getD k zQ) (g:=sV one aq)).symm.trans (by rw[Vf]))
 have hi:=kn.mp hi;show Ra _ _=sV one aq (fs.getD i zQ);unfold Ra sV;rw[(H1 i hi).1,(H1 i hi).2,(H2 i hi).1,(H2 i hi).2]
end Nu
end
variable{xs:List (Q3×Q3)}{c:Q3×Q3->Bool}
namespace Nu
def TX:En->Option Ou:=au (cb (aT (dB (d1 (yg "tuple") (dV 8)))) (cb (dB (d2 yb (aj zu (aa (dV 8) ae)) (dC (.int 5)))) (aT (dB (aj Yh (aa (d2 af (dV 8) (dC (.int 0))) ae)))))) (aC (dC (.bool false))) aO
def TY:En->Option Ou:=au (aT (dB (aj xo (aa (d2 af (d2 af (dV 8) (dC (.int 0))) (dC (.int 0))) (aa (d2 af (d2 af (dV 8) (dC (.int 0))) (dC (.int 1))) ae))))) (aC (dC (.bool false))) aO
def TZ:En->Option Ou:=au (bM (dB (d2 bZ (aA 7) (aK ae))) (aT (dB (aj wQ (aa (d2 af (aA 7) (d1 yC (dC (.int 1)))) (aa (d2 af (dV 8) (dC (.int 0))) ae)))))) (aC (dC (.bool false))) aO
def T0:En->Option Ou:=aU 9 (aK (aa (aj wf (aa (dV 1) (aa (d2 af (dV 8) (dC (.int 0))) (aa (dC (.int 1)) ae)))) (aa (aj wf (aa (dV 1) (aa (d2 af (dV 8) (dC (.int 0))) (aa (d1 yC (dC (.int 1))) ae)))) ae)))
def T1:En->Option Ou:=aU 9 (d2 zR (aA 9) (aK (aa (aj wf (aa (dV 2) (aa (d2 af (dV 8) (dC (.int 0))) (aa (dC (.int 1)) ae)))) (aa (aj wf (aa (dV 2) (aa (d2 af (dV 8) (dC (.int 0))) (aa (d1 yC (dC (.int 1))) ae)))) ae))))
def T3:En->Option Ou:=au (cb (aT (dB (aj y6 (aa (ao 1 [] (iT (d2 xT (dV 8) (dC (.int 1)))) (gN 0) aD (d1 (yg "bool") (dV 0))) ae)))) (dB (d2 bZ (aj yv (aa (d2 xT (dV 8) (dC (.int 1))) ae)) (aA 9)))) (aC (dC (.bool false))) aO
def lA:En->Option Ou:=ag TX (ag TY (ag TZ (ag (iw 7 (d2 af (dV 8) (dC (.int 0)))) (ag T0 (ag T1 T3)))))
def lB:En->Option Ou:=ag (au (cb (aT (dB (aj jH (aa (d2 af (dV 11) (dC (.int 0))) (aa (dV 10) ae))))) (aT (dB (aj jH (aa (d2 af (dV 11) (dC (.int 1))) (aa (dV 10) ae)))))) (aC (dC (.bool false))) aO)
  (au (aT (dB (aj wH (aa (ao 2 [11] (iL (dV 10)) (gT 2 (aG (gN 0) (aG (gN 1) bJ))) aD (fi (aj zZ (aa (d2 af (dV 2) (dC (.int 0))) (aa (dV 0) (aa (dV 1) ae)))) (aj zZ (aa (d2 af (dV 2) (dC (.int 1))) (aa (dV 0) (aa (dV 1) ae)))))) ae)))) (aC (dC (.bool false))) aO)
abbrev bc(x one aq lands:Dt)(s4 s5 s6 s7 s8 s9 cO ci s12:Sl):En:=[.fz x,.fz one,.fz aq,.ow false 1 lands,s4,s5,s6,s7,s8,s9,cO,ci,s12]
def ix5(a b c d e:Dt):af (.tuple [a,b,c,d,e]) (.int 0)=some a:=rfl
theorem Lm{α:Type}{f:α->Dt}(s:List α)(g:α):af (.list ((s++[g]).map f)) (.int (-1))=some (f g):=by
 show C8 ((s++[g]).map f) (-1)=_
 unfold C8 ixN;rw[kJ,kb,uh,η (by decide),θ (by lia)]
 show((s++[g]).map f)[(((s.length+1:Nat):Int)+ -1).toNat]?=_
 rw[show(((s.length+1:Nat):Int)+ -1).toNat=s.length by lia,kY,uJ (pL _),DW];rfl
section
variable{x:Dt}{one aq:List Q3}(c1:bX one)(c2:bX aq)(q1:∀p∈one,PQ 323 p)(q2:∀p∈aq,PQ 323 p){lands:Dt}{s4 s5 s6 cO ci s12:Sl}
include c1 c2 q1 q2
theorem sW{f:Q3×Q3}(f1:PQ 323 f.1)(f2:PQ 323 f.2)(b:bq f.1 f.2=true){s:List (Q3×Q3)}(hs:∀g∈s,PQ 323 g.1/\PQ 323 g.2)(h:s=[]\/∃s0 g,s=s0++[g]/\mX g f=true)(hl:s.length<8000000):
  ((gN 8 (sV one aq f) (bc x (.list (one.map eQ)) (.list (aq.map eQ)) lands s4 s5 s6 (.ow false 1 (.list (s.map eS))) .un .un cO ci s12)).bind lA).bind (ic [8,9])=some (bc x (.list (one.map eQ)) (.list (aq.map eQ)) lands s4 s5 s6 (.ow false 1 (.list ((s++[f]).map eS))) .un .un cO ci s12):=by
 have sq:∀{p},PQ 323 p->SQ p:=λh=>SQ.of h (by decide)
 have h1:=qY (n:=323) (by decide) c1 q1 f1 f2 (w:=1) (by decide)
 have h2:=qY (n:=323) (by decide) c1 q1 f1 f2 (w:= -1) (by decide)
 have h3:=qY (n:=323) (by decide) c2 q2 f1 f2 (w:=1) (by decide)
 have h4:=qY (n:=323) (by decide) c2 q2 f1 f2 (w:= -1) (by decide)
 have bf:=jk (sq f1) (sq f2);rw[b] at bf;have pt:=zbl f;have er:sV one aq f=.tuple [eS f,.bool (bL one f 1),.bool (bL one f (-1)),.bool (bL aq f 1),.bool (bL aq f (-1))]:=rfl;rw[er];generalize Dt.list (one.map eQ)=L1 at*;generalize Dt.list (aq.map eQ)=L2 at*;generalize bL one f 1=y1 at*;generalize bL one f (-1)=y2 at*;generalize bL aq f 1=y3 at*;generalize bL aq f (-1)=y4 at*;have ir:=ix5 (eS f) (.bool y1) (.bool y2) (.bool y3) (.bool y4);have it:yg "tuple" (.tuple [eS f,.bool y1,.bool y2,.bool y3,.bool y4])=some (.bool true):=rfl;have l5:zu [.tuple [eS f,.bool y1,.bool y2,.bool y3,.bool y4]]=some (.int 5):=rfl;have tl:xT (.tuple [eS f,.bool y1,.bool y2,.bool y3,.bool y4]) (.int 1)=some (.tuple [.bool y1,.bool y2,.bool y3,.bool y4]):=rfl;generalize Dt.tuple [eS f,.bool y1,.bool y2,.bool y3,.bool y4]=row at*;have a1:∀s9,TX (bc x L1 L2 lands s4 s5 s6 (.ow false 1 (.list (s.map eS))) (.fz row) s9 cO ci s12)=some (.nx (bc x L1 L2 lands s4 s5 s6 (.ow false 1 (.list (s.map eS))) (.fz row) s9 cO ci s12)):=λs9=>by
  unfold TX
  dsimp! [it,l5,ir,pt,yG,decide_true]
 have a2:∀s9,TY (bc x L1 L2 lands s4 s5 s6 (.ow false 1 (.list (s.map eS))) (.fz row) s9 cO ci s12)=some (.nx (bc x L1 L2 lands s4 s5 s6 (.ow false 1 (.list (s.map eS))) (.fz row) s9 cO ci s12)):=λs9=>by
  unfold TY
  dsimp! [ir,zJ,zU,bf]
 have a3:∀s9,TZ (bc x L1 L2 lands s4 s5 s6 (.ow false 1 (.list (s.map eS))) (.fz row) s9 cO ci s12)=some (.nx (bc x L1 L2 lands s4 s5 s6 (.ow false 1 (.list (s.map eS))) (.fz row) s9 cO ci s12)):=λs9=>by
  have nn:=Ll (ds:=s.map eS) λd hd=>by
   obtain⟨g,_,rfl⟩:=ki.mp hd;exact qS (XF g) (by decide)
  unfold TZ;rcases h with rfl|⟨s0,g,rfl,ha⟩
  ·have nn:bZ (.list []) (.list [])=some (.bool false):=nn
   dsimp! [nn]
  ·have nn:bZ (.list ((s0++[g]).map eS)) (.list [])=some (.bool true):=by
    rw[nn];cases s0<;>rfl
   have il:=Lm (f:=eS) s0 g;obtain⟨g1,g2⟩:=hs g (by simp)
   have ah:=Za (f:=g) (g:=f) ⟨sq g1,sq g2⟩ ⟨sq f1,sq f2⟩;rw[ha] at ah;generalize Dt.list ((s0++[g]).map eS)=ll at*
   dsimp! [nn,wV,il,ir,ah]
 have a4:∀s9,iw 7 (d2 af (dV 8) (dC (.int 0))) (bc x L1 L2 lands s4 s5 s6 (.ow false 1 (.list (s.map eS))) (.fz row) s9 cO ci s12)=some (.nx (bc x L1 L2 lands s4 s5 s6 (.ow false 1 (.list ((s++[f]).map eS))) (.fz row) s9 cO ci s12)):=λs9=>by
  have ls:(s.map eS).length<ψ:=by rw[kJ];exact Qg hl (xj (pL _))
  dsimp! [ir,θ ls]
  rw[pD];rfl
 generalize Sl.ow false 1 (.list ((s++[f]).map eS))=s7 at*;have a5:T0 (bc x L1 L2 lands s4 s5 s6 s7 (.fz row) .un cO ci s12)=some (.nx (bc x L1 L2 lands s4 s5 s6 s7 (.fz row) (.ow false 1 (.list [.bool y1,.bool y2])) cO ci s12)):=by
  unfold T0
  dsimp! [ir,wV,h1,h2]
 have kc:zR (.list [.bool y1,.bool y2]) (.list [.bool y3,.bool y4])=some (.list [.bool y1,.bool y2,.bool y3,.bool y4]):=B5 _ _ (by show 4<=ψ;decide)
 have a6:T1 (bc x L1 L2 lands s4 s5 s6 s7 (.fz row) (.ow false 1 (.list [.bool y1,.bool y2])) cO ci s12)=some (.nx (bc x L1 L2 lands s4 s5 s6 s7 (.fz row) (.ow false 1 (.list [.bool y1,.bool y2,.bool y3,.bool y4])) cO ci s12)):=by
  unfold T1
  dsimp! [ir,wV,h3,h4,kc]
 have a7:T3 (bc x L1 L2 lands s4 s5 s6 s7 (.fz row) (.ow false 1 (.list [.bool y1,.bool y2,.bool y3,.bool y4])) cO ci s12)=some (.nx (bc x L1 L2 lands s4 s5 s6 s7 (.fz row) (.ow false 1 (.list [.bool y1,.bool y2,.bool y3,.bool y4])) cO ci s12)):=by
  have e1:aj y6 (aa (ao 1 [] (iT (d2 xT (dV 8) (dC (.int 1)))) (gN 0) aD (d1 (yg "bool") (dV 0))) ae) (bc x L1 L2 lands s4 s5 s6 s7 (.fz row) (.ow false 1 (.list [.bool y1,.bool y2,.bool y3,.bool y4])) cO ci s12)=some (.bool true):=by
   have:iT (d2 xT (dV 8) (dC (.int 1))) (bc x L1 L2 lands s4 s5 s6 s7 (.fz row) (.ow false 1 (.list [.bool y1,.bool y2,.bool y3,.bool y4])) cO ci s12)=some [.bool y1,.bool y2,.bool y3,.bool y4]:=by dsimp! [tl]
   unfold aj aa ao;rw[this];rfl
  have kl:yv [.tuple [.bool y1,.bool y2,.bool y3,.bool y4]]=some (.list [.bool y1,.bool y2,.bool y3,.bool y4]):=rfl;have ns:=WR (d:=.list [.bool y1,.bool y2,.bool y3,.bool y4]) (qS (vm (k:=0) λd hd=>by
   simp only[kT,pe,or_false] at hd;rcases hd with rfl|rfl|rfl|rfl<;>exact C4 _) (by decide))
  unfold T3;generalize aj y6 _=ff at e1⊢
  dsimp! [e1,tl,kl,ns]
 show(lA (bc x L1 L2 lands s4 s5 s6 (.ow false 1 (.list (s.map eS))) (.fz row) .un cO ci s12)).bind (ic [8,9])=_
 unfold lA;rw[zv (a1 _),zv (a2 _),zv (a3 _),zv (a4 _),zv a5,zv a6,a7];rfl
end
def Pa:y6 [.list (xs.map λf=>.bool (c f))]=some (.bool (xs.all c)):=by
 have:zn fP (xs.map λf=>Dt.bool (c f))=some (xs.map c):=yX λ_ _=>rfl;show(zn fP _).bind _=_;rw[this,kG,HH];rfl
def Pb:wH [.list (xs.map λf=>.bool (c f))]=some (.bool (xs.any c)):=by
 have:zn fP (xs.map λf=>Dt.bool (c f))=some (xs.map c):=yX λ_ _=>rfl;show(zn fP _).bind _=_;rw[this,kG,List.any_map];rfl
section
variable{x L1 L2 lands:Dt}{s4 s5 s6 s7 s12:Sl}
theorem sX{fs:List (Q3×Q3)}(hf:Fq 323 fs)(hl:fs.length<100){f:Q3×Q3}(f1:PQ 323 f.1)(f2:PQ 323 f.2)
  (k1:(∃t∈fs,f.1=t.1\/f.1=t.2)\/∃t∈fs,∃g∈fs,bS t f.1=true/\bS g f.1=true/\¬(dt t.1 t.2 g.1=0/\dt t.1 t.2 g.2=0))
  (k2:(∃t∈fs,f.2=t.1\/f.2=t.2)\/∃t∈fs,∃g∈fs,bS t f.2=true/\bS g f.2=true/\¬(dt t.1 t.2 g.1=0/\dt t.1 t.2 g.2=0))
  (k3:∃t∈fs,bS t f.1=true/\bS t f.2=true):
  ∃bA,(gN 11 (eS f) (bc x L1 L2 lands s4 s5 s6 s7 .un .un (.fz (.list (fs.map eS))) .un s12)).bind lB=some (if true=true then .nx bA else .rt (.bool false) bA)/\fgt [11] bA=bc x L1 L2 lands s4 s5 s6 s7 .un .un (.fz (.list (fs.map eS))) .un s12:=by
 have e1:=JI (n:=323) (by decide) f1 hf hl k1
 have e2:=JI (n:=323) (by decide) f2 hf hl k2
 refine⟨bc x L1 L2 lands s4 s5 s6 s7 .un .un (.fz (.list (fs.map eS))) (.fz (eS f)) s12,?_,rfl⟩;have e3:aj wH (aa (ao 2 [11] (iL (dV 10)) (gT 2 (aG (gN 0) (aG (gN 1) bJ))) aD (fi (aj zZ (aa (d2 af (dV 2) (dC (.int 0))) (aa (dV 0) (aa (dV 1) ae)))) (aj zZ (aa (d2 af (dV 2) (dC (.int 1))) (aa (dV 0) (aa (dV 1) ae)))))) ae) (bc x L1 L2 lands s4 s5 s6 s7 .un .un (.fz (.list (fs.map eS))) (.fz (eS f)) s12)=some (.bool true):=by
  dsimp! []
  rw[zW (e:=eS) (h:=λt=>.bool (bS t f.1&&bS t f.2)) λt ht=>by
   obtain⟨t1,t2,t3⟩:=hf t ht;have o1:zZ [eQ f.1,eQ t.1,eQ t.2]=some (.bool (bS t f.1)):=Y7 (n:=323) (by decide) t1 t2 f1 t3
   have o2:zZ [eQ f.2,eQ t.1,eQ t.2]=some (.bool (bS t f.2)):=Y7 (n:=323) (by decide) t1 t2 f2 t3
   have et:eS t=.tuple [eQ t.1,eQ t.2]:=rfl
   cases c1:bS t f.1 with
   |false=>rw[c1] at o1;dsimp! [et,zJ,o1,c1,At]
   |true=>rw[c1] at o1;dsimp! [et,zJ,zU,o1,o2,c1,Qn]]
  dsimp! [Pb]
  obtain⟨t,ht,z1,z2⟩:=k3;rw[Uu.mpr ⟨t,ht,by rw[z1,z2];rfl⟩]
 show lB (bc x L1 L2 lands s4 s5 s6 s7 .un .un (.fz (.list (fs.map eS))) (.fz (eS f)) s12)=_
 unfold lB;generalize aj wH _=ff at e3⊢;rw[zv (ρ':=bc x L1 L2 lands s4 s5 s6 s7 .un .un (.fz (.list (fs.map eS))) (.fz (eS f)) s12) (by dsimp! [zJ,zU,e1,e2])]
 dsimp! [e3]
end
def Pc(FT FB FM TH:List Dt->Option Dt):En->Option Ou:=(ag (yM (aj FT (aa (dV 0) ae)) (gT 2 (aG (gN 1) (aG (gN 2) bJ))))
  (ag (aU 3 (aK (aa (aj FB (aa (dV 1) ae)) (aa (aj FB (aa (dV 2) ae)) ae))))
  (ag (qD 4 (aa (aj yv (aa (d2 af (aA 3) (dC (.int 0))) ae)) (aa (aj yv (aa (d2 af (aA 3) (dC (.int 1))) ae)) ae)))
  (ag (aU 5 (aj FM (aa (bw 4 (dC (.int 0))) (aa (bw 4 (dC (.int 1))) ae))))
  (ag (au (aT (dB (d1 (yg "list") (aA 5)))) (aC (dC (.bool false))) aO)
  (ag (aU 6 (aj yv (aa (aA 5) ae)))
  (ag (tV (aj FM (aa (bw 4 (dC (.int 1))) (aa (bw 4 (dC (.int 0))) ae))))
  (ag (iw 5 (dC (.int 1)))
  (ag (aU 5 (aj FM (aa (bw 4 (dC (.int 0))) (aa (bw 4 (dC (.int 1))) ae))))
  (ag (au (cb (aT (dB (d1 (yg "list") (aA 5)))) (cb (dB (d2 bZ (aA 5) (aA 6))) (dB (jp 4 (aA 3))))) (aC (dC (.bool false))) aO)
  (ag (aU 7 (aK ae))
  (ag (cm 5 (aB [8,9] (iL (dV 5)) (gN 8) lA))
  (ag (ak 10 (d2 zR (d2 af (aA 3) (dC (.int 0))) (d2 af (aA 3) (dC (.int 1)))))
  (ag (cm 7 (aB [11] (iL (dV 7)) (gN 11) lB))
  (ag (aU 12 (aj yv (aa (dV 5) ae)))
  (ag (tV (aj FM (aa (bw 4 (dC (.int 1))) (aa (bw 4 (dC (.int 1))) ae))))
  (ag (jv 4 (dC (.int 0)) (d2 af (bw 4 (dC (.int 0))) (dC (.int 0))))
  (ag (au (cb (dB (d2 bZ (dV 5) (aA 12))) (dB (d2 bZ (aj FM (aa (d2 af (aA 3) (dC (.int 0))) (aa (bw 4 (dC (.int 1))) ae))) (aA 6)))) (aC (dC (.bool false))) aO)
  (aC (aj y6 (aa (ao 1 [7] (iL (dV 10)) (gN 0) aD (aj TH (aa (dV 0) (aa (dV 1) ae)))) ae)))))))))))))))))))))
def Ln{FT FB FM TH:List Dt->Option Dt}{ns:List Int}{X1 X2 d0:Dt}{A1 A2 A3 A4 D bs M1 M2:List Dt}(tw:FT [.scr ns]=some (.tuple [X1,X2]))(LV:FB [X1]=some (.list A1))(T4:FB [X2]=some (.list A2))(Pd:FM [.list A1,.list A2]=some (.list D))(T5:FM [.list A2,.list A1]=some (.list M1))(T6:FM [.list A2,.list A2]=some (.list M2))
  (Rh:bZ (.list D) (.list D)=some (.bool false))(T7:bZ (.list [.list A1,.list A2]) (.list [.list A1,.list A2])=some (.bool false))(lD:D.length<ψ)(ll:A1.length<ψ)(i0:af (.list A1) (.int 0)=some d0)(kc:zR (.list A1) (.list A2)=some (.list A3))
  (LA:∀s4 s5 s6,zw (gN 8) lA [8,9] D (bc (.scr ns) X1 X2 (.list [.list A1,.list A2]) s4 s5 s6 (.ow false 1 (.list [])) .un .un .un .un .un)=some (.nx (bc (.scr ns) X1 X2 (.list [.list A1,.list A2]) s4 s5 s6 (.ow false 1 (.list A4)) .un .un .un .un .un)))
  (LB:∀s4 s5 s6,zw (gN 11) lB [11] A4 (bc (.scr ns) X1 X2 (.list [.list A1,.list A2]) s4 s5 s6 (.fz (.list A4)) .un .un (.fz (.list A3)) .un .un)=some (.nx (bc (.scr ns) X1 X2 (.list [.list A1,.list A2]) s4 s5 s6 (.fz (.list A4)) .un .un (.fz (.list A3)) .un .un)))
  (LC:xG (λd=>(TH [d,.list A4]).bind λy=>some (some y)) A3=some bs)(a1:y6 [.list bs]=some (.bool true)):(Pc FT FB FM TH [.fz (.scr ns),.un,.un,.un,.un,.un,.un,.un,.un,.un,.un,.un,.un]).bind cD=some (.bool true):=by
 have x0:af (.list [.list A1,.list A2]) (.int 0)=some (.list A1):=rfl;have x1:af (.list [.list A1,.list A2]) (.int 1)=some (.list A2):=rfl;have k1:∀A:List Dt,yv [.list A]=some (.list A):=λ_=>rfl;have n0:∀(s3:Dt)(s5 s6 s7 s8 s9 cO ci s12:Sl),bw 4 (dC (.int 0)) (bc (.scr ns) X1 X2 s3 (.ow false 2 (.list [.list A1,.list A2])) s5 s6 s7 s8 s9 cO ci s12)=some (.list A1):=λ_ _ _ _ _ _ _ _ _=>rfl;have n1:∀(s3 A:Dt)(s5 s6 s7 s8 s9 cO ci s12:Sl),bw 4 (dC (.int 1)) (bc (.scr ns) X1 X2 s3 (.ow false 2 (.list [A,.list A2])) s5 s6 s7 s8 s9 cO ci s12)=some (.list A2):=λ_ _ _ _ _ _ _ _ _ _=>rfl;unfold Pc;generalize bw 4 (dC (.int 0))=j0 at*;generalize bw 4 (dC (.int 1))=j1 at*;rw[zv (ρ':=[.fz (.scr ns),.fz X1,.fz X2,.un,.un,.un,.un,.un,.un,.un,.un,.un,.un]) (by dsimp! [yM,tw])]
 have s2:aU 3 (aK (aa (aj FB (aa (dV 1) ae)) (aa (aj FB (aa (dV 2) ae)) ae))) [.fz (.scr ns),.fz X1,.fz X2,.un,.un,.un,.un,.un,.un,.un,.un,.un,.un]=some (.nx (bc (.scr ns) X1 X2 (.list [.list A1,.list A2]) .un .un .un .un .un .un .un .un .un)):=by
  have a:aj FB (aa (dV 1) ae) [.fz (.scr ns),.fz X1,.fz X2,.un,.un,.un,.un,.un,.un,.un,.un,.un,.un]=some (.list A1):=LV;have b:aj FB (aa (dV 2) ae) [.fz (.scr ns),.fz X1,.fz X2,.un,.un,.un,.un,.un,.un,.un,.un,.un,.un]=some (.list A2):=T4;have c:aa (aj FB (aa (dV 1) ae)) (aa (aj FB (aa (dV 2) ae)) ae) [.fz (.scr ns),.fz X1,.fz X2,.un,.un,.un,.un,.un,.un,.un,.un,.un,.un]=some [.list A1,.list A2]:=by
   generalize aj FB (aa (dV 1) ae)=f1 at a⊢;generalize aj FB (aa (dV 2) ae)=f2 at b⊢;unfold aa ae;rw[a,b];rfl
  rw[jB];unfold aK;rw[c,kG,θ (show[Dt.list A1,.list A2].length<=ψ from xj (by show 2<=8000000;decide))]
  rfl
 rw[zv s2];rw[zv (ρ':=bc (.scr ns) X1 X2 (.list [.list A1,.list A2]) (.ow false 2 (.list [.list A1,.list A2])) .un .un .un .un .un .un .un .un) (by dsimp! [qD,x0,x1,k1])]
 rw[zv (ρ':=bc (.scr ns) X1 X2 (.list [.list A1,.list A2]) (.ow false 2 (.list [.list A1,.list A2])) (.ow false 1 (.list D)) .un .un .un .un .un .un .un) (by rw[jB];simp only[aj,aa,ae,n0,n1,kG,Pd];rfl)]
 rw[zv (ρ':=bc (.scr ns) X1 X2 (.list [.list A1,.list A2]) (.ow false 2 (.list [.list A1,.list A2])) (.ow false 1 (.list D)) .un .un .un .un .un .un .un) (by rfl)]
 rw[zv (ρ':=bc (.scr ns) X1 X2 (.list [.list A1,.list A2]) (.ow false 2 (.list [.list A1,.list A2])) (.ow false 1 (.list D)) (.ow false 1 (.list D)) .un .un .un .un .un .un) (by rfl)]
 rw[zv (ρ':=bc (.scr ns) X1 X2 (.list [.list A1,.list A2]) (.ow false 2 (.list [.list A1,.list A2])) (.ow false 1 (.list D)) (.ow false 1 (.list D)) .un .un .un .un .un .un) (by unfold tV;simp only[aj,aa,ae,n0,n1,kG,T5])]
 rw[zv (ρ':=bc (.scr ns) X1 X2 (.list [.list A1,.list A2]) (.ow false 2 (.list [.list A1,.list A2])) (.ow false 1 (.list (D++[.int 1]))) (.ow false 1 (.list D)) .un .un .un .un .un .un) (by dsimp! [θ lD])]
 rw[zv (ρ':=bc (.scr ns) X1 X2 (.list [.list A1,.list A2]) (.ow false 2 (.list [.list A1,.list A2])) (.ow false 1 (.list D)) (.ow false 1 (.list D)) .un .un .un .un .un .un) (by rw[jB];simp only[aj,aa,ae,n0,n1,kG,Pd];rfl)]
 have ck:cb (aT (dB (d1 (yg "list") (aA 5)))) (cb (dB (d2 bZ (aA 5) (aA 6))) (dB (jp 4 (aA 3)))) (bc (.scr ns) X1 X2 (.list [.list A1,.list A2]) (.ow false 2 (.list [.list A1,.list A2])) (.ow false 1 (.list D)) (.ow false 1 (.list D)) .un .un .un .un .un .un)=some false:=by
  have li:yg "list" (.list D)=some (.bool true):=rfl
  dsimp! [jp,as2,li,Rh,T7]
 rw[zv (vJ ck)];rw[zv (ρ':=bc (.scr ns) X1 X2 (.list [.list A1,.list A2]) (.ow false 2 (.list [.list A1,.list A2])) (.ow false 1 (.list D)) (.ow false 1 (.list D)) (.ow false 1 (.list [])) .un .un .un .un .un) (by dsimp! [])]
 have SA:cm 5 (aB [8,9] (iL (dV 5)) (gN 8) lA) (bc (.scr ns) X1 X2 (.list [.list A1,.list A2]) (.ow false 2 (.list [.list A1,.list A2])) (.ow false 1 (.list D)) (.ow false 1 (.list D)) (.ow false 1 (.list [])) .un .un .un .un .un)=some (.nx (bc (.scr ns) X1 X2 (.list [.list A1,.list A2]) (.ow false 2 (.list [.list A1,.list A2])) (.fz (.list D)) (.ow false 1 (.list D)) (.ow false 1 (.list A4)) .un .un .un .un .un)):=LA _ _ _;rw[zv SA];rw[zv (ρ':=bc (.scr ns) X1 X2 (.list [.list A1,.list A2]) (.ow false 2 (.list [.list A1,.list A2])) (.fz (.list D)) (.ow false 1 (.list D)) (.ow false 1 (.list A4)) .un .un (.fz (.list A3)) .un .un) (by dsimp! [x0,x1,kc])]
 have SB:cm 7 (aB [11] (iL (dV 7)) (gN 11) lB) (bc (.scr ns) X1 X2 (.list [.list A1,.list A2]) (.ow false 2 (.list [.list A1,.list A2])) (.fz (.list D)) (.ow false 1 (.list D)) (.ow false 1 (.list A4)) .un .un (.fz (.list A3)) .un .un)=some (.nx (bc (.scr ns) X1 X2 (.list [.list A1,.list A2]) (.ow false 2 (.list [.list A1,.list A2])) (.fz (.list D)) (.ow false 1 (.list D)) (.fz (.list A4)) .un .un (.fz (.list A3)) .un .un)):=LB _ _ _;rw[zv SB];rw[zv (ρ':=bc (.scr ns) X1 X2 (.list [.list A1,.list A2]) (.ow false 2 (.list [.list A1,.list A2])) (.fz (.list D)) (.ow false 1 (.list D)) (.fz (.list A4)) .un .un (.fz (.list A3)) .un (.ow false 1 (.list D))) (by rfl)]
 rw[zv (ρ':=bc (.scr ns) X1 X2 (.list [.list A1,.list A2]) (.ow false 2 (.list [.list A1,.list A2])) (.fz (.list D)) (.ow false 1 (.list D)) (.fz (.list A4)) .un .un (.fz (.list A3)) .un (.ow false 1 (.list D))) (by unfold tV;simp only[aj,aa,ae,n0,n1,kG,T6])]
 have ap:jv 4 (dC (.int 0)) (d2 af j0 (dC (.int 0))) (bc (.scr ns) X1 X2 (.list [.list A1,.list A2]) (.ow false 2 (.list [.list A1,.list A2])) (.fz (.list D)) (.ow false 1 (.list D)) (.fz (.list A4)) .un .un (.fz (.list A3)) .un (.ow false 1 (.list D)))=some (.nx (bc (.scr ns) X1 X2 (.list [.list A1,.list A2]) (.ow false 2 (.list [.list (A1++[d0]),.list A2])) (.fz (.list D)) (.ow false 1 (.list D)) (.fz (.list A4)) .un .un (.fz (.list A3)) .un (.ow false 1 (.list D)))):=by
  have ix:yU (.list [.list A1,.list A2]) (.int 0)=some 0:=rfl;unfold jv d2;simp only[dC,kG,n0,i0,UM,Qh,as2,ix,yx,Pn,θ ll];rfl
 rw[zv ap];have ck2:cb (dB (d2 bZ (dV 5) (aA 12))) (dB (d2 bZ (aj FM (aa (d2 af (aA 3) (dC (.int 0))) (aa j1 ae))) (aA 6))) (bc (.scr ns) X1 X2 (.list [.list A1,.list A2]) (.ow false 2 (.list [.list (A1++[d0]),.list A2])) (.fz (.list D)) (.ow false 1 (.list D)) (.fz (.list A4)) .un .un (.fz (.list A3)) .un (.ow false 1 (.list D)))=some false:=by
  dsimp! [n1,x0,Pd,Rh]
 rw[zv (vJ ck2)]
 dsimp! []
 rw[LC]
 dsimp! [a1]
theorem ev_law31(ns:List Int):F_law31 [.scr ns]=some (.bool true):=by
 obtain⟨one,aq,⟨c1,q1⟩,⟨c2,q2⟩,e2⟩:=Li ns;have sY:∀{p},PQ 80 p->PQ 323 p:=λh=>Pt.mono h (by decide)
 obtain⟨l1,p1,LV⟩:=Zp c1 λp hp=>SQ.of (q1 p hp) (by decide)
 obtain⟨l2,p2,T4⟩:=Zp c2 λp hp=>SQ.of (q2 p hp) (by decide)
 obtain⟨fc,ln,fs,ps,g,Pd,T,up,hf,lz⟩:=W5 c1 c2 q1 q2 p1 p2;obtain⟨_,_,fs',_,_,T5,_⟩:=W5 c2 c1 q2 q1 p2 p1;obtain⟨_,_,fs'',_,_,T6,_⟩:=W5 c2 c2 q2 q2 p2 p2;have fq:Fq 323 (l1++l2):=λf hf=>let⟨a,b,c⟩:=fc f hf;⟨sY a,sY b,c⟩;have T8:∀f∈fs,wD 323 ((l1++l2).map zd) f:=λf h=>(jA T).mp ((hf f).mp h);have pq:∀f∈fs,PQ 323 f.1/\PQ 323 f.2/\bq f.1 f.2=true:=λf h=>by
  obtain⟨s,a,b,c,_⟩:=T8 f h;exact⟨a.pq,b.pq,c⟩
 have Ri:∀{s},s∈(l1++l2).map zd->∃f∈l1++l2,zd f=s:=λh=>ki.mp h;have Pe:∀{P},ql ((l1++l2).map zd) P->(∃t∈l1++l2,P=t.1\/P=t.2)\/∃t∈l1++l2,∃g∈l1++l2,bS t P=true/\bS g P=true/\¬(dt t.1 t.2 g.1=0/\dt t.1 t.2 g.2=0):=λ{P} h=>by
  rcases h with⟨s,hs,z⟩|⟨s,hs,t,ht,o1,o2,c⟩
  ·obtain⟨f,hf,rfl⟩:=Ri hs;refine .inl ⟨f,hf,?_⟩;rcases wt f.1 f.2 with⟨e,_⟩|⟨e,_⟩
   ·rw[show zd f=(f.1,f.2) from e] at z;exact z
   ·rw[show zd f=(f.2,f.1) from e] at z;exact z.symm
  ·obtain⟨a,ha,rfl⟩:=Ri hs;obtain⟨b,hb,rfl⟩:=Ri ht;refine .inr ⟨a,ha,b,hb,o1,o2,λ⟨z1,z2⟩=>c ?_⟩;have z1:=(xN a b.1).mpr z1;have z2:=(xN a b.2).mpr z2;rw[yQ];rcases wt b.1 b.2 with⟨e,_⟩|⟨e,_⟩
   ·rw[show zd b=(b.1,b.2) from e,z1,z2,pY,UH,pY];rfl
   ·rw[show zd b=(b.2,b.1) from e,z1,z2,pY,UH,pY];rfl
 have onP:∀f∈fs,∃t∈l1++l2,bS t f.1=true/\bS t f.2=true:=λf h=>by
  obtain⟨s,a,b,_⟩:=T8 f h;obtain⟨t,ht,rfl⟩:=Ri a.mem;exact⟨t,ht,a.on,b.on⟩
 have thr:∀f∈l1++l2,jq [eS f,.list (fs.map eS)]=some (.bool true):=λf h=>by
  obtain⟨f1,f2,ne⟩:=fq f h;have ms:zd f∈(l1++l2).map zd:=ki.mpr ⟨f,h,rfl⟩;refine zbj (n:=323) (by decide) f1 f2 ne (λg hg=>⟨(pq g hg).1,(pq g hg).2.1⟩) (JD T ms (up.sublist List.filter_sublist) (YY T ms).1 λk=>?_)
  rw[pG,pO,hf k,jA T];exact⟨λ⟨a,b,c⟩=>⟨a,b,c,(zj b).2.1⟩,λ⟨a,b,c,_⟩=>⟨a,b,c⟩⟩
 have Q9:∀l:List (Q3×Q3),fN 4 (.list (l.map eS)):=λl=>vm (k:=3) λd hd=>by
  obtain⟨g,_,rfl⟩:=ki.mp hd;exact qS (XF g) (by decide)
 have plD:fN 64 (.list (fs.map (sV one aq))):=qS (vm (k:=3) λd hd=>by
  obtain⟨g,_,rfl⟩:=ki.mp hd;exact Xd (k:=2) λd hd=>by
   simp only[kT,pe,or_false] at hd
   rcases hd with rfl|rfl|rfl|rfl|rfl<;>first|exact XF _|exact C4 _) (by decide)
 have Rh:=WR plD;have T7:=WR (qS (vm (k:=4) (ds:=[.list (l1.map eS),.list (l2.map eS)]) λd hd=>by
  simp only[kT,pe,or_false] at hd;rcases hd with rfl|rfl<;>exact Q9 _) (by decide):fN 64 (.list [.list (l1.map eS),.list (l2.map eS)]))
 have LA:∀s4 s5 s6,zw (gN 8) lA [8,9] (fs.map (sV one aq)) (bc (.scr ns) (.list (one.map eQ)) (.list (aq.map eQ)) (.list [.list (l1.map eS),.list (l2.map eS)]) s4 s5 s6 (.ow false 1 (.list [])) .un .un .un .un .un)=some (.nx (bc (.scr ns) (.list (one.map eQ)) (.list (aq.map eQ)) (.list [.list (l1.map eS),.list (l2.map eS)]) s4 s5 s6 (.ow false 1 (.list (fs.map eS))) .un .un .un .un .un)):=λs4 s5 s6=>by
  obtain⟨s',e,j⟩:=X5 (σ:=List (Q3×Q3)) (e:=sV one aq) (h:=gN 8) (b:=lA) (fg:=[8,9]) (λs=>bc (.scr ns) (.list (one.map eQ)) (.list (aq.map eQ)) (.list [.list (l1.map eS),.list (l2.map eS)]) s4 s5 s6 (.ow false 1 (.list (s.map eS))) .un .un .un .un .un) (λi s=>s=fs.take i) fs 0 [] (by rw[Uc]) λi f s hi hs=>by
   rw[Br] at hs⊢;subst hs;have li:=(kH.mp hi).1;obtain⟨f1,f2,b⟩:=pq f (kg hi);refine⟨fs.take i++[f],sW c1 c2 (λp hp=>sY (q1 p hp)) (λp hp=>sY (q2 p hp)) f1 f2 b (λg hg=>let z:=pq g (UK hg);⟨z.1,z.2.1⟩) ?_ (by rw[uC];lia),by rw[pP,hi];rfl⟩
   cases i with
   |zero=>exact .inl Uc
   |succ i=>
    refine .inr ⟨fs.take i,fs[i]'(by lia),?_,XO ?_⟩
    ·rw[pP,kC (by lia)];rfl
    ·have ei:f=fs[i+1]'li:=by rw[kC li] at hi;exact(pT hi).symm
     rw[ei];exact pI.mp up i (i+1) (by lia) li (by lia)
  rw[Br] at j;rw[j,uc] at e;exact e
 have LB:∀s4 s5 s6,zw (gN 11) lB [11] (fs.map eS) (bc (.scr ns) (.list (one.map eQ)) (.list (aq.map eQ)) (.list [.list (l1.map eS),.list (l2.map eS)]) s4 s5 s6 (.fz (.list (fs.map eS))) .un .un (.fz (.list ((l1++l2).map eS))) .un .un)=some (.nx (bc (.scr ns) (.list (one.map eQ)) (.list (aq.map eQ)) (.list [.list (l1.map eS),.list (l2.map eS)]) s4 s5 s6 (.fz (.list (fs.map eS))) .un .un (.fz (.list ((l1++l2).map eS))) .un .un)):=λs4 s5 s6=>by
  obtain⟨ρ',e⟩:=Yn (e:=eS) (h:=gN 11) (b:=lB) (fg:=[11]) (c:=λ_=>true) (v:=.bool false) (xs:=fs) λf hf=>by
   obtain⟨f1,f2,_⟩:=pq f hf;obtain⟨s,a,b,_⟩:=T8 f hf;exact sX (x:=.scr ns) (L1:=.list (one.map eQ)) (L2:=.list (aq.map eQ)) (lands:=.list [.list (l1.map eS),.list (l2.map eS)]) (s4:=s4) (s5:=s5) (s6:=s6) (s7:=.fz (.list (fs.map eS))) (s12:=.un) fq (by lia) f1 f2 (Pe a.st) (Pe b.st) (onP f hf)
  rw[e,uS.mpr λ_ _=>rfl];rfl
 have kc:=fI (f:=eS) l1 l2 (by rw[kb] at ln;lia)
 have LC:xG (λd=>(jq [d,.list (fs.map eS)]).bind λy=>some (some y)) ((l1++l2).map eS)=some ((l1++l2).map λf=>.bool true):=zW λf h=>by rw[thr f h];rfl
 have hd:∃f0 l',l1=f0::l':=by
  have:=(xL c1).2;have l3:=p1.length_eq
  cases l1 with
  |nil=>rcases c1 with⟨a,b,c,rfl,_⟩|⟨a,b,c,d,rfl,_⟩<;>simp[aI] at l3
  |cons f0 l'=>exact⟨f0,l',rfl⟩
 have i0:∃d,af (.list (l1.map eS)) (.int 0)=some d:=by
  obtain⟨f0,l',rfl⟩:=hd;exact⟨_,Op (i:=0) rfl⟩
 obtain⟨d0,i0⟩:=i0;have a1:y6 [.list ((l1++l2).map λf=>.bool true)]=some (.bool true):=by
  rw[Pa (c:=λ_=>true),uS.mpr λ_ _=>rfl]
 have ll:(l1.map eS).length<ψ:=by rw[kJ];rw[kb] at ln;exact xd (by lia)
 exact Ln (FT:=qZ) (FB:=jI) (FM:=wg) (TH:=jq) e2 LV T4 Pd T5 T6 Rh T7 (by rw[kJ];exact xd (by lia)) ll i0 kc LA LB LC a1
end Nu
end Mine
namespace Mine
open PySem L2
variable{mg:Str->Option kL}{ps:List Str}{us:List kL}{F:uz}
namespace Nu
def Fd(K:QM)(x:Str)(st:Stmt)(f:Addr)(fd:uz)(cd:kL):Prop:=uT K pZ x=some (some (.ref f))/\eV K x x st f fd cd
def Ld(K:QM)(x:Str)(st:Stmt)(f c p:Addr)(fd:uz):Prop:=Fd K x st f fd (.ref c)/\Fh K c p=true/\Cm K x=some (c,p)/\K.lookup p=none
section
variable{K:QM}{x:Str}{st:Stmt}{f c p:Addr}{oc:kL}{od an:Option Addr}{sl:Array (Option kL)}{kV dc pm cd ct:kL}
def fd_mk(a:uT K pZ x=some (some (.ref f)))(l:K.lookup f=some ⟨oc,od,.func (Uj x x (wq st) (yF st) (ze st) .none kV dc pm an cd ct),sl⟩)(c:CD K cd x=true)(k:Au K (.ref f)=true):Fd K x st f (Uj x x (wq st) (yF st) (ze st) .none kV dc pm an cd ct) cd:=⟨a,VF l c k⟩
def ld_mk{td:Option Addr}{tv:Array kL}{ts:Array (Option kL)}{tc:kL}(a:uT K pZ x=some (some (.ref f)))(l:K.lookup f=some ⟨oc,od,.func (Uj x x (wq st) (yF st) (ze st) .none kV dc pm an (.ref c) ct),sl⟩)(e:CD K (.ref c) x=true)(k:Au K (.ref f)=true)(_:K.lookup c=some ⟨tc,td,.fields tv,ts⟩)(_:tv[11]?=some (.ref p))(h:Fh K c p=true)(t:Cm K x=some (c,p))(n:K.lookup p=none):Ld K x st f c p (Uj x x (wq st) (yF st) (ze st) .none kV dc pm an (.ref c) ct):=⟨⟨a,VF l e k⟩,h,t,n⟩
def Fd.at{h:Heap}{d:uz}(q:Fd K x st f d cd)(X:K.In h)(G:h.Ns pZ mg)(b:∀(kV doc pm:kL)(an:Option Addr)(eW ct:kL)(us:List kL),us.length=ps.length->AT (Uj x x (wq st) (yF st) (ze st) .none kV doc pm an eW ct) ⟨us,[]⟩=pure (ps.zip us)):zh K mg x st ps f d:=⟨⟨_,q.2⟩,q.2.binds b,Cq X G q.1⟩
end
def yO{α:Type}{l:List α}(i:Nat){a:α}(h:l[i]?=some a):a∈l:=kg h
theorem Mn{n:Nat}(h:us.length=n+1):∃x vs,us=x::vs/\vs.length=n:=by
 cases us with
 |nil=>cases h
 |cons x vs=>exact⟨x,vs,rfl,Gq h⟩
def ar1(h:us.length=1)(f:∀x0,AT F ⟨[x0],[]⟩=pure (ps.zip [x0])):AT F ⟨us,[]⟩=pure (ps.zip us):=by
 obtain⟨x0,us,rfl,h0⟩:=Mn h
 cases QV h0;exact f x0
def ar2(h:us.length=2)(f:∀x0 x1,AT F ⟨[x0,x1],[]⟩=pure (ps.zip [x0,x1])):AT F ⟨us,[]⟩=pure (ps.zip us):=by
 obtain⟨x0,us,rfl,h0⟩:=Mn h;obtain⟨x1,us,rfl,h1⟩:=Mn h0
 cases QV h1;exact f x0 x1
def ar3(h:us.length=3)(f:∀x0 x1 x2,AT F ⟨[x0,x1,x2],[]⟩=pure (ps.zip [x0,x1,x2])):AT F ⟨us,[]⟩=pure (ps.zip us):=by
 obtain⟨x0,us,rfl,h0⟩:=Mn h;obtain⟨x1,us,rfl,h1⟩:=Mn h0;obtain⟨x2,us,rfl,h2⟩:=Mn h1
 cases QV h2;exact f x0 x1 x2
def all_mk{l:GD}{w:World}{K:QM}{h:Heap}{fa f0 f1 f2 f3 f4 f5 f6 f7 f8 f9 f10 f11 f12 f13 f14 f15 f16 f17 f18 f19 f20 f21 f22 f23 f24 f25 f26 f27 f28 f29 f30 f31 f32 f33 f34 f35 f36 f37 f38 f39 f40 f41 f42 f43 f44 f45 f46 f47 f48 q0 p0 q1 p1 q2 p2 q3 p3 q4 p4:Addr}{d0 d1 d2 d3 d4 d5 d6 d7 d8 d9 Rc d11 d12 d13 d14 d15 d16 d17 Mk d19 d20 d21 d22 d23 d24 d25 d26 d27 d28 d29 d30 d31 d32 d33 d34 d35 d36 d37 d38 d39 d40 d41 d42 d43 d44 d45 d46 d47 Rj:uz}{c0 c1 c2 c3 c4 c5 c6 c7 c8 c9 c12 c13 c14 c15 c16 c17 c18 c20 c22 c23 c24 c25 c26 c28 c29 c30 c31 c32 c33 c34 c35 c36 c37 c38 c39 c40 c41 c42 c43 c44 c45 c46 c47 c48:kL}{mH:Tok}{sZ:Tok}(X:K.In h)(G:h.Ns pZ mg)(hfa:mg "law"=some (.ref fa))
  (h0:Fd K "is_whole" W1 f0 d0 c0)
  (h1:Fd K "divisor" Xl f1 d1 c1)
  (h2:Fd K "point" Xv f2 d2 c2)
  (h3:Fd K "before" Wz f3 d3 c3)
  (h4:Fd K "sign_of" Xp f4 d4 c4)
  (h5:Fd K "line_of" Vi f5 d5 c5)
  (h6:Fd K "side_of" XT f6 d6 c6)
  (h7:Fd K "turn" XN f7 d7 c7)
  (h8:Fd K "met" Xt f8 d8 c8)
  (h9:Fd K "order_keys" Ws f9 d9 c9)
  (Pf:Ld K "in_order" jy f10 q0 p0 Rc)
  (Pg:Ld K "by_points" jz f11 q1 p1 d11)
  (h12:Fd K "halved" Wo f12 d12 c12)
  (h13:Fd K "stretch" Vt f13 d13 c13)
  (h14:Fd K "stretches_of" Xi f14 d14 c14)
  (h15:Fd K "ends_of" Xa f15 d15 c15)
  (h16:Fd K "meet" W8 f16 d16 c16)
  (h17:Fd K "meet_on_line" Wj f17 d17 c17)
  (h18:Fd K "is_upright" XQ f18 Mk c18)
  (Ph:Ld K "flanks" jG f19 q2 p2 d19)
  (h20:Fd K "mixed" WM f20 d20 c20)
  (Pj:Ld K "fans_of" vY f21 q3 p3 d21)
  (h22:Fd K "stops" X6 f22 d22 c22)
  (h23:Fd K "stop_at" Xz f23 d23 c23)
  (h24:Fd K "lying_at" WC f24 d24 c24)
  (h25:Fd K "note" X3 f25 d25 c25)
  (h26:Fd K "shared_ends" XJ f26 d26 c26)
  (Pk:Ld K "near_pairs" ju f27 q4 p4 d27)
  (h28:Fd K "pieces" We f28 d28 c28)
  (h29:Fd K "marks" Wu f29 d29 c29)
  (h30:Fd K "mask_of" Va f30 d30 c30)
  (h31:Fd K "has" Xj f31 d31 c31)
  (h32:Fd K "_law_cell_at" Wb f32 d32 c32)
  (h33:Fd K "_law_turn" XG f33 d33 c33)
  (h34:Fd K "_law_before" WE f34 d34 c34)
  (h35:Fd K "_law_ahead" XV f35 d35 c35)
  (h36:Fd K "_law_sorted" Wg f36 d36 c36)
  (h37:Fd K "_law_shape" X7 f37 d37 c37)
  (h38:Fd K "_law_land_by" Wm f38 d38 c38)
  (h39:Fd K "_law_map" Xr f39 d39 c39)
  (h40:Fd K "_law_laid" Wp f40 d40 c40)
  (h41:Fd K "_law_two" Xq f41 d41 c41)
  (h42:Fd K "_law_amid" Vk f42 d42 c42)
  (h43:Fd K "_law_on" XS f43 d43 c43)
  (h44:Fd K "_law_points" XI f44 d44 c44)
  (h45:Fd K "_law_hand" XU f45 d45 c45)
  (h46:Fd K "_law_cut" Vj f46 d46 c46)
  (h47:Fd K "_law_through" Vq f47 d47 c47)
  (T9:Fd K "law" Xx f48 Rj c48)
  (nd:([p0,p1,p2,p3,p4]:List Addr).Nodup)
  (g_SECOND:uT K pZ "SECOND"=some (some (.int 2 mH)))(g_FIRST:uT K pZ "FIRST"=some (some (.int 1 sZ)))(z0:uT K pZ "abs"=some none)(z1:uT K pZ "all"=some none)(z2:uT K pZ "any"=some none)(z3:uT K pZ "bool"=some none)(z4:uT K pZ "enumerate"=some none)(z5:uT K pZ "int"=some none)(z6:uT K pZ "isinstance"=some none)(z7:uT K pZ "len"=some none)(z8:uT K pZ "list"=some none)(z9:uT K pZ "max"=some none)(z10:uT K pZ "min"=some none)(z11:uT K pZ "range"=some none)(z12:uT K pZ "reversed"=some none)(z13:uT K pZ "sorted"=some none)(z14:uT K pZ "tuple"=some none)(z15:uT K pZ "zip"=some none):
  ∃(fd:uz)(tb:List (Addr×Pos×Str)),(∀t∈tb,K.lookup t.1=none/\∃y c,y∈(["in_order","by_points","flanks","fans_of","near_pairs"]:List Str)/\Cm K y=some (c,t.1))/\(∀(s:kW)(v:kL),DM s fd ⟨[v],[]⟩ [("_law_script",v)])/\∀base:Heap,K.In base->base.Ns pZ mg->(∀t∈tb,base.BuiltinsAt mg t.1)->zk ⟨l.prog,w,K,mg,base,tb⟩ 9 fa fd ["_law_script"] F_law31:=by
 cases hfa.symm.trans (Cq X G T9.1);refine⟨Rj,[(p0,⟨64,34,64,51⟩,mU "in_order" jy),(p1,⟨70,30,70,68⟩,mU "by_points" jz),(p2,⟨128,36,128,81⟩,mU "flanks" jG),(p3,⟨149,33,149,85⟩,mU "fans_of" vY),(p4,⟨188,52,188,83⟩,mU "near_pairs" ju)],?_,?_,λbase hK md hB=>ok_law (ad:=(λn=>[f0,f1,f2,f3,f4,f5,f6,f7,f8,f9,f10,f11,f12,f13,f14,f15,f16,f17,f18,f19,f20,f21,f22,f23,f24,f25,f26,f27,f28,f29,f30,f31,f32,f33,f34,f35,f36,f37,f38,f39,f40,f41,f42,f43,f44,f45,f46,f47,fa,q0,p0,q1,p1,q2,p2,q3,p3,q4,p4].getD n 0)) (fd:=(λn=>[d0,d1,d2,d3,d4,d5,d6,d7,d8,d9,Rc,d11,d12,d13,d14,d15,d16,d17,Mk,d19,d20,d21,d22,d23,d24,d25,d26,d27,d28,d29,d30,d31,d32,d33,d34,d35,d36,d37,d38,d39,d40,d41,d42,d43,d44,d45,d46,d47,Rj].getD n Rj)) ?_⟩
 ·simp only[List.forall_mem_cons,pe,false_implies,implies_true,and_true];exact⟨⟨Pf.2.2.2,"in_order",q0,yO 0 rfl,Pf.2.2.1⟩,⟨Pg.2.2.2,"by_points",q1,yO 1 rfl,Pg.2.2.1⟩,⟨Ph.2.2.2,"flanks",q2,yO 2 rfl,Ph.2.2.1⟩,⟨Pj.2.2.2,"fans_of",q3,yO 3 rfl,Pj.2.2.1⟩,⟨Pk.2.2.2,"near_pairs",q4,yO 4 rfl,Pk.2.2.1⟩⟩
 ·obtain⟨_,⟨_,_,_,_,_,_,_,_,e,_⟩,_⟩:=T9;subst e;exact λs v=>.of_eq rfl
 ·refine⟨h0.at X G ?_,h1.at X G ?_,h2.at X G ?_,h3.at X G ?_,h4.at X G ?_,h5.at X G ?_,h6.at X G ?_,h7.at X G ?_,h8.at X G ?_,h9.at X G ?_,Pf.1.at X G ?_,Pf.1.2,⟨Um hK Pf.2.1,hB _ (yO 0 rfl),qm nd (yO 0 rfl)⟩,Pg.1.at X G ?_,Pg.1.2,⟨Um hK Pg.2.1,hB _ (yO 1 rfl),qm nd (yO 1 rfl)⟩,h12.at X G ?_,h13.at X G ?_,h14.at X G ?_,h15.at X G ?_,h16.at X G ?_,h17.at X G ?_,h18.at X G ?_,Ph.1.at X G ?_,Ph.1.2,⟨Um hK Ph.2.1,hB _ (yO 2 rfl),qm nd (yO 2 rfl)⟩,h20.at X G ?_,Pj.1.at X G ?_,Pj.1.2,⟨Um hK Pj.2.1,hB _ (yO 3 rfl),qm nd (yO 3 rfl)⟩,h22.at X G ?_,h23.at X G ?_,h24.at X G ?_,h25.at X G ?_,h26.at X G ?_,Pk.1.at X G ?_,Pk.1.2,⟨Um hK Pk.2.1,hB _ (yO 4 rfl),qm nd (yO 4 rfl)⟩,h28.at X G ?_,h29.at X G ?_,h30.at X G ?_,h31.at X G ?_,h32.at X G ?_,h33.at X G ?_,h34.at X G ?_,h35.at X G ?_,h36.at X G ?_,h37.at X G ?_,h38.at X G ?_,h39.at X G ?_,h40.at X G ?_,h41.at X G ?_,h42.at X G ?_,h43.at X G ?_,h44.at X G ?_,h45.at X G ?_,h46.at X G ?_,h47.at X G ?_,T9.at X G ?_,⟨_,Cq X G g_SECOND⟩,⟨_,Cq X G g_FIRST⟩,py X G z0,py X G z1,py X G z2,py X G z3,py X G z4,py X G z5,py X G z6,py X G z7,py X G z8,py X G z9,py X G z10,py X G z11,py X G z12,py X G z13,py X G z14,py X G z15⟩
  all_goals
   intro _ _ _ _ _ _ us hl
   first|exact ar1 hl λ_=>rfl|exact ar2 hl λ_ _=>rfl|exact ar3 hl λ_ _ _=>rfl
end Nu
end Mine
set_option genInjectivity false
set_option genSizeOf false
structure PySem.W.Fast:Prop where(tw12507011642408391999 tw2252588253038773084 tw11339962676008704262 tw18204566497609182969 tw2282629480525573982 tw1589049153988111623 tw11045932150280575417 tw9111581201150010242 tw13054647644945568138 tw6466102028549264275 tw11224919578975591659 tw7492020229165033746 tw7012186765322817216 tw1055520369612757969 tw7700288333267723767 tw10644154100563207006 tw4018615061951482452 tw13364834975580085769 tw17350506693147284814 tw12949304931566252139 tw14479937082969910095 tw8330852411964930894 tw3131464472770663666 tw2235340889582911745 tw18214591731348079408 tw4271128227574242513 tw14224785586146625992 tw2856141796596970095 tw16068662289458030495 tw15181165848072258027 tw7625255529710090539 tw15940828134662976712 tw16021894014898940747 tw11949443211234402416 tw12830300067039306355 tw603778631041029531 tw1058420470111919233 tw10590485754029846112 tw18320448225625463205 tw10333135626554865279 tw8310448118728213806 tw14056120478287175422 tw14522209663326614600 tw11199208213835523962 tw594458181407949163 tw5020275106637292278 tw8233739580377904405 tw12233475287483955477 tw9680725601233307286 tw1466623075211888001 tw10544141677260106414 tw15080315942132767698 tw2697903638327468803 tw1149902042766293870 tw9828325247721171948 tw9116344450144941750 tw14647409864134709611 tw16153139968207936642 tw15028468490843336175 tw16854091504318113295 tw15282070302047671497 tw4401089632272708699 tw17866545486271123510 tw15500237274367504341 tw1660813226079440311 tw7241579806693040075 tw4724080704455843919 tw12552114562095980556 tw949428597477209589 tw1004283263653861850 tw13326864994444098430 tw4486228595552077490 tw7809046892186760107 tw12265814438793252029 tw5775110453693927168 tw12195927858897258212 tw15829583661522403307 tw7181896910541095190 tw29410871873705506 tw2567622334430189310 tw6912086840748388693 tw17701745545699256818 tw15336414816581508678 tw15131286168845429549 tw1707998616241830692 tw7445661345483756585 tw13220941423692026350 tw8688645878111154297 tw12380488701084428998 tw13116485484165072777 tw2790216766821926638 tw6111020129535556761 tw12162360177094699699 tw18061056718435134658 tw6150139429866931204 tw15788832831583862014 tw15460165263611135365 tw14257402116406750937 tw11040227775745860529 tw12653954217835179368 tw8811205403621916709 tw8695580329327031002 tw4612404701629638952 tw12737528406833551530 tw5161989234383059239 tw5107674521957770284 tw4434563209435053940 tw14839384776306853854 tw6794591578938986886 tw13966863922773912423 tw16635731253291003639 tw18025578948532796529 tw11867371024508886528 tw9826967063521708791 tw5382151269964623367 tw14129524689609584055 tw15830992390371768177 tw15450612744083188081 tw17437077324483673858 tw10033587428256511191 tw13400633041853642010 tw7355920200045806281 tw14122121214897202743 tw1976382027705109434 tw14187269281824301114 tw13945199851890775383 tw3939999353114528582 tw2460821793868218719 tw3656866519733930704 tw65948800819328656 tw17156846158186822077 tw17973796281728808161 tw4706472091337580874 tw11866633147290261907 tw4441196566788177596 tw4585155920668551413 tw16448866043746262828 tw5985880203353045292 tw1606889664482768812 tw13252803911407304076 tw13237083782364611118 tw17300012938971410279 tw3617511996555486385 tw17466307087643235432 tw1941702875168620181 tw8408707636824676377 tw18215439183322700369 tw14105316259205410528 tw8862173646348260462 tw17209703433847240056 tw9208387688883920265 tw5531873170155422262 tw14439571073366213077 tw3331477393998521431 tw1991380712359617653 tw11451411393068397926 tw18029197746495512466 tw6599639215734430105 tw11233875543729231959 tw12055616743771761355 tw10387505573446140379 tw7564667617119921769 tw14951699062086546161 tw4841409541339089111 tw3795918025223922783 tw2065495759855622550 tw2410767356629060598 tw14198907823907870179 tw6717971512680684454 tw4640759458122471772 tw12084797576463002903 tw12171706669373320107 tw9193174696961068584 tw11316316892463330751 tw524387834427489979 tw2376885548384990052 tw16387105569294968214 tw13204740863651213321 tw17531531505287195757 tw16414762509701318343 tw7770938013164439655 tw2397153807445865197 tw16515830176937977396 tw641401723291368483 tw14650818591954468335 tw15033311650498532557 tw16854652441477263946 tw10667330797321358341 tw2724011647640084972 tw3457334736622660946 tw4231368731702252897 tw13047521591856412514 tw7513109771087800098 tw15804673378985215516 tw16864473913487727339 tw4309491544491468070 tw7124675280464859986 tw10092995399783256811 tw9878744738005959615 tw8647470928406657254 tw11914904237924863969 tw1020265992729687429 tw17274775182132307344 tw5415784884530843958 tw3131707337814673755 tw6507884001408490933 tw8475332562494593546 tw9466578992012386045 tw881720492894677792 tw2415709846795746822 tw3017201445842718963 tw6160014211584973164 tw3930205324107077012 tw3042462609337424254 tw9733122287070656558 tw12720187396682351668 tw2809785294121286872 tw17130216393948925889 tw1910583675866568108:True)
open PySem PySem.W PyProof.Rows
set_option maxRecDepth 100000 in
set_option maxHeartbeats 0 in
theorem PySem.Challenge.cw_acre_k31_marks_holds : PySem.Challenge.rw_acre_k31_marks.Holds := by
 w_on;o_law;k_head;(case hw=>w_witness2)
 k_fill
 refine L2.walk_ofN (l:=PySem.Challenge.rw_acre_k31_marks) (n:=63) (k:=9) (x:="_law_script") (F:=Mine.Nu.F_law31) (ds:=["in_order","by_points","flanks","fans_of","near_pairs"]) rfl (by decide) rfl ⟨rfl,by decide,by decide⟩ (λw h Y=>PySem.W.km_in_of Y) (λy hy=>by simp only[kT,pe,or_false] at hy;rcases hy with rfl|rfl|rfl|rfl|rfl<;>exact⟨_,rfl⟩) ?F λns hl=>Mine.Nu.ev_law31 ns
 case F=>
  intro w mg fa h KX G Ob
  refine' Mine.Nu.all_mk KX G Ob ?h0 ?h1 ?h2 ?h3 ?h4 ?h5 ?h6 ?h7 ?h8 ?h9 ?h10 ?h11 ?h12 ?h13 ?h14 ?h15 ?h16 ?h17 ?h18 ?h19 ?h20 ?h21 ?h22 ?h23 ?h24 ?h25 ?h26 ?h27 ?h28 ?h29 ?h30 ?h31 ?h32 ?h33 ?h34 ?h35 ?h36 ?h37 ?h38 ?h39 ?h40 ?h41 ?h42 ?h43 ?h44 ?h45 ?h46 ?h47 ?h48 ?nd ?g_SECOND ?g_FIRST ?z0 ?z1 ?z2 ?z3 ?z4 ?z5 ?z6 ?z7 ?z8 ?z9 ?z10 ?z11 ?z12 ?z13 ?z14 ?z15
  all_goals (try (refine' Mine.Nu.fd_mk ?a ?l ?c ?k;(case a=>k_is);(case l=>k_is);(case c=>k_is);(case k=>k_is)))
  all_goals (try (refine' Mine.Nu.ld_mk ?a ?l ?c ?k ?e ?v ?h ?t ?n;(case a=>k_is);(case l=>k_is);(case c=>k_is);(case k=>k_is);(case e=>k_is);(case v=>rfl);(case h=>kernel_rfl);(case t=>kernel_rfl);(case n=>kernel_rfl)))
  (case nd=>decide);(case g_SECOND=>exact rfl);(case g_FIRST=>exact rfl)
  all_goals k_is
