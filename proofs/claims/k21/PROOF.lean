import PyProof.Rows.All
import Wide.All
import OpenK.AllK
import Wide.FinOn
import Lean
import PyProof.EqAt
import PyProof.EqKinds
import PyProof.TupleCall
import PySem.Challenge.RW_acre_k21_hands
open PySem renaming wpAny_bind→kA,Value→kB,Shared→kC,wpAny_pure→kL,mainGlobals→kR,Program→ko,World→pN,Around→pO,isSubtype_type→pZ,mem_of_lookup→uE,starEach→uF,bootBuiltins→uQ,wpAny_mono→uS,wpAny_seqItems→uf,sysModules→ul,wpAny_rule→QM,compareOp→Qj,wpAny_callSpecial?_slot→Qk,wpAny_call_entry→Ql,wpAny_truthy_bool→Qs,wpAny_loadPart'→UA,wpAny_holding→UG,wpAny_field→UK,wpAny_typeNameOfWhole_keyiter→UN,Fin→UQ,rawInt→UR,FuncData→UU,wpAny_isInstance→UV,wpAny_Call_Name_kw→UW,wpAny_passesOwn→Ue,call_isinstance→Ug,codeAny_builtin→Uh,wpAny_updateSeq→Ui,wpAny_newObj_type→Uo,wpAny_typeNameOf_keyiter→Uv,wpAny_forIn_list→Uy,wpAny_letGo→vI,wpAny_setField_rec→vN,tupleKind_room_in1→vR,binaryOp→vU,wpAny_specialOf→vW,wpAny_attempt→vY,plainId_quiet→vZ,backTo→va,Builtin→vn,wpAny_newList→jB,codeAny→jH,tupleKind→jQ,keywordEach→jR,Arguments→jS,sliceBounds→jT,DictEntry→jV,foldedSetIterable→jc,codeAny_mono→jd,IsPair→je,argBest→jf,wpAny_tryCatch→jg,wpAny_dictEntries→jh,tupleKeyHash→jk,wpAny_isOneOf_keyiter→jx,isSubtype_tuple_tuple→jy,assignEach→jz,isSubtype→hU,behindInMarks→gB,compEnvC→gF,wpAny_newFunctionEnv→gG,wpAny_execs_nil→gL,letOwnedTupleGo→gM,wpAny_pyIter_tuple→gh,bindArgs→gq,NameKind→gr,wpAny_setField→gt,firstArgMember→gu,wpAny_fieldsOf→AE,wpAny_tupleItemsOf→AF,sizeLine_eq→AV,pyNext→Ac,backToKw→Al,seqItems?→Ao,wpAny_Dict_empty→Aq,Paired→Az,builtinsNs→BA,closureFor→BF,richCompare_meets_room→BJ,wpAny_dictEpoch→BV,wpAny_isTrue_Compare1→BZ,wpAny_notOrdered_dict→Bb,intBits_le_iff→Bj,PyData→Bk,wpAny_updateSeq_pair→Bl,wpAny_newTuple→Bm,richCompare→Bn,dictSetDefault→By,Keyword→CB,callerA→CC,valueAt→CD,wpAny_standAt→CK,wpAny_onRaise→CN,Spec→CQ,call_meets→CS,wpAny_getItem_heap→CV,isInstance→CY,wpAny_assign_Name→Cf,wpAny_pyIter_list→Cg,BindsTo→Ch,getItem→Ci,slot_list_getitem→Cj,storedH→Cq,wpAny_pyIter_enum→Cw,wpAny_execs_cons→DE,swapsWith→DF,noFill_tuple_add→DG,typeOf→DI,wpAny_pyIter_zip→DL,eqIsQuiet→DO,wpAny_of_eq→DV,storedH_new→Da,entryOfKey→Dq,wpAny_Name→Dr,Result→Ds,wpAny_call→Dt,call→Dw,defaultsOf→Dx,cellsFrom→EO,updateSeq→ER,ItemsOf→EW
open List renaming getD_eq_getElem?_getD→kD,getElem?_eq_some_iff→kF,getElem?_eq_getElem→kK,mem_append_right→kN,length_append→kO,length_map→kP,mem_append→kY,mem_of_getElem?→kZ,mem_singleton→kf,getElem?_map→kj,mem_cons→kr,size_toArray→kt,length_take→pA,mem_cons_of_mem→pB,map_cons→pC,mem_cons_self→pD,take_of_length_le→pH,append_assoc→pM,mem_append_left→pR,length_drop→pU,mem_iff_getElem?→pX,getElem?_append_right→pY,mem_map→pd,take_add_one→pi,getElem?_append_left→pj,length_cons→uA,mem_iff_getElem→uB,take_zero→uG,lookup_cons→uH,take_append_drop→uJ,map_append→uK,take_length→uM,length_range→uN,not_mem_nil→uV,getElem_drop→uX,mem_filter→ue,getElem_take→ui,drop_eq_getElem_cons→uk,toArray→ur,append_nil→uv,getElem?_eq_none→QD,Nodup→QF,range→QL,map_map→QV,mem_reverse→QX,length_filter_le→Qd,mem_range→Qe,find?_cons→Qh,pairwise_singleton→Qm,mem_of_mem_take→Qn,drop_drop→UL,length_replicate→UZ,perm_append_comm→Ub,pairwise_iff_getElem→Uc,mem_of_mem_drop→Uq,getElem_mem→vA,length→vH,getElem?_set_self→vK,map_nil→vL,zip_cons_cons→vP,pairwise_cons→vT,nodup_cons→vV,nil_append→vX,getElem?_toArray→vc,ext_getElem?→ve,pairwise_map→vf,getElem?_set_ne→vg,replicate→vj,drop_zero→vk,cons_append→vo,mem_flatMap→vp,map_congr_left→vw,forIn_cons→jI,length_nil→jJ,getElem?_cons_zero→jW,getElem?_cons_succ→jX,drop_of_length_le→jj,nodup_append→jl,reverse_perm→jm,drop_take→jn,take_succ_eq_append_getElem→jo,drop_eq_nil_of_le→jp,length_singleton→jw,drop_eq_nil_iff→gH,eq_nil_of_length_eq_zero→gI,of_mem_zip→gN,filterMap_cons→gW,getElem?_range→gX,forIn_nil→gv,getElem?_drop→AB,nodup_nil→AD,take_take→AH,set_cons_zero→AM,set_cons_succ→AN,take_sublist→AX,any_cons→Af,getElem?_replicate→Am,zipIdx_cons→Ap,filter_cons→Ax,pairwise_append→Bw,reverse_reverse→Bx,reverse_append→CI,flatMap_append→CJ,zip_nil_right→CT,forIn_toArray→CU,filter_append→Cd,zip_nil_left→Cm,push_toArray→Cp,flatMap_cons→DB,ext_getElem→DM,take_append→DR,zipIdx_nil→Dc,range_succ→Dh,length_set→Dk
open PySem.W renaming fnOf→kE,Frag→kJ,codeIn→kU,keepIn→kW,nsIn→kX,mg_of→kg,mg_none_of→uL,tabIn→vz,codeHd_of_K→gY,methodObj→AT,codeHdIn→Ay,cellsFrom_some→BB,OpenLaw→BQ,kla_callFunE→Bo,kla_codeExpr→Bp,kat_cons→DN,kat_yes→Df,kat_no→EB,WalkO→EI
open PyProof.Rows renaming wpS_pure→kG,wpS_bind→kH,Keyed→kc,seqObj→kz,pendingOf→pF,wpS_forRange→uD,SortSt→uO,wpS_modify→uP,setArr→uZ,SortKind→QJ,listItems_at→QQ,wpS_mono→QZ,callWith_type1→Qp,get?_update_seq→US,IntsAre→Ua,envOfC→Uf,mirror_perm→Up,listUpdate_at→Uu,getElem?_mirror_all→vv,failedOf→jA,wpS_get→jL,wpS_lift→AI,AllBare→AU,subscriptTail_builtinR→BD,call_function_entry_kw→BM,getElem?_bubble→BW,seqEpoch_at→Bq,gallopOf→Bv,lt_int→CF,wpAny_call_entry_kw→CH,subscriptTail→CL,setPending→Ca,keyKind'→Co,bubble_perm→DW,callWith_kw→DY,mirror_size→DZ,entry_list_sort→Dg,Subscript_→Du,ksk_tail→Dy,ksk_rest→Dz,ksk_tree→EA,ksk_end→EU
open PySem.Heap renaming get?_push_of_some→kI,get?_push_size→kh,lt_size→ki,get?_update_ne→pg,get?_update_other→uW,get?_update_self→QB,size_push→Ux,SameBut→vJ,size_update→DQ,IsTuple→ET,ExtBut→Eh
open Nat renaming le_refl→kM,lt_of_lt_of_le→ku,zero_le→pG,ne_of_lt→pL,le_trans→pP,le_of_lt→ud,lt_of_le_of_lt→uq,succ_le_succ→Qo,le_succ_of_le→Qy,lt_irrefl→UD,le_of_eq→UF,pow_le_pow_right→Um,lt_or_eq_of_le→vS,add_assoc→jD,le_succ→jU,ne_of_gt→jZ,min_eq_left→gS,gcd_mul_right→Aa,gcd_dvd_right→Ab,reduceAdd→Ah,reduceSub→Ai,le_add_right→At,gcd_dvd_left→Av,zero_add→BO,min_le_left→BP,le_antisymm→BU,lt_trans→Cr,lt_succ_of_lt→Ct,lt_or_ge→Cu,lt_trichotomy→Cv,le_of_lt_succ→Cy,succ_pos→Cz,le_max_right→DS,mul_lt_mul''→DT,zero_lt_one→Di,not_lt_zero→Dj,dvd_trans→EM,add_comm→EV,add_zero→EX,pow_succ→EY,sub_self→Ec,le_zero→Ek,pow_add→Em,one_mul→En,gcd→Es
open Array renaming length_toList→kT,getD_eq_getD_getElem?→ke,toList_append→kq,getElem?_eq_getElem→pK,getElem?_toList→pW,getElem_toList→uC,toList_reverse→QN,getElem?_eq_none→QU,getElem_mem→Qb,getD→vO,size_extract→jO,toList_inj→hV,perm_iff_toList_perm→gz,forIn_toList→AG,toList_push→AZ,replicate→BY,getElem_extract→Be,mem_toList_iff→Bu,toList_modify→CG,toList_zip→DP,size_push→De,toList→ES
open Or renaming inl→km,inr→vM
open PySem.Obj renaming mapSeq→kx,data_mapFields→jN,isFreed_of_fields→Ba,data_mapDictKeys→Bz,cls_mapFields→Ck,mapFields→EK
open LawfulBEq renaming eq_of_beq→pE
open Bool renaming false_ne_true→pI,false_eq_true→pJ,not_true→Qr,not_eq_true'→Qx,and_eq_true→vF,not_false→vm,eq_iff_iff→jG,eq_false_iff→jr,true_and→gC,not_eq_true→Aw,false_and→Bh,not_eq_false'→Cb,and_false→Dv,and_assoc→EF,and_true→EH,false_or→EJ,or_false→EL
open PySem.Str renaming ofString→pQ
open Int renaming mul_eq_zero→pS,le_of_lt→uI,mul_neg_of_neg_of_pos→uT,mul_comm→uY,mul_pos→uw,neg_mul→Qc,mul_le_mul_of_nonneg_right→UB,emod_lt_of_pos→UC,mul_zero→UH,mul_nonneg→UO,toNat_natCast→UP,not_lt→UT,mul_nonpos_of_nonpos_of_nonneg→UY,eq_of_mul_eq_mul_left→Ud,emod_nonneg→Uj,lt_or_le→Ur,natAbs_mul→vE,toNat→vG,fdiv_eq_ediv_of_nonneg→vh,fmod_eq_emod_of_nonneg→vi,mul_nonpos_of_nonneg_of_nonpos→jP,natCast_dvd_natCast→jY,zero_mul→jq,mul_le_mul_of_nonneg_left→gJ,mul_ediv_mul_of_pos_left→gU,mul_lt_mul_of_pos_right→gd,ofNat_dvd_left→AJ,eq_of_mul_eq_mul_right→AK,le_of_mul_le_mul_right→AL,mul_pos_of_neg_of_neg→AQ,mul_neg_of_pos_of_neg→AR,lt_of_mul_lt_mul_left→AS,fmod_eq_zero_of_dvd→Au,fmod_nonneg_of_pos→BN,fmod_add_mul_fdiv→Bf,le_ediv_of_mul_le→Bg,dvd_trans→CP,natAbs_natCast→Cc,lt_or_eq_of_le→Ce,add_comm→DA,zero_add→DC,ediv_mul_le→Dm,mul_ne_zero→Dn,natCast_add→Do,fmod→ED,natAbs_dvd→EE,le_trans→EZ,add_zero→Eb,lt_asymm→Ed,le_refl→El,mul_neg→Eo
open PySem.PassesOwn renaming never→pT
open Option.some renaming inj→pV,injEq→Qa
open PySem.Value renaming none→pe,ref→pz,type→Us,int→DD,isStrOf→EG,str→EN,isInt→Ee,bool→Ep
open PySem.NameKind renaming free→uR,cell→CM
open Option renaming map_some→uU,map_eq_some_iff→ut,isSome_iff_exists→vx,isSome_map→AY,getD_none→DH,none→Eg
open List.Perm renaming append_left→uc,trans→BX
open PySem.F renaming plainAttrs_list→ug,slot_dict_keyiterator_next→Qi,slot_list_append→UI,type_list_append→UJ,slot_tuple_iterator_next→UX,slot_list_extend→Uw,plain_max_loop→Uz,slot_tuple_hash→vD,slot_tuple_eq→vd,args_dict_keyiterator_next_1→vt,entry_dict_keyiterator_next→jC,type_list_extend→jF,args_tuple_iterator_next_1→gO,slot_zip_next→gP,slot_dict_setdefault→gT,entry_tuple_iterator_next→gZ,slot_dict_getitem→AO,args_tuple_add_2→Ad,entry_tuple_add→An,entry_max_loop→Ar,slot_tuple_add→BC,slot_dict_iter→BG,slot_list_lt→Bt,args_zip_next_1→Cl,entry_zip_next→DJ
open PySem.PyData renaming canLayAll0→uh,depthAll→Qg,eqv→Qu,canLay0→Qv,depth→Qw,eqvAll→Ut,int→vQ,tuple→Cn
open PySem.Builtin.SmallTypes renaming nextOf→uj,ownedTupleIsFree→Qf,ownedTupleHandOut→vq
open False renaming elim→uz
open Prod renaming fst→QP,ext→EC
open PySem.Builtin.Tuple renaming tupleHashOf→QY,tupleCompareSizes→jt
open PySem.Builtin.List renaming listExtendWith→Qq,listTooLong→UE,listSameRef→Ag,listItems→BK
open PySem.SeqAt renaming shaped→Qt,eqBoolOverData→AA
open PySem.Heap.SameBut renaming update→Qz
open PySem.Around renaming under_plainId→UM,frames_deeper→gE
open Sum renaming inl→Uk,inr→CA
open Ne renaming symm→Ul
open PySem.MeetsSeq3 renaming plain_eq_loop→vC,entry_eq_loop→As
open List.Pairwise renaming imp_of_mem→jE,sublist→Bd
open List.cons renaming injEq→jK
open PySem.Calls renaming spliced_cons→jM,Name_function_global→gf,spliced_nil→AW,callWith_builtin→BE,evalArgs_plain→Bi
open PySem.Paired renaming length→gA,snoc→DX
open PySem.Builtin.Dict_items renaming ownsTuple→gQ
open PySem.Builtin.Builtins renaming bindParams→gc
open True renaming intro→AC
open PySem.AutoSeq1 renaming sub_tuple_tuple→Ae,sub_list_list→BI
open PySem.Data renaming cell→Aj,fields→DU,seq→Ej
open PySem.Builtin.Range renaming rangeSize→Ak
open PySem.Builtin.Dict renaming showsAll→Bc
open ToString renaming toString→Br
open Prod.mk renaming injEq→CO
open PyProof.Rows.SortSt renaming mk'→CZ
open ForInStep renaming yield→Db
open StateT renaming run_pure→Dd
open Array.Perm renaming refl→Dl
open LawfulMonad renaming pure_bind→EQ
open Nat.succ renaming inj→Ea
open Sum.inl renaming inj→Ef
open PySem.Shared renaming heap→Ei
open PUnit renaming unit→Er
local macro_rules
  | `(tactic| omega) => `(tactic| lia)
set_option Elab.async false
set_option linter.all false
set_option compiler.extract_closed false
set_option maxRecDepth 100000
set_option maxHeartbeats 4000000
namespace L2
open PySem PySem.Spec PyProof.Rows
abbrev Key:=Sum Int Str
def zlx:Key->kB->Bool
 |.inl k,v=>Ee k v
 |.inr x,v=>EG x v
def keyH(w:pN):Key->Int
 |.inl k=>hashInt k
 |.inr x=>hashStr w x
theorem zbr:∀{k:Key}{v:kB},zlx k v=true->(∃i t,k=Uk i/\v=DD i t)∨(∃x t,k=CA x/\v=EN x t)
 |.inl i,v,h=>by
  obtain⟨t,e⟩:=Value.isInt_shape (k:=i) (v:=v) h;exact .inl ⟨i,t,rfl,e⟩
 |.inr x,v,h=>by
  obtain⟨t,e⟩:=Value.isStrOf_shape (x:=x) (v:=v) h;exact .inr ⟨x,t,rfl,e⟩
theorem zsj(i:Int)(t:Tok):zlx (.inl i) (.int i t)=true:=by simp[zlx,Ee]
theorem zsi(x:Str)(t:Tok):zlx (.inr x) (.str x t)=true:=by simp[zlx,EG]
theorem key_ll(a b:Int):decide ((Uk a:Key)=Uk b)=(a==b):=by
 by_cases e:a=b
 ·subst e;simp
 ·have h:¬(Uk a:Key)=Uk b:=fun q=>e (Ef q);rw[decide_eq_false h];exact(beq_eq_false_iff_ne.mpr e).symm
theorem key_rr(a b:Str):decide ((CA a:Key)=CA b)=decide (a=b):=by
 by_cases e:a=b
 ·subst e;simp
 ·have h:¬(CA a:Key)=CA b:=fun q=>e (Sum.inr.inj q);rw[decide_eq_false h,decide_eq_false e]
theorem key_lr(a:Int)(b:Str):decide ((Uk a:Key)=CA b)=false:=decide_eq_false (fun q=>nomatch q)
theorem key_rl(a:Str)(b:Int):decide ((CA a:Key)=Uk b)=false:=decide_eq_false (fun q=>nomatch q)
def zbq(prog:ko)(w:pN):PySem.KeyKind prog w Key where
 is:=zlx
 hash:=keyH w
 inj:=fun v a b ha hb=>by
  rcases zbr ha with⟨i,t,rfl,rfl⟩|⟨x,t,rfl,rfl⟩
  ·rcases zbr hb with⟨j,u,rfl,e⟩|⟨y,u,rfl,e⟩
   ·injection e with e1 _;rw[e1]
   ·exact nomatch e
  ·rcases zbr hb with⟨j,u,rfl,e⟩|⟨y,u,rfl,e⟩
   ·exact nomatch e
   ·injection e with e1 _;rw[e1]
 byValue:=fun k v h=>by
  rcases zbr h with⟨i,t,rfl,rfl⟩|⟨x,t,rfl,rfl⟩<;>rfl
 pyHash:=fun hv h=>by
  rcases zbr hv with⟨i,t,rfl,rfl⟩|⟨x,t,rfl,rfl⟩
  ·exact wpAny_pyHash_int h
  ·exact wpAny_pyHash_str h
 eqBool:=fun hu hv h=>by
  rcases zbr hu with⟨i,t,rfl,rfl⟩|⟨x,t,rfl,rfl⟩
  ·rcases zbr hv with⟨j,u,rfl,rfl⟩|⟨y,u,rfl,rfl⟩
   ·rw[key_ll] at h;exact wpAny_eqBool_int h
   ·rw[key_lr] at h;exact SeqAt.EqAt.int_str i t y u _ _ _ _ h
  ·rcases zbr hv with⟨j,u,rfl,rfl⟩|⟨y,u,rfl,rfl⟩
   ·rw[key_rl] at h;exact SeqAt.EqAt.str_int x t j u _ _ _ _ h
   ·rw[key_rr] at h;exact wpAny_eqBool_str h
 «strs»:=fun k x t v h=>by
  rcases zbr h with⟨i,u,rfl,e⟩|⟨y,u,rfl,e⟩
  ·exact nomatch e
  ·injection e with e1 _
   subst e1
   cases v<;>rfl
theorem zly(prog:ko)(w:pN)(i:Int)(t:Tok):(zbq prog w).is (.inl i) (.int i t)=true:=zsj i t
theorem zli(prog:ko)(w:pN)(x:Str)(t:Tok):(zbq prog w).is (.inr x) (.str x t)=true:=zsi x t
inductive V where
 |non|bl (b:Bool)|int (i:Int)|str (x:Str)|byt (b:Array UInt8)|flt (b:UInt64)|ref (a:Addr)|ty (n:String)
 deriving DecidableEq
def RelV:V->kB->Prop
 |.non,u=>u=pe
 |.bl b,u=>u=Ep b
 |.int i,u=>∃t,u=DD i t
 |.str x,u=>∃t,u=EN x t
 |.byt b,u=>∃t,u=Value.bytes b t
 |.flt b,u=>∃t,u=Value.float b t
 |.ref a,u=>u=pz a
 |.ty n,u=>u=Us n
abbrev Vals:List V->List kB->Prop:=Az RelV
theorem Vals.length{xs:List V}{us:List kB}(r:Vals xs us):xs.length=us.length:=gA r
theorem Vals.get:∀{xs:List V}{us:List kB}{i:Nat}{x:V},Vals xs us->xs[i]?=some x->∃u,us[i]?=some u/\RelV x u
 |_,_,_,_,.nil,e=>by simp at e
 |_,_,0,_,.cons r _,e=>by simp at e;subst e;exact⟨_,rfl,r⟩
 |_,_,i+1,x,.cons _ t,e=>by
  obtain⟨u,h1,h2⟩:=Vals.get (i:=i) (x:=x) t (by simpa using e)
  exact⟨u,by simpa using h1,h2⟩
theorem Vals.append:∀{xs ys:List V}{us ws:List kB},Vals xs us->Vals ys ws->Vals (xs++ys) (us++ws)
 |_,_,_,_,.nil,s=>s
 |_,_,_,_,.cons r t,s=>.cons r (Vals.append t s)
theorem Vals.take:∀{xs:List V}{us:List kB}(n:Nat),Vals xs us->Vals (xs.take n) (us.take n)
 |_,_,0,_=>.nil
 |_,_,_+1,.nil=>.nil
 |_,_,n+1,.cons r t=>.cons r (Vals.take n t)
theorem Vals.drop:∀{xs:List V}{us:List kB}(n:Nat),Vals xs us->Vals (xs.drop n) (us.drop n)
 |_,_,0,r=>r
 |_,_,_+1,.nil=>.nil
 |_,_,n+1,.cons _ t=>Vals.drop n t
def RelO:Option V->Option kB->Prop
 |some v,some u=>RelV v u
 |none,none=>True
 |_,_=>False
def KV{κ:Type}:List (κ×V)->List (κ×kB)->Prop:=Az fun(p:κ×V)(q:κ×kB)=>p.1=q.1/\RelV p.2 q.2
def kV:Key->V
 |.inl i=>.int i
 |.inr x=>.str x
inductive HO where
 /--a list-/
 |lst (xs:List V)
 /--a tuple (never changes)-/
 |tup (xs:List V)
 /--a dict whose keys are ints and texts;one whose keys are tuples of ints and texts (the empty one is both)-/
 |dK (kvs:List (Key×V))|dT (kvs:List (List Key×V))
 /--a set of ints:its members,its size-/
 |set (S:Int->Bool) (n:Nat)
 /--an instance of the class at C,its dict at dx,its attributes-/
 |ins (C dx:Addr) (fs:List (Str×V))
 /--the dict of the instance at x-/
 |own (x:Addr)
 /--the dict of an exception-/
 |xd (fs:List (Str×V))
 /--a bound method,f of x-/
 |met (f x:Addr)
 /--a range object lo,lo+1,.. below hi-/
 |rng (lo hi:Int)
 /--a thing that is known to the object (the script;a dict while a loop walks it):read,never written while it is so-/
 |frz (o:Obj) (u:HO)
 /--a code object's table-/
 |tbl (ps:Array kB)
 /--any other thing,by what is true of its one object (a def of one's own:SetO a S n:=HO.ext fun h=>..)-/
 |ext (φ:Heap->Prop)
abbrev Hp:=Addr->Option HO
def upd(H:Hp)(a:Addr)(o:HO):Hp:=fun b=>if b=a then some o else H b
theorem upd_same{H:Hp}{a:Addr}{o:HO}:upd H a o a=some o:=by unfold upd;rw[if_pos rfl]
theorem za8{H:Hp}{a b:Addr}{o:HO}(h:b≠a):upd H a o b=H b:=by unfold upd;rw[if_neg h]
theorem upd_upd{H:Hp}{a:Addr}{o u:HO}:upd (upd H a o) a u=upd H a u:=by
 funext b;unfold upd;split<;>rfl
theorem ne_of{H:Hp}{a b:Addr}{o u:HO}(h:H a=some o)(h':H b=some u)(d:o≠u):a≠b:=by
 intro e;subst e;rw[h] at h';exact d (pV h')
theorem za7{H:Hp}{a b:Addr}{o:HO}(h:H a=some o)(h':H b=none):a≠b:=by
 intro e;subst e;rw[h] at h';cases h'
section
variable(P:ko)(w:pN)
def zd9(H:Hp)(h:Heap)(a:Addr):HO->Prop
 |.lst xs=>xs.length<=sizeLine/\∃(its:List kB)(n:Nat),Vals xs its/\h.get? a=some {cls:=.type "list",data:=.seq its.toArray n}
 |.tup xs=>xs.length<=sizeLine/\∃its:List kB,Vals xs its/\IsTup h a its.toArray
 |.dK kvs=>kvs.length<=sizeLine/\(a==ul)=false/\∃vs,KV kvs vs/\h.DictOf (zbq P w) a vs
 |.dT kvs=>kvs.length<=sizeLine/\(a==ul)=false/\∃xs:List (List Key×Addr×kB),
   Az (fun(p:List Key×V)(q:List Key×Addr×kB)=>p.1=q.1/\H q.2.1=some (.tup (p.1.map kV))/\RelV p.2 q.2.2) kvs xs/\
   ∃o es ep,h.get? a=some o/\o.ExactDict/\o.data=.dict es ep/\es.toList=xs.map (Dq (jQ (zbq P w)))/\(xs.map (·.1)).Nodup
 |.set S n=>h.SetOf (intKind P w) a S n
 |.ins C dx fs=>H dx=some (.own a)/\fs.length<=1000/\dx≠a/\h.get? a=some (PySem.W.instObj C dx)/\
   ∃mA,h.Ns1 dx mA/\(∀f,RelO (fs.lookup f) (mA f))/\PySem.Within mA (fs.map (·.1))
 |.own _=>∃o,h.get? a=some o
 |.xd fs=>∃mA,h.Ns1 a mA/\∀f,RelO (fs.lookup f) (mA f)
 |.rng lo hi=>∃t u v,h.get? a=some {cls:=.type "range",data:=.fields #[.int lo t,.int hi u,.int 1 v]}
 |.frz o u=>h.get? a=some o/\zd9 H h a u
 |.tbl ps=>h.get? a=some {cls:=.none,data:=.fields ps}
 |.met f x=>h.get? a=some (AT (.ref f) (.ref x))
 |.ext φ=>φ h/\(∃o,h.get? a=some o)/\∀h1 h2:Heap,φ h1->(∀o,h1.get? a=some o->h2.get? a=some o)->φ h2
def HOk(H:Hp)(h:Heap):Prop:=∀a o,H a=some o->zd9 P w H h a o
end
section
variable{P:ko}{w:pN}{H H':Hp}{h h':Heap}{a:Addr}{o:HO}
theorem zd9.lt(x:zd9 P w H h a o):a<h.objs.size:=by
 cases o with
 |lst xs=>obtain⟨_,_,_,_,e⟩:=x;exact ki e
 |tup xs=>obtain⟨_,_,_,p⟩:=x;exact p.lt
 |dK kvs=>obtain⟨_,_,_,_,o,_,_,e,_⟩:=x;exact ki e
 |dT kvs=>obtain⟨_,_,_,_,o,_,_,e,_⟩:=x;exact ki e
 |set S n=>obtain⟨o,_,_,_,e,_⟩:=x;exact ki e
 |ins C dx fs=>obtain⟨_,_,_,e,_⟩:=x;exact ki e
 |own y=>obtain⟨_,e⟩:=x;exact ki e
 |xd fs=>obtain⟨_,⟨_,_,_,e,_⟩,_⟩:=x;exact ki e
 |rng lo hi=>obtain⟨_,_,_,e⟩:=x;exact ki e
 |frz ob u=>obtain⟨e,_⟩:=x;exact ki e
 |tbl ps=>exact ki (show h.get? a=some _ from x)
 |met f y=>exact ki (show h.get? a=some _ from x)
 |ext φ=>obtain⟨_,⟨_,e⟩,_⟩:=x;exact ki e
theorem Paired.mapP{α β:Type}{F G:α->β->Prop}:∀{l₁:List α}{l₂:List β},Az F l₁ l₂->(∀a b,F a b->G a b)->Az G l₁ l₂
 |_,_,.nil,_=>.nil
 |_,_,.cons r t,f=>.cons (f _ _ r) (Paired.mapP t f)
theorem zd9.stay(x:zd9 P w H h a o)(k:∀b u,(b=a∨H b=some (.own a))->h.get? b=some u->h'.get? b=some u)
  (ho:∀b,H b=some (.own a)->H' b=some (.own a))(ht:∀b xs,H b=some (.tup xs)->H' b=some (.tup xs)):zd9 P w H' h' a o:=by
 induction o with
 |lst xs=>obtain⟨z,its,n,r,e⟩:=x;exact⟨z,its,n,r,k _ _ (.inl rfl) e⟩
 |tup xs=>obtain⟨z,its,r,ob,e,c⟩:=x;exact⟨z,its,r,ob,k _ _ (.inl rfl) e,c⟩
 |dK kvs=>obtain⟨z,y,vs,r,ob,es,ep,e,c⟩:=x;exact⟨z,y,vs,r,ob,es,ep,k _ _ (.inl rfl) e,c⟩
 |dT kvs=>
  obtain⟨z,y,xs,r,ob,es,ep,e,c⟩:=x;exact⟨z,y,xs,Paired.mapP r fun p q z=>⟨z.1,ht _ _ z.2.1,z.2.2⟩,ob,es,ep,k _ _ (.inl rfl) e,c⟩
 |set S n=>obtain⟨ob,es,ep,t,e,c⟩:=x;exact⟨ob,es,ep,t,k _ _ (.inl rfl) e,c⟩
 |ins C dx fs=>
  obtain⟨d,z,ne,e,mA,⟨od,es,ep,e2,c⟩,r⟩:=x;exact⟨ho _ d,z,ne,k _ _ (.inl rfl) e,mA,⟨od,es,ep,k _ _ (.inr d) e2,c⟩,r⟩
 |own y=>obtain⟨ob,e⟩:=x;exact⟨ob,k _ _ (.inl rfl) e⟩
 |xd fs=>obtain⟨mA,⟨od,es,ep,e,c⟩,r⟩:=x;exact⟨mA,⟨od,es,ep,k _ _ (.inl rfl) e,c⟩,r⟩
 |rng lo hi=>obtain⟨t,u,v,e⟩:=x;exact⟨t,u,v,k _ _ (.inl rfl) e⟩
 |frz ob u ih=>obtain⟨e,q⟩:=x;exact⟨k _ _ (.inl rfl) e,ih q⟩
 |tbl ps=>
  have e:h.get? a=some {cls:=.none,data:=.fields ps}:=x;show h'.get? a=some {cls:=.none,data:=.fields ps};exact k a _ (.inl rfl) e
 |met f y=>
  have e:h.get? a=some (AT (.ref f) (.ref y)):=x;show h'.get? a=some (AT (.ref f) (.ref y));exact k a _ (.inl rfl) e
 |ext φ=>obtain⟨p,⟨o,e⟩,st⟩:=x;exact⟨st _ _ p fun o q=>k _ _ (.inl rfl) q,⟨o,k _ _ (.inl rfl) e⟩,st⟩
theorem HOk.lt(x:HOk P w H h)(e:H a=some o):a<h.objs.size:=(x a o e).lt
theorem HOk.fresh(x:HOk P w H h)(e:h.objs.size<=a):H a=none:=by
 cases q:H a with
 |none=>rfl
 |some u=>exact absurd (ku (x.lt q) e) (UD _)
theorem HOk.kept(x:HOk P w H h)(k:∀b u,h.get? b=some u->h'.get? b=some u):HOk P w H h':=fun a o e=>
 (x a o e).stay (fun b u _ q=>k b u q) (fun _ q=>q) fun _ _ q=>q
theorem HOk.laid(x:HOk P w H h)(k:∀b u,h.get? b=some u->h'.get? b=some u)(hp:h.objs.size<=a)(new:zd9 P w (upd H a o) h' a o):HOk P w (upd H a o) h':=fun b u e=>by
 have hn:=x.fresh hp
 by_cases hb:b=a
 ·subst hb;rw[upd_same] at e;cases e;exact new
 ·rw[za8 hb] at e;exact(x b u e).stay (fun c v _ q=>k c v q) (fun c q=>by rw[za8 (za7 q hn)];exact q) fun c xs q=>by rw[za8 (za7 q hn)];exact q
end
def Rd(H:Hp)(a:Addr)(u:HO):Prop:=H a=some u∨∃o,H a=some (.frz o u)
theorem Rd.ok{P:ko}{w:pN}{H:Hp}{h:Heap}{a:Addr}{u:HO}(r:Rd H a u)(x:HOk P w H h):zd9 P w H h a u:=by
 rcases r with r|⟨o,r⟩
 ·exact x a u r
 ·obtain⟨_,q⟩:=x a _ r;exact q
def Mut:Option HO->Prop
 |some (.lst _)=>True
 |some (.dK _)=>True
 |some (.dT _)=>True
 |some (.set _ _)=>True
 |some (.ins _ _ _)=>True
 |some (.ext _)=>True
 |_=>False
section
variable{P:ko}{w:pN}{H:Hp}{h h':Heap}{x e:Addr}{o':HO}
theorem HOk.write(ok:HOk P w H h)(mu:Mut (H x))(he:e=x∨H e=some (.own x))(k:∀b u,b≠e->h.get? b=some u->h'.get? b=some u)(heo:∃u,h'.get? e=some u)
  (new:zd9 P w (upd H x o') h' x o'):HOk P w (upd H x o') h':=fun b u q=>by
 have nown:∀c y,H c=some (.own y)->c≠x:=fun c y r z=>by subst z;rw[r] at mu;exact mu
 have ntup:∀c xs,H c=some (.tup xs)->c≠x:=fun c xs r z=>by subst z;rw[r] at mu;exact mu
 by_cases hb:b=x
 ·subst hb;rw[upd_same] at q;cases q;exact new
 ·rw[za8 hb] at q
  by_cases hbe:b=e
  ·have q':H b=some (.own x):=by
    rcases he with z|z
    ·exact absurd (hbe.trans z) hb
    ·rw[hbe];exact z
   rw[q] at q';cases q';obtain⟨v,hv⟩:=heo;exact⟨v,by rw[hbe];exact hv⟩
  ·refine(ok b u q).stay (fun c v hc r=>k c v ?_ r) (fun c r=>by rw[za8 (nown c b r)];exact r) fun c xs r=>by rw[za8 (ntup c xs r)];exact r
   rcases hc with rfl|hc
   ·exact hbe
   ·rintro rfl;rcases he with z|z
    ·exact nown c b hc z
    ·rw[hc] at z;cases z;exact hb rfl
end
structure Un(fs ex:List Addr)(H H':Hp)(h h':Heap):Prop where
 keep:∀b o,h.get? b=some o->H b=none->b∉fs->b∉ex->h'.get? b=some o
 slot:∀b o,h.get? b=some o->H b=none->b∈fs->b∉ex->∃sl,h'.get? b=some {o with slots:=sl}
 free:∀b o,h.get? b=some o->H b=none->b∉ex->H' b=none
 there:∀b o,h.get? b=some o->b∉ex->∃o',h'.get? b=some o'
 tups:∀b xs,H b=some (.tup xs)->H' b=some (.tup xs)
 frzs:∀b o u,H b=some (.frz o u)->H' b=some (.frz o u)
 tbls:∀b ps,H b=some (.tbl ps)->∃more,H' b=some (.tbl (ps++more))
section
variable{fs fs' ex ex':List Addr}{H H1 H2:Hp}{h h1 h2 h':Heap}{a x e:Addr}{o:HO}
theorem Un.any(u:Un fs ex H H1 h h1){b:Addr}{ob:Obj}(q:h.get? b=some ob)(n:H b=none)(hx:b∉ex):∃sl,h1.get? b=some {ob with slots:=sl}:=by
 by_cases hb:b∈fs
 ·exact u.slot b ob q n hb hx
 ·exact⟨ob.slots,u.keep b ob q n hb hx⟩
theorem Un.kept(k:∀b u,h.get? b=some u->h'.get? b=some u):Un fs ex H H h h':=
 ⟨fun b ob q _ _ _=>k b ob q,fun b ob q _ _ _=>⟨ob.slots,k b ob q⟩,fun _ _ _ n _=>n,fun b ob q _=>⟨ob,k b ob q⟩,fun _ _ q=>q,fun _ _ _ q=>q,fun _ ps q=>⟨#[],by rw[q];simp⟩⟩
theorem Un.refl:Un fs ex H H h h:=Un.kept fun _ _ q=>q
theorem Un.laid(k:∀b u,h.get? b=some u->h'.get? b=some u)(hp:h.objs.size<=a)(hn:H a=none):Un fs ex H (upd H a o) h h' where
 keep:=fun b u q _ _ _=>k b u q
 slot:=fun b u q _ _ _=>⟨u.slots,k b u q⟩
 free:=fun b u q n _=>by rw[za8 (pL (ku (ki q) hp))];exact n
 there:=fun b u q _=>⟨u,k b u q⟩
 tups:=fun b xs q=>by rw[za8 (za7 q hn)];exact q
 frzs:=fun b u xs q=>by rw[za8 (za7 q hn)];exact q
 tbls:=fun b ps q=>⟨#[],by rw[za8 (za7 q hn),q];simp⟩
theorem Un.write(mu:Mut (H x))(he:e=x∨H e=some (.own x))(k:∀b u,b≠e->h.get? b=some u->h'.get? b=some u)(heo:∃u,h'.get? e=some u):Un fs ex H (upd H x o) h h':=by
 have hx:∀b,H b=none->b≠x:=fun b n z=>by subst z;rw[n] at mu;exact mu
 have hb:∀b,H b=none->b≠e:=fun b n z=>by
  subst z;rcases he with r|r
  ·exact hx b n r
  ·rw[n] at r;cases r
 have hm:∀b u,H b=some u->¬Mut (some u)->b≠x:=fun b u q nm z=>by subst z;rw[q] at mu;exact nm mu
 refine⟨fun b u q n _ _=>k b u (hb b n) q,fun b u q n _ _=>⟨u.slots,k b u (hb b n) q⟩,fun b u q n _=>by rw[za8 (hx b n)];exact n,fun b u q _=>?_,
  fun b xs q=>by rw[za8 (hm b _ q fun z=>z)];exact q,fun b u xs q=>by rw[za8 (hm b _ q fun z=>z)];exact q,fun b ps q=>⟨#[],by rw[za8 (hm b _ q fun z=>z),q];simp⟩⟩
 by_cases hbe:b=e
 ·subst hbe;exact heo
 ·exact⟨u,k b u hbe q⟩
end
def trk(h:Heap)(H:Hp):List Addr:=(QL h.objs.size).filter fun a=>(H a).isSome
def hidT(h:Heap)(H:Hp):Heap:=PySem.W.hideAll h (trk h H)
theorem zst(h:Heap)(H:Hp):(hidT h H).objs.size=h.objs.size:=PySem.W.hideAll_size _ _
theorem hidT_get{h:Heap}{H:Hp}{b:Addr}{o:Obj}(e:h.get? b=some o)(n:H b=none):(hidT h H).get? b=some o:=
 PySem.W.hideAll_get _ e fun hm=>by
  have q:(H b).isSome=true:=(ue.mp hm).2;rw[n] at q;simp at q
theorem of_hidT{h:Heap}{H:Hp}{b:Addr}{o:Obj}(e:(hidT h H).get? b=some o):h.get? b=some o/\H b=none:=by
 have e':h.get? b=some o:=PySem.W.of_hideAll (trk h H) e;refine⟨e',?_⟩
 cases q:H b with
 |none=>rfl
 |some x=>
  have hm:b∈trk h H:=ue.mpr ⟨Qe.mpr (ki e'),by simp[q]⟩
  have z:(hidT h H).get? b=none:=PySem.W.hideAll_none (trk h H) hm;rw[z] at e;cases e
def allNews(g h:Heap)(L:Addr):List (Addr×Obj):=(QL h.objs.size).filterMap fun a=>if a=L∨(g.get? a).isSome=true then none else(h.get? a).map fun o=>(a,o)
def rest(g h:Heap)(L d:Addr):List (Addr×Obj):=(allNews g h L).filter fun p=>decide (p.1≠d)
structure Mod(K:kJ)(mg:Str->Option kB)(base:Heap):Prop where
 kin:K.In base
 glob:base.Ns kR mg
 blt:∃mb,base.Ns BA mb/\∀x:Str,x≠"__name__"->mb x=uQ x
 nolimit:base.NoLimit
structure Cx where
 prog:ko
 w:pN
 K:kJ
 mg:Str->Option kB
 base:Heap
 A:pO
 N:List Str
 s₀:kC
 H₀:Hp
 env:Env
 outer:List Env
 stack:List Env
 ex:List Addr
 fn:Str->Bool
 calm:Bool
 pn:List (Addr×Obj)
 xe:kB->kC->Prop
def frs(l:List Env):List Addr:=l.filterMap (·.frame)
abbrev Cx.fs(X:Cx):List Addr:=frs X.outer
def Vis(sc:Scope)(x:Str):Prop:=sc.names.lookup x=some .local∨sc.names.lookup x=some .cell∨sc.names.lookup x=some .free
def Loc(sc:Scope)(x:Str):Prop:=sc.names.lookup x=some .local∨sc.names.lookup x=some .cell
def Look(env:Env)(h:Heap)(m:Str->Option kB)(x:Str)(u:kB):Prop:=
 (env.kindOf x=some .local/\m x=some u)∨((env.kindOf x=some .cell∨env.kindOf x=some .free)/\∃c,env.cells.lookup x=some c/\h.IsCell c (some u))
structure Cx.Ok(X:Cx):Prop where
 mod:Mod X.K X.mg X.base
 kind:X.env.scope.kind=.function
 glob:X.env.globals=kR
 blt:X.env.builtins=BA
 above:X.s₀.heap.objs.size<=X.env.locals
 inj:∀x y c,X.env.cells.lookup x=some c->X.env.cells.lookup y=some c->x=y
 has:∀x,(X.env.kindOf x=some .cell∨X.env.kindOf x=some .free)->∃c,X.env.cells.lookup x=some c
 cab:∀x c,X.fn x=true->X.env.cells.lookup x=some c->X.s₀.heap.objs.size<=c
 hd:X.calm=true->X.A.handled=none
 frames:X.A.frames=some X.stack
 stk:X.stack=X.outer∨(X.stack=X.env::X.outer/\X.env.frame=some X.env.locals)
 exf:∀b∈X.ex,b≠X.env.locals/\∀x c,X.env.cells.lookup x=some c->c≠b
 bs:∀b o,X.base.get? b=some o->X.s₀.heap.get? b=some o/\X.H₀ b=none
 bsz:X.base.objs.size<=X.s₀.heap.objs.size
 noex:∀b o,X.base.get? b=some o->b∉X.ex
 exfs:∀b∈X.ex,b∉X.fs
 funs:X.s₀.heap.FunFrames X.base X.outer
 frf:∀b∈X.fs,X.H₀ b=none
structure Inv(X:Cx)(pins:List (Addr×Obj))(σ:List (Option V))(H:Hp)(s:kC):Prop where
 ok:X.Ok
 os:s.os=X.s₀.os
 bare:AU s.gens
 base:Un X.fs X.ex X.H₀ H X.s₀.heap s.heap
 loc:∃m,s.heap.Ns X.env.locals m/\∀(i:Nat)(x:Str)(v:V),X.N[i]?=some x->σ[i]?=some (some v)->Vis X.env.scope x->∃u,RelV v u/\Look X.env s.heap m x u
 cell:∀x c,X.env.cells.lookup x=some c->∃v,s.heap.IsCell c v
 free:H X.env.locals=none
 freeC:∀x c,X.env.cells.lookup x=some c->H c=none
 pin:∀p∈X.pn++pins,s.heap.get? p.1=some p.2/\H p.1=none/\p.1≠X.env.locals/\p.1∉X.fs/\∀v,p.2.data≠.cell v
 hok:HOk X.prog X.w H s.heap
 len:σ.length=X.N.length
section
variable{X:Cx}{pins:List (Addr×Obj)}{σ:List (Option V)}{H H':Hp}{s:kC}{h':Heap}
theorem Cx.Ok.nofr(ok:X.Ok){b:Addr}{o:Obj}(e:X.base.get? b=some o):b∉X.fs:=fun hb=>by
 have:=(ok.funs.mem hb).1;rw[e] at this;cases this
theorem Inv.bs(I:Inv X pins σ H s):∀b o,X.base.get? b=some o->s.heap.get? b=some o/\H b=none:=fun b o e=>
 ⟨I.base.keep b o (I.ok.bs b o e).1 (I.ok.bs b o e).2 (I.ok.nofr e) (I.ok.noex b o e),I.base.free b o (I.ok.bs b o e).1 (I.ok.bs b o e).2 (I.ok.noex b o e)⟩
theorem Inv.bk(I:Inv X pins σ H s):∀b o,X.base.get? b=some o->s.heap.get? b=some o:=fun b o e=>(I.bs b o e).1
theorem Inv.mod(I:Inv X pins σ H s):Mod X.K X.mg X.base:=I.ok.mod
theorem Inv.kIn(I:Inv X pins σ H s):X.K.In s.heap:=I.ok.mod.kin.keeps I.bk
theorem Inv.nolimit(I:Inv X pins σ H s):s.heap.NoLimit:=I.ok.mod.nolimit.keeps I.bk
theorem Inv.lt(I:Inv X pins σ H s):X.env.locals<s.heap.objs.size:=let⟨_,hn,_⟩:=I.loc;hn.lt
theorem Inv.sz(I:Inv X pins σ H s):X.s₀.heap.objs.size<=s.heap.objs.size:=pP I.ok.above (ud I.lt)
theorem Inv.nofs(I:Inv X pins σ H s){a:Addr}(h:s.heap.objs.size<=a):a∉X.fs:=fun hb=>by
 obtain⟨_,o,ho,_⟩:=I.ok.funs.mem hb;exact absurd (ku (ki ho) (pP I.sz h)) (UD _)
theorem Inv.cne(I:Inv X pins σ H s):∀x c,X.env.cells.lookup x=some c->c≠X.env.locals:=fun x c e z=>by
 obtain⟨v,o,ho,hd⟩:=I.cell x c e;obtain⟨m,⟨o',es,ep,ho',hd',_⟩,_⟩:=I.loc;rw[z,ho'] at ho;cases ho;rw[hd'] at hd;cases hd
theorem Inv.funs(I:Inv X pins σ H s):s.heap.FunFrames X.base X.outer:=by
 have all:∀(l:List Env),(∀b∈frs l,b∈X.fs)->X.s₀.heap.FunFrames X.base l->s.heap.FunFrames X.base l:=by
  intro l
  induction l with
  |nil=>intro _ _;trivial
  |cons env r ih=>
   intro hs hl;obtain⟨hk,⟨L,o,hf,hn,ho,hd⟩,hr⟩:=hl;have hL:L∈X.fs:=hs L (by unfold frs;rw[gW,hf];exact pD)
   obtain⟨sl,e⟩:=I.base.slot L o ho (I.ok.frf L hL) hL fun z=>I.ok.exfs L z hL;exact⟨hk,⟨L,_,hf,hn,e,hd⟩,ih (fun b hb=>hs b (by unfold frs;rw[gW,hf];exact pB _ hb)) hr⟩
 exact all X.outer (fun _ hb=>hb) I.ok.funs
theorem Inv.stack(I:Inv X pins σ H s):s.heap.FunFrames X.base X.stack:=by
 rcases I.ok.stk with e|⟨e,hf⟩
 ·rw[e];exact I.funs
 ·rw[e];obtain⟨m,hn,_⟩:=I.loc;refine .cons (by rw[I.ok.kind];decide) hf hn ?_ I.funs
  exact Heap.get?_none_of_le (pP I.ok.bsz I.ok.above)
theorem Inv.stkSub(I:Inv X pins σ H s):∀b∈frs X.stack,b∈X.env.locals::X.fs:=fun b hb=>by
 rcases I.ok.stk with e|⟨e,hf⟩
 ·rw[e] at hb;exact pB _ hb
 ·rw[e] at hb;unfold frs at hb;rw[gW,hf] at hb;exact hb
theorem Inv.stkFree(I:Inv X pins σ H s):∀b∈frs X.stack,H b=none:=fun b hb=>by
 rcases kr.mp (I.stkSub b hb) with e|hb
 ·rw[e];exact I.free
 ·obtain⟨_,o,ho,_⟩:=I.ok.funs.mem hb;exact I.base.free b o ho (I.ok.frf b hb) fun z=>I.ok.exfs b z hb
theorem Inv.step{g':Array GenState}{t':Nat}{d':Drawn}{ch:List Addr}(I:Inv X pins σ H s)
  (hch:∀b∈ch,(b∈X.ex∨X.s₀.heap.objs.size<=b)/\b≠X.env.locals/\(∀x c,X.env.cells.lookup x=some c->c≠b)/\∀p∈X.pn++pins,p.1≠b)
  (keep:∀b o,b≠X.env.locals->b∉X.fs->b∉ch->s.heap.get? b=some o->H b=none->h'.get? b=some o)
  (slot:∀b o,b≠X.env.locals->b∈X.fs->b∉ch->s.heap.get? b=some o->H b=none->∃sl,h'.get? b=some {o with slots:=sl})(free:∀b o,b∉ch->s.heap.get? b=some o->H b=none->H' b=none)
  (there:∀b o,b∉ch->s.heap.get? b=some o->∃o',h'.get? b=some o')
  (tups:∀b xs,H b=some (.tup xs)->H' b=some (.tup xs)) (frzs:∀b o u,H b=some (.frz o u)->H' b=some (.frz o u)) (tbls:∀b ps,H b=some (.tbl ps)->∃more,H' b=some (.tbl (ps++more)))
  (ns:∀m,s.heap.Ns X.env.locals m->h'.Ns X.env.locals m) (hok:HOk X.prog X.w H' h') (hg:AU g'):
  Inv X pins σ H' {s with heap:=h',gens:=g',drawn:=d',toks:=t'}:=by
 have neL:∀b o,X.s₀.heap.get? b=some o->b≠X.env.locals:=fun b o e=>pL (ku (ki e) I.ok.above);have neC:∀b o,X.s₀.heap.get? b=some o->b∉X.ex->b∉ch:=fun b o e hx hb=>by
  rcases(hch b hb).1 with z|z
  ·exact hx z
  ·exact absurd (ku (ki e) z) (UD _)
 have cellK:∀x c,X.env.cells.lookup x=some c->∀v,s.heap.IsCell c v->h'.IsCell c v:=fun x c e v⟨o,ho,hd⟩=>by
  have nch:c∉ch:=fun z=>(hch c z).2.2.1 x c e rfl
  by_cases hc:c∈X.fs
  ·obtain⟨sl,q⟩:=slot c o (I.cne x c e) hc nch ho (I.freeC x c e);exact⟨_,q,hd⟩
  ·exact⟨o,keep c o (I.cne x c e) hc nch ho (I.freeC x c e),hd⟩
 refine⟨I.ok,I.os,hg,⟨fun b o e n hb hx=>?_,fun b o e n hb hx=>?_,fun b o e n hx=>?_,fun b o e hx=>?_,fun b xs e=>tups b xs (I.base.tups b xs e),fun b o xs e=>frzs b o xs (I.base.frzs b o xs e),fun b ps e=>?_⟩,?_,fun x c e=>?_,?_,fun x c e=>?_,fun p hp=>?_,hok,I.len⟩
 ·exact keep b o (neL b o e) hb (neC b o e hx) (I.base.keep b o e n hb hx) (I.base.free b o e n hx)
 ·obtain⟨sl,e1⟩:=I.base.slot b o e n hb hx;obtain⟨sl',e2⟩:=slot b _ (neL b o e) hb (neC b o e hx) e1 (I.base.free b o e n hx);exact⟨sl',e2⟩
 ·obtain⟨o',e1⟩:=I.base.there b o e hx;exact free b o' (neC b o e hx) e1 (I.base.free b o e n hx)
 ·obtain⟨o',e1⟩:=I.base.there b o e hx;exact there b o' (neC b o e hx) e1
 ·obtain⟨m1,e1⟩:=I.base.tbls b ps e;obtain⟨m2,e2⟩:=tbls b _ e1;exact⟨m1++m2,by rw[e2,Array.append_assoc]⟩
 ·obtain⟨m,hn,hl⟩:=I.loc;refine⟨m,ns m hn,fun i x v e1 e2 e3=>?_⟩;obtain⟨u,r,l⟩:=hl i x v e1 e2 e3;refine⟨u,r,?_⟩;rcases l with l|⟨k,c,e,z⟩
  ·exact .inl l
  ·exact .inr ⟨k,c,e,cellK x c e _ z⟩
 ·obtain⟨v,z⟩:=I.cell x c e;exact⟨v,cellK x c e v z⟩
 ·obtain⟨m,⟨o,_,_,ho,_⟩,_⟩:=I.loc;exact free _ o (fun z=>(hch _ z).2.1 rfl) ho I.free
 ·obtain⟨v,o,ho,hd⟩:=I.cell x c e;exact free c o (fun z=>(hch c z).2.2.1 x c e rfl) ho (I.freeC x c e)
 ·obtain⟨e,n,ne,nf,d⟩:=I.pin p hp;have nch:p.1∉ch:=fun z=>(hch p.1 z).2.2.2 p hp rfl;exact⟨keep p.1 p.2 ne nf nch e n,free p.1 p.2 nch e n,ne,nf,d⟩
theorem Inv.un{t':Nat}(I:Inv X pins σ H s)(u:Un X.fs [] H H' s.heap h')(hok:HOk X.prog X.w H' h'):Inv X pins σ H' {s with heap:=h',toks:=t'}:=by
 obtain⟨m,⟨o,es,ep,ho,r⟩,_⟩:=id I.loc;obtain⟨sl,hL⟩:=u.any ho I.free (by simp)
 exact I.step (g':=s.gens) (d':=s.drawn) (ch:=[]) (fun _ z=>nomatch z) (fun b o _ hb _ e n=>u.keep b o e n hb (by simp)) (fun b o _ hb _ e n=>u.slot b o e n hb (by simp)) (fun b o _ e n=>u.free b o e n (by simp)) (fun b o _ e=>u.there b o e (by simp)) u.tups u.frzs u.tbls (fun m' hm=>by
  obtain⟨o',es',ep',ho',r'⟩:=hm;rw[ho] at ho';cases ho';exact⟨_,es',ep',hL,r'⟩) hok I.bare
theorem Inv.call{g':Array GenState}{t':Nat}{d':Drawn}{ch:List Addr}(I:Inv X pins σ H s)(u:Un (frs X.stack) ch H H' s.heap h')(hok:HOk X.prog X.w H' h')(hg:AU g')
  (hch:∀b∈ch,(b∈X.ex∨X.s₀.heap.objs.size<=b)/\b≠X.env.locals/\(∀x c,X.env.cells.lookup x=some c->c≠b)/\∀p∈X.pn++pins,p.1≠b):
  Inv X pins σ H' {s with heap:=h',gens:=g',drawn:=d',toks:=t'}:=by
 obtain⟨m,⟨o,es,ep,ho,r⟩,_⟩:=id I.loc;obtain⟨sl,hL⟩:=u.any ho I.free fun z=>(hch _ z).2.1 rfl;exact I.step (ch:=ch) hch (fun b o hL hb hc e n=>u.keep b o e n (fun z=>(kr.mp (I.stkSub b z)).elim hL hb) hc) (fun b o _ _ hc e n=>u.any e n hc) (fun b o hc e n=>u.free b o e n hc) (fun b o hc e=>u.there b o e hc) u.tups u.frzs u.tbls (fun m' hm=>by
  obtain⟨o',es',ep',ho',r'⟩:=hm;rw[ho] at ho';cases ho';exact⟨_,es',ep',hL,r'⟩) hok hg
theorem Inv.turned{t':Nat}{it:Addr}(I:Inv X pins σ H s)(k:∀b o,b≠it->s.heap.get? b=some o->h'.get? b=some o)(hn:H it=none)(hL:it≠X.env.locals)
  (h1:it∈X.ex∨X.s₀.heap.objs.size<=it)(h2:∀x c,X.env.cells.lookup x=some c->c≠it)(h3:∀p∈X.pn++pins,p.1≠it):Inv X pins σ H {s with heap:=h',toks:=t'}:=by
 have nit:∀b u,H b=some u->b≠it:=fun b u e z=>by rw[z,hn] at e;cases e
 refine I.step (g':=s.gens) (d':=s.drawn) (ch:=[it]) (fun b hb=>?_) (fun b o _ _ hc e _=>k b o (fun z=>hc (by simp[z])) e) (fun b o _ _ hc e _=>⟨o.slots,k b o (fun z=>hc (by simp[z])) e⟩) (fun _ _ _ _ n=>n)
  (fun b o hc e=>⟨o,k b o (fun z=>hc (by simp[z])) e⟩) (fun _ _ e=>e) (fun _ _ _ e=>e) (fun b ps e=>⟨#[],by rw[e];simp⟩) (fun m hm=>?_) (fun b u e=>?_) I.bare
 ·have e:b=it:=by simpa using hb
  subst e;exact⟨h1,hL,h2,h3⟩
 ·obtain⟨o,es,ep,ho,r⟩:=hm;exact⟨o,es,ep,k _ o (Ul hL) ho,r⟩
 ·refine(I.hok b u e).stay (fun c v hc q=>k c v ?_ q) (fun _ q=>q) fun _ _ q=>q;rcases hc with z|z
  ·rw[z];exact nit b u e
  ·exact nit c _ z
theorem Inv.tok(I:Inv X pins σ H s)(t:Nat):Inv X pins σ H {s with toks:=t}:=I.un (h':=s.heap) (t':=t) Un.refl I.hok
theorem Inv.kept{t':Nat}(I:Inv X pins σ H s)(k:∀b u,s.heap.get? b=some u->h'.get? b=some u):Inv X pins σ H {s with heap:=h',toks:=t'}:=I.un (Un.kept k) (I.hok.kept k)
theorem Inv.laid{a:Addr}{o:HO}{t':Nat}(I:Inv X pins σ H s)(k:∀b u,s.heap.get? b=some u->h'.get? b=some u)(hp:s.heap.objs.size<=a)(new:zd9 X.prog X.w (upd H a o) h' a o):
  Inv X pins σ (upd H a o) {s with heap:=h',toks:=t'}:=I.un (Un.laid k hp (I.hok.fresh hp)) (I.hok.laid k hp new)
theorem Inv.write{x e:Addr}{o:HO}{t':Nat}(I:Inv X pins σ H s)(mu:Mut (H x))(he:e=x∨H e=some (.own x))(k:∀b u,b≠e->s.heap.get? b=some u->h'.get? b=some u)(heo:∃u,h'.get? e=some u)
  (new:zd9 X.prog X.w (upd H x o) h' x o):Inv X pins σ (upd H x o) {s with heap:=h',toks:=t'}:=I.un (Un.write mu he k heo) (I.hok.write mu he k heo new)
theorem Inv.pins_of{pins':List (Addr×Obj)}(I:Inv X pins σ H s)(h:∀p∈pins',s.heap.get? p.1=some p.2/\H p.1=none/\p.1≠X.env.locals/\p.1∉X.fs/\∀v,p.2.data≠.cell v):Inv X pins' σ H s:=
 ⟨I.ok,I.os,I.bare,I.base,I.loc,I.cell,I.free,I.freeC,fun p hp=>(kY.mp hp).elim (fun z=>I.pin p (pR _ z)) (h p),I.hok,I.len⟩
theorem zn3{N:List Str}(hN:N.Nodup){i j:Nat}{x:Str}(a:N[i]?=some x)(b:N[j]?=some x):i=j:=by
 obtain⟨h1,e1⟩:=kF.mp a;obtain⟨h2,e2⟩:=kF.mp b;exact(List.getElem_inj hN).mp (e1.trans e2.symm)
theorem zox{M:Model}{A:pO}{E:kB->kC->Prop}{i:Nat}{x:Str}{v:V}{u:kB}{Q:Unit->kC->Prop}(I:Inv X pins σ H s)(hN:X.N.Nodup)(hi:X.N[i]?=some x)(hx:Loc X.env.scope x)(r:RelV v u)
  (h:∀s',Inv X pins (σ.set i (some v)) H s'->(∃a,vJ a s.heap s'.heap/\(a=X.env.locals∨X.env.cells.lookup x=some a))->Q () s')(hf:X.fn x=true∨X.env.scope.names.lookup x=some .local:=by first|exact .inl rfl|exact .inr rfl|assumption):wpAny M A (storeName X.env x u) Q E s:=by
 obtain⟨m,hn,hl⟩:=id I.loc;have hcls:(X.env.scope.kind==.class||(X.env.scope.kind==.module&&X.env.locals !=X.env.globals))=false:=by rw[I.ok.kind];rfl
 have hiσ:i<σ.length:=by rw[I.len];exact(kF.mp hi).1
 have cne:=I.cne;have tracked:∀{a:Addr}{h':Heap},(∃o,s.heap.get? a=some o/\H a=none)->vJ a s.heap h'->HOk X.prog X.w H h':=fun{a h'} ha hs b ob e=>by
  obtain⟨_,_,hfree⟩:=ha;refine(I.hok b ob e).stay (fun c w' hc q=>(hs.2 c ?_).trans q) (fun _ q=>q) fun _ _ q=>q;rintro rfl;rcases hc with rfl|hc
  ·rw[hfree] at e;cases e
  ·rw[hfree] at hc;cases hc
 rcases hx with hk|hk
 ·refine wpAny_storeName_local hk hn (fun h' hn' hs=>?_) hcls;obtain⟨oL,_,_,hoL,_⟩:=id hn;refine h _ ⟨I.ok,I.os,I.bare,⟨fun b o e n hb hx=>?_,fun b o e n hb hx=>?_,I.base.free,fun b o e hx=>?_,I.base.tups,I.base.frzs,I.base.tbls⟩,⟨_,hn',fun j y v' e1 e2 e3=>?_⟩,fun y c e=>?_,I.free,I.freeC,fun p hp=>?_,tracked ⟨oL,hoL,I.free⟩ hs,by simpa using I.len⟩ ⟨_,hs,.inl rfl⟩
  ·exact(hs.2 b (pL (ku (ki e) I.ok.above))).trans (I.base.keep b o e n hb hx)
  ·obtain⟨sl,e1⟩:=I.base.slot b o e n hb hx;exact⟨sl,(hs.2 b (pL (ku (ki e) I.ok.above))).trans e1⟩
  ·obtain⟨o',e1⟩:=I.base.there b o e hx;exact⟨o',(hs.2 b (pL (ku (ki e) I.ok.above))).trans e1⟩
  ·by_cases hj:j=i
   ·subst hj;rw[hi] at e1;cases e1;rw[vK hiσ] at e2
    cases e2;exact⟨u,r,.inl ⟨hk,by simp⟩⟩
   ·rw[vg (Ul hj)] at e2;obtain⟨u',r',q⟩:=hl j y v' e1 e2 e3;refine⟨u',r',?_⟩;rcases q with⟨k,e⟩|⟨k,c,e,z⟩
    ·refine .inl ⟨k,?_⟩;have:y≠x:=fun e=>hj (zn3 hN e1 (e▸hi))
     simp[this,e]
    ·exact .inr ⟨k,c,e,z.sameBut hs (cne y c e)⟩
  ·obtain⟨w',z⟩:=I.cell y c e;exact⟨w',z.sameBut hs (cne y c e)⟩
  ·obtain⟨e,n,ne,nf,d⟩:=I.pin p hp;exact⟨(hs.2 p.1 ne).trans e,n,ne,nf,d⟩
 ·have hfn:X.fn x=true:=by
   rcases hf with z|z
   ·exact z
   ·rw[z] at hk;cases hk
  obtain⟨c,hc⟩:=I.ok.has x (.inl hk);obtain⟨w',z⟩:=I.cell x c hc;refine wpAny_storeName_cell I.ok.kind hk hc z (fun h' hc' hs=>?_);obtain⟨oc,hoc,hocd⟩:=id z;refine h {s with heap:=h'} ⟨I.ok,I.os,I.bare,⟨fun b o e n hb hx=>?_,fun b o e n hb hx=>?_,I.base.free,fun b o e hx=>?_,I.base.tups,I.base.frzs,I.base.tbls⟩,⟨m,hn.sameBut hs (Ul (cne x c hc)),fun j y v' e1 e2 e3=>?_⟩,fun y c' e=>?_,I.free,I.freeC,fun p hp=>?_,tracked ⟨oc,hoc,I.freeC x c hc⟩ hs,by simpa using I.len⟩ ⟨c,hs,.inr hc⟩
  ·exact(hs.2 b (pL (ku (ki e) (I.ok.cab x c hfn hc)))).trans (I.base.keep b o e n hb hx)
  ·obtain⟨sl,e1⟩:=I.base.slot b o e n hb hx;exact⟨sl,(hs.2 b (pL (ku (ki e) (I.ok.cab x c hfn hc)))).trans e1⟩
  ·obtain⟨o',e1⟩:=I.base.there b o e hx;exact⟨o',(hs.2 b (pL (ku (ki e) (I.ok.cab x c hfn hc)))).trans e1⟩
  ·by_cases hj:j=i
   ·subst hj;rw[hi] at e1;cases e1;rw[vK hiσ] at e2
    cases e2;exact⟨u,r,.inr ⟨.inl hk,c,hc,hc'⟩⟩
   ·rw[vg (Ul hj)] at e2;obtain⟨u',r',q⟩:=hl j y v' e1 e2 e3;refine⟨u',r',?_⟩;rcases q with q|⟨k,c',e,z'⟩
    ·exact .inl q
    ·refine .inr ⟨k,c',e,z'.sameBut hs ?_⟩;rintro rfl;exact hj (zn3 hN e1 (I.ok.inj _ _ _ e hc▸hi))
  ·by_cases hcc:c'=c
   ·subst hcc;exact⟨_,hc'⟩
   ·obtain⟨w2,z2⟩:=I.cell y c' e;exact⟨w2,z2.sameBut hs hcc⟩
  ·obtain⟨e,n,ne,nf,d⟩:=I.pin p hp;refine⟨(hs.2 p.1 ?_).trans e,n,ne,nf,d⟩;intro q;rw[q,hoc] at e;have q':oc=p.2:=pV e;exact d w' (by rw[←q'];exact hocd)
theorem zj6{M:Model}{A:pO}{E:kB->kC->Prop}{i:Nat}{x:Str}{v:V}{u:kB}{Q:Unit->kC->Prop}(I:Inv X pins σ H s)(hN:X.N.Nodup)(hi:X.N[i]?=some x)(hx:Loc X.env.scope x)(r:RelV v u)
  (h:∀s',Inv X pins (σ.set i (some v)) H s'->Q () s')(hf:X.fn x=true∨X.env.scope.names.lookup x=some .local:=by first|exact .inl rfl|exact .inr rfl|assumption):wpAny M A (storeName X.env x u) Q E s:=
 zox I hN hi hx r (fun s' I' _=>h s' I') hf
theorem Inv.call'{s':kC}{ch:List Addr}(I:Inv X pins σ H s)(ho:s'.os=s.os)(u:Un (frs X.stack) ch H H' s.heap s'.heap)(hok:HOk X.prog X.w H' s'.heap)(hg:AU s'.gens)
  (hch:∀b∈ch,(b∈X.ex∨X.s₀.heap.objs.size<=b)/\b≠X.env.locals/\(∀x c,X.env.cells.lookup x=some c->c≠b)/\∀p∈X.pn++pins,p.1≠b):Inv X pins σ H' s':=by
 obtain⟨h',g',d',t',o'⟩:=s';have e:o'=s.os:=ho;subst e;exact I.call (g':=g') (t':=t') (d':=d') u hok hg hch
end
abbrev XK:=kB->Option Addr->Hp->Prop
abbrev St:=List (Option V)
abbrev VK:=V->Hp->Prop
abbrev TE:=St->Hp->VK->Prop
abbrev TT:=St->Hp->(Bool->Hp->Prop)->Prop
abbrev TA:=St->Hp->(List V->Hp->Prop)->Prop
structure Ends where
 nx:St->Hp->Prop
 rt:VK
 bk:St->Hp->Prop:=fun _ _=>False
 ct:St->Hp->Prop:=fun _ _=>False
abbrev TS:=Ends->St->Hp->Prop
def EP(X:Cx)(pins:List (Addr×Obj))(σ:St)(Q:VK)(u:kB)(s':kC):Prop:=∃v H',Inv X pins σ H' s'/\RelV v u/\Q v H'
def TP(X:Cx)(pins:List (Addr×Obj))(σ:St)(Q:Bool->Hp->Prop)(b:Bool)(s':kC):Prop:=∃H',Inv X pins σ H' s'/\Q b H'
def AP(X:Cx)(pins:List (Addr×Obj))(σ:St)(Q:List V->Hp->Prop)(us:List kB)(s':kC):Prop:=∃vs H',Inv X pins σ H' s'/\Vals vs us/\Q vs H'
def SP(X:Cx)(pins:List (Addr×Obj))(D:Ends)(f:Flow)(s':kC):Prop:=
 match f with
 |.next=>∃σ' H',Inv X pins σ' H' s'/\D.nx σ' H'
 |.brk=>∃σ' H',Inv X pins σ' H' s'/\D.bk σ' H'
 |.cont=>∃σ' H',Inv X pins σ' H' s'/\D.ct σ' H'
 |.ret u=>∃v σ' H',Inv X pins σ' H' s'/\RelV v u/\D.rt v H'
def PE(X:Cx)(e:Expr)(t:TE):Prop:=
 ∀(pins:List (Addr×Obj))(s:kC)(σ:St)(H:Hp)(Q:VK),Inv X pins σ H s->t σ H Q->wpAny (model X.prog X.w) X.A (eval e X.env) (EP X pins σ Q) X.xe s
def PT(X:Cx)(e:Expr)(t:TT):Prop:=
 ∀(pins:List (Addr×Obj))(s:kC)(σ:St)(H:Hp)(Q:Bool->Hp->Prop),Inv X pins σ H s->t σ H Q->wpAny (model X.prog X.w) X.A (isTrue e X.env (eval e X.env)) (TP X pins σ Q) X.xe s
def PW(X:Cx)(e:Expr)(t:TT):Prop:=
 ∀(whole:Sem kB)(pins:List (Addr×Obj))(s:kC)(σ:St)(H:Hp)(Q:Bool->Hp->Prop),Inv X pins σ H s->t σ H Q->wpAny (model X.prog X.w) X.A (isTrue e X.env whole) (TP X pins σ Q) X.xe s
theorem PW.pt{X:Cx}{e:Expr}{t:TT}(h:PW X e t):PT X e t:=h _
def PA(X:Cx)(es:List Expr)(t:TA):Prop:=
 ∀(pos:Pos)(pins:List (Addr×Obj))(s:kC)(σ:St)(H:Hp)(Q:List V->Hp->Prop),Inv X pins σ H s->t σ H Q->wpAny (model X.prog X.w) X.A (spliced (va pos (uF es X.env))) (AP X pins σ Q) X.xe s
def PS(X:Cx)(st:Stmt)(t:TS):Prop:=
 ∀(pins:List (Addr×Obj))(s:kC)(σ:St)(H:Hp)(D:Ends),Inv X pins σ H s->t D σ H->wpAny (model X.prog X.w) X.A (exec st X.env) (SP X pins D) X.xe s
def PSs(X:Cx)(st:List Stmt)(t:TS):Prop:=
 ∀(pins:List (Addr×Obj))(s:kC)(σ:St)(H:Hp)(D:Ends),Inv X pins σ H s->t D σ H->wpAny (model X.prog X.w) X.A (execs st X.env) (SP X pins D) X.xe s
theorem thn{α:Type}{t:Sem α}{Q Q':α->kC->Prop}{M:Model}{A:pO}{E:kB->kC->Prop}{s:kC}(h:wpAny M A t Q E s)(hQ:∀a s,Q a s->Q' a s):wpAny M A t Q' E s:=uS h hQ fun _ _ x=>x
section
variable{X:Cx}
def tVar(i:Nat):TE:=fun σ H Q=>∃v,σ[i]?=some (some v)/\Q v H
def tC(v:V):TE:=fun _ H Q=>Q v H
theorem pe_var{i:Nat}{x:Str}{pos:Pos}(hN:X.N[i]?=some x)(hv:Vis X.env.scope x)(hd:(x==("__debug__":Str))=false:=by decide)(hcd:(x==("__classdict__":Str))=false:=by decide):PE X (.Name x pos) (tVar i):=by
 intro pins s σ H Q I h;obtain⟨v,e,h⟩:=h;obtain⟨m,hn,hl⟩:=I.loc;obtain⟨u,r,l⟩:=hl i x v hN e hv;have fin:EP X pins σ Q u s:=⟨v,H,I,r,h⟩;rcases l with⟨hk,hm⟩|⟨hk,c,hc,hcell⟩
 ·exact Dr (wpAny_loadName_local I.ok.kind hk hn hm fin) hd
 ·rcases hk with hk|hk
  ·exact Dr (wpAny_loadName_cell I.ok.kind hk hc hcell fin) hd
  ·exact Dr (wpAny_loadName_free I.ok.kind hk hc hcell fin hcd) hd
theorem zat{i j pos}:PE X (.Constant (.int i) j pos) (tC (.int i)):=fun _ _ _ H _ I h=>wpAny_Constant_int ⟨.int i,H,I.tok _,⟨_,rfl⟩,h⟩
theorem znl{b j pos}:PE X (.Constant (.bool b) j pos) (tC (.bl b)):=fun _ _ _ H _ I h=>Constant_bool ⟨.bl b,H,I,rfl,h⟩
theorem zmi{j pos}:PE X (.Constant .none j pos) (tC .non):=fun _ _ _ H _ I h=>Constant_none ⟨.non,H,I,rfl,h⟩
theorem zsk{x j pos}:PE X (.Constant (.str x) j pos) (tC (.str x)):=fun _ _ _ H _ I h=>Calls.Constant_str ⟨.str x,H,I.tok _,⟨_,rfl⟩,h⟩
def Gl(X:Cx)(x:Str):Prop:=X.env.kindOf x=some .globalImplicit
theorem ld_glob{E:kB->kC->Prop}{pins:List (Addr×Obj)}{s:kC}{σ:St}{H:Hp}{x:Str}{u:kB}{pos:Pos}{Q:kB->kC->Prop}(I:Inv X pins σ H s)(hg:Gl X x)(hm:X.mg x=some u)(h:Q u s)
  (hd:(x==("__debug__":Str))=false:=by decide):wpAny (model X.prog X.w) X.A (eval (.Name x pos) X.env) Q E s:=
 gf I.ok.kind hg (Calls.loadGlobal_global (by rw[I.ok.glob];exact I.mod.glob.keeps I.bk) hm h) hd
theorem zfg{E:kB->kC->Prop}{pins:List (Addr×Obj)}{s:kC}{σ:St}{H:Hp}{x:Str}{u:kB}{pos:Pos}{Q:kB->kC->Prop}(I:Inv X pins σ H s)(hg:Gl X x)(hm:X.mg x=none)(hv:uQ x=some u)(h:Q u s)
  (hn:x≠"__name__":=by decide)(hd:(x==("__debug__":Str))=false:=by decide):wpAny (model X.prog X.w) X.A (eval (.Name x pos) X.env) Q E s:=by
 obtain⟨mb,h1,h2⟩:=I.mod.blt;exact gf I.ok.kind hg (Calls.loadGlobal_builtin (by rw[I.ok.glob];exact I.mod.glob.keeps I.bk) hm (by rw[I.ok.blt];exact h1.keeps I.bk) ((h2 x hn).trans hv) h) hd
theorem zrc{x:Str}{v:V}{u:kB}{pos:Pos}(hg:Gl X x)(hm:X.mg x=none)(hv:uQ x=some u)(r:RelV v u)(hn:x≠"__name__":=by decide)(hd:(x==("__debug__":Str))=false:=by decide):PE X (.Name x pos) (tC v):=
 fun _ _ _ H _ I h=>zfg I hg hm hv ⟨v,H,I,r,h⟩ hn hd
variable{a b:Expr}{ta tb:TE}{pos:Pos}
def PC(X:Cx)(op:CmpOp)(a b:Expr)(t:TE):Prop:=
 ∀(pins:List (Addr×Obj))(s:kC)(σ:St)(H:Hp)(Q:VK),Inv X pins σ H s->t σ H Q->
  wpAny (model X.prog X.w) X.A (eval a X.env) (fun v s₁=>wpAny (model X.prog X.w) X.A (eval b X.env) (fun u s₂=>wpAny (model X.prog X.w) X.A (Qj op v u) (EP X pins σ Q) X.xe s₂) X.xe s₁) X.xe s
def tB(t:TE):TT:=fun σ H Q=>t σ H fun x H1=>∃c,x=.bl c/\Q c H1
theorem pt_cmp{op:CmpOp}{t:TE}(h:PC X op a b t)(h1:gB op b=false:=by first|exact nobehind _ (by decide) (by decide)|rfl):PT X (.Compare a [op] [b] pos) (tB t):=by
 intro pins s σ H Q I hw;refine BZ (thn (h pins s σ H _ I hw) fun v s1 h1=>thn h1 fun u s2 h2=>thn h2 fun c s3⟨x,H1,I1,r1,q1⟩=>?_) h1;obtain⟨d,rfl,q⟩:=q1
 cases r1;exact Qs ⟨H1,I1,q⟩
theorem zer{e:Expr}{t:TE}(h:PE X e t)(he:∀whole,isTrue e X.env whole=(do let v ←whole;standAt e.pos;holding [v] (truthy v)):=by intro _;rfl):PT X e (tB t):=by
 intro pins s σ H Q I hw;refine isTrue_plain (thn (h pins s σ H _ I hw) fun v s1⟨x,H1,I1,r1,q1⟩=>?_) (he _);obtain⟨d,rfl,q⟩:=q1
 cases r1;exact Qs ⟨H1,I1,q⟩
variable{tA tB':TT}{rest:List Expr}
def tAnd(t u:TT):TT:=fun σ H Q=>t σ H fun c H1=>if c=true then u σ H1 Q else Q false H1
def tOr(t u:TT):TT:=fun σ H Q=>t σ H fun c H1=>if c=true then Q true H1 else u σ H1 Q
def tNot(t:TT):TT:=fun σ H Q=>t σ H fun c H1=>Q (!c) H1
theorem zhl(ha:PT X a tA):PW X (.BoolOp .And [a] pos) tA:=by
 intro wh pins s σ H Q I h;refine isTrue_and (thn (ha pins s σ H Q I h) fun c s1 e=>?_)
 cases c with
 |true=>exact isTrue_and_nil e
 |false=>exact e
theorem zs3(ha:PT X a tA):PW X (.BoolOp .Or [a] pos) tA:=by
 intro wh pins s σ H Q I h;refine isTrue_or (thn (ha pins s σ H Q I h) fun c s1 e=>?_)
 cases c with
 |false=>exact isTrue_or_nil e
 |true=>exact e
theorem zk1(ha:PT X a tA)(hb:PW X (.BoolOp .And (b::rest) pos) tB'):PW X (.BoolOp .And (a::b::rest) pos) (tAnd tA tB'):=by
 intro wh pins s σ H Q I h;refine isTrue_and (thn (ha pins s σ H _ I h) fun c s1⟨H1,I1,q1⟩=>?_)
 cases c with
 |true=>exact hb wh pins s1 σ H1 Q I1 q1
 |false=>exact⟨H1,I1,q1⟩
theorem pw_or(ha:PT X a tA)(hb:PW X (.BoolOp .Or (b::rest) pos) tB'):PW X (.BoolOp .Or (a::b::rest) pos) (tOr tA tB'):=by
 intro wh pins s σ H Q I h;refine isTrue_or (thn (ha pins s σ H _ I h) fun c s1⟨H1,I1,q1⟩=>?_)
 cases c with
 |true=>exact⟨H1,I1,q1⟩
 |false=>exact hb wh pins s1 σ H1 Q I1 q1
theorem zkj(ha:PT X a tA):PT X (.UnaryOp .Not a pos) (tNot tA):=by
 intro pins s σ H Q I h;exact isTrue_not (ha pins s σ H (fun c H1=>Q (!c) H1) I h)
def zpx(ta tb:TE):TE:=fun σ H Q=>ta σ H fun x H1=>∃c,x=.bl c/\if c=true then tb σ H1 Q else Q (.bl false) H1
def tOrV(ta tb:TE):TE:=fun σ H Q=>ta σ H fun x H1=>∃c,x=.bl c/\if c=true then Q (.bl true) H1 else tb σ H1 Q
def zou(ta:TE):TE:=fun σ H Q=>ta σ H fun x H1=>∃c,x=.bl c/\Q (.bl (!c)) H1
theorem zqw{op}{t:TE}(h:PE X a t):PE X (.BoolOp op [a] pos) t:=fun pins s σ H Q I hw=>BoolOp_one (h pins s σ H Q I hw)
theorem zp0(ha:PE X a ta)(hb:PE X (.BoolOp .And (b::rest) pos) tb):PE X (.BoolOp .And (a::b::rest) pos) (zpx ta tb):=by
 intro pins s σ H Q I h;refine BoolOp_and (thn (ha pins s σ H _ I h) fun v s1⟨x,H1,I1,r1,q1⟩=>?_);obtain⟨c,rfl,q1⟩:=q1
 cases r1;refine Qs ?_
 cases c with
 |true=>exact hb pins s1 σ H1 Q I1 q1
 |false=>exact⟨.bl false,H1,I1,rfl,q1⟩
theorem zqu(ha:PE X a ta):PE X (.UnaryOp .Not a pos) (zou ta):=by
 intro pins s σ H Q I h;refine UnaryOp_ (thn (ha pins s σ H _ I h) fun v s1⟨x,H1,I1,r1,q1⟩=>?_);obtain⟨c,rfl,q1⟩:=q1
 cases r1;exact not_of (Qs ⟨.bl (!c),H1,I1,rfl,q1⟩)
def tIf(t:TT)(ta tb:TE):TE:=fun σ H Q=>t σ H fun c H1=>if c=true then ta σ H1 Q else tb σ H1 Q
theorem pe_ifExp{c:Expr}(hc:PT X c tA)(ha:PE X a ta)(hb:PE X b tb):PE X (.IfExp c a b pos) (tIf tA ta tb):=by
 intro pins s σ H Q I h;refine wpAny_IfExp (thn (hc pins s σ H _ I h) fun d s1⟨H1,I1,q1⟩=>?_)
 cases d with
 |true=>exact ha pins s1 σ H1 Q I1 q1
 |false=>exact hb pins s1 σ H1 Q I1 q1
end
def SqL(K:kJ)(H:Hp)(a:Addr)(xs:List V):Prop:=
 Rd H a (.lst xs)∨
  ∃(o:Obj)(its:Array kB)(n:Nat),K.lookup a=some o/\o.cls=.type "list"/\o.dict=none/\o.data=.seq its n/\its.size<=sizeLine/\Vals xs its.toList
def SqT(K:kJ)(H:Hp)(a:Addr)(xs:List V):Prop:=
 Rd H a (.tup xs)∨
  ∃(o:Obj)(its:Array kB)(n:Nat),K.lookup a=some o/\o.cls=.type "tuple"/\o.data=.seq its n/\its.size<=sizeLine/\Vals xs its.toList
def absV:kB->Option V
 |.none=>some .non
 |.bool b=>some (.bl b)
 |.int i _=>some (.int i)
 |.str x _=>some (.str x)
 |.bytes b _=>some (.byt b)
 |.float b _=>some (.flt b)
 |.ref a=>some (.ref a)
 |.type n=>some (.ty n)
 |_=>none
theorem RelV.abs{x:V}{u:kB}(r:RelV x u):absV u=some x:=by
 cases x with
 |non=>cases r;rfl
 |bl _=>cases r;rfl
 |int _=>obtain⟨t,rfl⟩:=r;rfl
 |str _=>obtain⟨t,rfl⟩:=r;rfl
 |byt _=>obtain⟨t,rfl⟩:=r;rfl
 |flt _=>obtain⟨t,rfl⟩:=r;rfl
 |ref _=>cases r;rfl
 |ty _=>cases r;rfl
theorem RelV.inj{x y:V}{u:kB}(r:RelV x u)(q:RelV y u):x=y:=pV (r.abs.symm.trans q.abs)
theorem Vals.inj:∀{xs ys:List V}{us:List kB},Vals xs us->Vals ys us->xs=ys
 |_,_,_,.nil,.nil=>rfl
 |_,_,_,.cons r t,.cons r' t'=>by rw[r.inj r',Vals.inj t t']
section
variable{X:Cx}{pins:List (Addr×Obj)}{σ:St}{H:Hp}{s:kC}{a:Addr}{xs ys:List V}
theorem SqL.of{K:kJ}(h:H a=some (.lst xs)):SqL K H a xs:=.inl (.inl h)
theorem SqT.of{K:kJ}(h:H a=some (.tup xs)):SqT K H a xs:=.inl (.inl h)
theorem Inv.list(I:Inv X pins σ H s)(h:SqL X.K H a xs):∃its:List kB,Vals xs its/\PlainL s.heap a its.toArray/\xs.length<=sizeLine:=by
 rcases h with h|⟨o,its,n,hk,hc,hd,hs,hz,r⟩
 ·obtain⟨z,its,n,r,e⟩:=h.ok I.hok;exact⟨its,r,⟨_,n,e,rfl,rfl,rfl⟩,z⟩
 ·refine⟨its.toList,r,⟨o,n,I.kIn a o hk,hc,hd,by simpa using hs⟩,?_⟩
  have e:=r.length;simp only[kT] at e;omega
theorem Inv.tuple(I:Inv X pins σ H s)(h:SqT X.K H a xs):∃its:List kB,Vals xs its/\IsTup s.heap a its.toArray/\xs.length<=sizeLine:=by
 rcases h with h|⟨o,its,n,hk,hc,hs,hz,r⟩
 ·obtain⟨z,its,r,p⟩:=h.ok I.hok;exact⟨its,r,p,z⟩
 ·refine⟨its.toList,r,⟨o,I.kIn a o hk,hc,n,by simpa using hs⟩,?_⟩
  have e:=r.length;simp only[kT] at e;omega
theorem Inv.list_inj(I:Inv X pins σ H s)(h:SqL X.K H a xs)(h':SqL X.K H a ys):xs=ys:=by
 obtain⟨its,r,⟨o,n,e,_,_,d⟩,_⟩:=I.list h;obtain⟨its',r',⟨o',n',e',_,_,d'⟩,_⟩:=I.list h';rw[e] at e';cases e';rw[d] at d'
 injection d' with d1 _
 have:its=its':=by simpa using congrArg ES d1
 subst this;exact r.inj r'
theorem Inv.tuple_inj(I:Inv X pins σ H s)(h:SqT X.K H a xs)(h':SqT X.K H a ys):xs=ys:=by
 obtain⟨its,r,⟨o,e,_,n,d⟩,_⟩:=I.tuple h;obtain⟨its',r',⟨o',e',_,n',d'⟩,_⟩:=I.tuple h';rw[e] at e';cases e';rw[d] at d'
 injection d' with d1 _
 have:its=its':=by simpa using congrArg ES d1
 subst this;exact r.inj r'
end
abbrev Cx.wish(X:Cx)(E:kB->kC->Prop):Cx:={X with xe:=E}
abbrev Cx.nox(X:Cx):Cx:=X.wish fun _ _=>False
theorem Cx.Ok.wish{X:Cx}(ok:X.Ok)(E:kB->kC->Prop):(X.wish E).Ok:=
 ⟨ok.mod,ok.kind,ok.glob,ok.blt,ok.above,ok.inj,ok.has,ok.cab,ok.hd,ok.frames,ok.stk,ok.exf,ok.bs,ok.bsz,ok.noex,ok.exfs,ok.funs,ok.frf⟩
theorem Cx.Ok.unwish{X:Cx}{E:kB->kC->Prop}(ok:(X.wish E).Ok):X.Ok:=
 ⟨ok.mod,ok.kind,ok.glob,ok.blt,ok.above,ok.inj,ok.has,ok.cab,ok.hd,ok.frames,ok.stk,ok.exf,ok.bs,ok.bsz,ok.noex,ok.exfs,ok.funs,ok.frf⟩
section
variable{X:Cx}{pins:List (Addr×Obj)}{σ:St}{H:Hp}{s:kC}{E:kB->kC->Prop}
theorem Inv.wish(I:Inv X pins σ H s)(E:kB->kC->Prop):Inv (X.wish E) pins σ H s:=⟨I.ok.wish E,I.os,I.bare,I.base,I.loc,I.cell,I.free,I.freeC,I.pin,I.hok,I.len⟩
theorem Inv.unwish(I:Inv (X.wish E) pins σ H s):Inv X pins σ H s:=⟨I.ok.unwish,I.os,I.bare,I.base,I.loc,I.cell,I.free,I.freeC,I.pin,I.hok,I.len⟩
theorem SP.unwish{D:Ends}{f:Flow}{s':kC}(h:SP (X.wish E) pins D f s'):SP X pins D f s':=by
 cases f with
 |next=>obtain⟨σ',H',I,q⟩:=h;exact⟨σ',H',I.unwish,q⟩
 |brk=>obtain⟨σ',H',I,q⟩:=h;exact⟨σ',H',I.unwish,q⟩
 |cont=>obtain⟨σ',H',I,q⟩:=h;exact⟨σ',H',I.unwish,q⟩
 |ret u=>obtain⟨v,σ',H',I,r,q⟩:=h;exact⟨v,σ',H',I.unwish,r,q⟩
theorem PSs.nox{st:List Stmt}{t:TS}(h:PSs X.nox st t):PSs X st t:=fun pins s σ H D I hw=>
 uS (h pins s σ H D (I.wish _) hw) (fun _ _ q=>q.unwish) fun _ _ z=>uz z
end
section
variable{X:Cx}{st:Stmt}{rest:List Stmt}{t u:TS}{e:Expr}{te:TE}{pos:Pos}
def zpf:TS:=fun D σ H=>D.nx σ H
def tSeq(t u:TS):TS:=fun D σ H=>t {D with nx:=u D} σ H
theorem zau:PSs X [] zpf:=fun _ _ σ H _ I h=>gL ⟨σ,H,I,h⟩
theorem zad(h1:PS X st t)(h2:PSs X rest u):PSs X (st::rest) (tSeq t u):=by
 intro pins s σ H D I h;refine DE (thn (h1 pins s σ H {D with nx:=u D} I h) fun f s1 q=>?_)
 cases f with
 |next=>
  obtain⟨σ',H',I',q⟩:=q;exact h2 pins s1 σ' H' D I' q
 |ret v=>exact q
 |brk=>exact q
 |cont=>exact q
theorem zac(h1:PS X st t):PSs X [st] t:=by
 intro pins s σ H D I h;refine DE (thn (h1 pins s σ H D I h) fun f s1 q=>?_)
 cases f with
 |next=>exact gL q
 |ret v=>exact q
 |brk=>exact q
 |cont=>exact q
theorem Inv.quiet{pins:List (Addr×Obj)}{σ:St}{H:Hp}{s:kC}(I:Inv X pins σ H s):interactive X.env=false:=by simp[interactive,I.ok.kind]
def zt7(te:TE):TS:=fun D σ H=>te σ H fun _ H1=>D.nx σ H1
theorem zf4(he:PE X e te)(hs:DF e none pos.line X.env=pure false:=by rfl):PS X (.Expr e pos) (zt7 te):=by
 intro pins s σ H D I h;exact wpAny_Expr_any (thn (he pins s σ H _ I h) fun v s1⟨x,H1,I1,r1,q1⟩=>⟨σ,H1,I1,q1⟩) I.quiet hs
def tRet(te:TE):TS:=fun D σ H=>te σ H D.rt
theorem zaj(he:PE X e te):PS X (.Return (some e) pos) (tRet te):=by
 intro pins s σ H D I h;exact wpAny_Return_some (thn (he pins s σ H _ I h) fun v s1⟨x,H1,I1,r1,q1⟩=>⟨x,σ,H1,I1,r1,q1⟩)
def tRetN:TS:=fun D _ H=>D.rt .non H
def tIfS(c:TT)(t u:TS):TS:=fun D σ H=>c σ H fun b H1=>if b=true then t D σ H1 else u D σ H1
theorem zdb{c:Expr}{a b:List Stmt}{tc:TT}(hc:PT X c tc)(ha:PSs X a t)(hb:PSs X b u):PS X (.If c a b pos) (tIfS tc t u):=by
 intro pins s σ H D I h;refine wpAny_If (thn (hc pins s σ H _ I h) fun d s1⟨H1,I1,q1⟩=>?_)
 cases d with
 |true=>exact ha pins s1 σ H1 D I1 q1
 |false=>exact hb pins s1 σ H1 D I1 q1
def tNever:TS:=fun _ _ _=>False
theorem ps_never:PS X st tNever:=fun _ _ _ _ _ _ h=>h.elim
end
abbrev TG:=V->St->Hp->(St->Hp->Prop)->Prop
abbrev TGs:=List V->St->Hp->(St->Hp->Prop)->Prop
def PG(X:Cx)(target:Expr)(t:TG):Prop:=
 ∀(pins:List (Addr×Obj))(s:kC)(σ:St)(H:Hp)(v:V)(u:kB)(Q:St->Hp->Prop),Inv X pins σ H s->RelV v u->t v σ H Q->
  wpAny (model X.prog X.w) X.A (assign target X.env u) (fun _ s'=>∃σ' H',Inv X pins σ' H' s'/\Q σ' H') X.xe s
def PGs(X:Cx)(ts:List Expr)(t:TGs):Prop:=
 ∀(pins:List (Addr×Obj))(s:kC)(σ:St)(H:Hp)(vs:List V)(us:List kB)(Q:St->Hp->Prop),Inv X pins σ H s->Vals vs us->t vs σ H Q->
  wpAny (model X.prog X.w) X.A (assignInOrder ((jz ts X.env).map (·.2)) us) (fun _ s'=>∃σ' H',Inv X pins σ' H' s'/\Q σ' H') X.xe s
section
variable{X:Cx}{pos:Pos}
def gName(i:Nat):TG:=fun v σ H Q=>Q (σ.set i (some v)) H
theorem zbw{i:Nat}{x:Str}(hN:X.N.Nodup)(hi:X.N[i]?=some x)(hx:Loc X.env.scope x)(hf:X.fn x=true∨X.env.scope.names.lookup x=some .local:=by first|exact .inl rfl|exact .inr rfl|assumption):PG X (.Name x pos) (gName i):=by
 intro pins s σ H v u Q I r h;exact Cf (zj6 I hN hi hx r (fun s' I'=>⟨_,H,I',h⟩) hf)
def gNil:TGs:=fun vs σ H Q=>vs=[]/\Q σ H
def gCons(t:TG)(u:TGs):TGs:=fun vs σ H Q=>∃v r,vs=v::r/\t v σ H fun σ' H'=>u r σ' H' Q
theorem zgh:PGs X [] gNil:=by
 intro pins s σ H vs us Q I r h;obtain⟨e,h⟩:=h;subst e
 cases r;exact assignInOrder_nil ⟨σ,H,I,h⟩
theorem zfb{e:Expr}{es:List Expr}{t:TG}{u:TGs}(h1:PG X e t)(h2:PGs X es u)
  (hs:(jz (e::es) X.env).map (·.2)=assign e X.env::(jz es X.env).map (·.2):=by rfl):PGs X (e::es) (gCons t u):=by
 intro pins s σ H vs us Q I r h;obtain⟨v,vr,e1,h⟩:=h;subst e1
 cases r with
 |cons r rr=>
  rw[hs];refine assignInOrder_cons (thn (h1 pins s σ H _ _ _ I r h) fun _ s1⟨σ1,H1,I1,q1⟩=>?_);exact h2 pins s1 σ1 H1 _ _ Q I1 rr q1
def gTup(K:kJ)(n:Nat)(t:TGs):TG:=fun v σ H Q=>∃a xs,v=.ref a/\SqT K H a xs/\xs.length=n/\t xs σ H Q
theorem zk4{es:List Expr}{k:Nat}{t:TGs}{n:Nat}(hc:X.calm=true)(h:PGs X es t)
  (hn:(jz es X.env).length=n:=by rfl)(hst:(jz es X.env).findIdx? (·.1)=none:=by rfl):PG X (.Tuple es k pos) (gTup X.K n t):=by
 intro pins s σ H v u Q I r hw;obtain⟨a,xs,e1,hq,hl,hw⟩:=hw;subst e1
 cases r;obtain⟨its,rv,ht,hz⟩:=I.tuple hq;refine assign_Tuple_tuple (I.ok.hd hc) ht (by simp[hn,←hl,rv.length]) hst fun h' hx=>?_
 have I1:Inv X pins σ H {s with heap:=h'}:=I.kept (t':=s.toks) fun b o e=>hx b o (pL (ki e)) e;exact h pins _ σ H xs _ Q I1 (by simpa using rv) hw
def tAsg(te:TE)(g:TG):TS:=fun D σ H=>te σ H fun x H1=>g x σ H1 D.nx
theorem zbv{i:Nat}{x:Str}{e:Expr}{te:TE}{pos':Pos}(hN:X.N.Nodup)(hi:X.N[i]?=some x)(hx:Loc X.env.scope x)(he:PE X e te)(hs:DF e (some (.Name x pos')) pos.line X.env=pure false:=by rfl)(hf:X.fn x=true∨X.env.scope.names.lookup x=some .local:=by first|exact .inl rfl|exact .inr rfl|assumption):
  PS X (.Assign [.Name x pos'] e pos) (tAsg te (gName i)):=by
 intro pins s σ H D I h;refine wpAny_Assign_Name (thn (he pins s σ H _ I h) fun v s1⟨y,H1,I1,r1,q1⟩=>?_) hs;exact zj6 I1 hN hi hx r1 (fun s2 I2=>⟨_,H1,I2,q1⟩) hf
end
section
variable{X:Cx}{pos:Pos}
def tWhile(c:TT)(tb:TS):TS:=fun D σ H=>∃W:Nat->St->Hp->Prop,(∃m,W m σ H)/\∀m σ H,W m σ H->
 c σ H fun b H1=>if b=true then ∃N:St->Hp->Prop,(∀σ' H',N σ' H'->∃m',m'<m/\W m' σ' H')/\tb {D with nx:=N,ct:=N,bk:=D.nx} σ H1 else D.nx σ H1
theorem ps_while{c:Expr}{body:List Stmt}{tc:TT}{tb:TS}(hp:PassesOwn (model X.prog X.w) X.A X.env X.xe)(hc:PT X c tc)(hb:PSs X body tb):PS X (.While c body [] pos) (tWhile tc tb):=by
 intro pins s σ H D I h;obtain⟨W,⟨m0,w0⟩,turn⟩:=h;refine wpAny_While (codeAny_whileLoop (fun n s'=>∃σ' H',Inv X pins σ' H' s'/\W n σ' H') ?_ m0 ⟨σ,H,I,w0⟩);rintro n s1 ⟨σ1,H1,I1,w1⟩;refine Ue hp (thn (hc pins s1 σ1 H1 _ I1 (turn n σ1 H1 w1)) fun b s2⟨H2,I2,q2⟩=>?_)
 cases b with
 |true=>
  obtain⟨N,hN,q2⟩:=q2;rw[if_pos rfl];refine Ue hp (thn (hb pins s2 σ1 H2 _ I2 q2) fun f s3 q3=>?_)
  cases f with
  |next=>
   obtain⟨σ3,H3,I3,n3⟩:=q3;obtain⟨m',hm,w3⟩:=hN σ3 H3 n3;exact⟨m',hm,σ3,H3,I3,w3⟩
  |cont=>
   obtain⟨σ3,H3,I3,n3⟩:=q3;obtain⟨m',hm,w3⟩:=hN σ3 H3 n3;exact⟨m',hm,σ3,H3,I3,w3⟩
  |brk=>exact q3
  |ret v=>exact q3
 |false=>
  rw[if_neg pI];exact gL ⟨σ1,H2,I2,q2⟩
end
structure It where
 go:Nat->Hp->Prop
 yld:Nat->Hp->V->Hp->Prop
 stop:Nat->Hp->Prop
def FpOk(X:Cx)(pins:List (Addr×Obj))(H:Hp)(b:Addr):Prop:=
 H b=none/\b≠X.env.locals/\b∉X.fs/\(b∈X.ex∨X.s₀.heap.objs.size<=b)/\(∀x c,X.env.cells.lookup x=some c->c≠b)/\∀p∈X.pn++pins,p.1≠b
theorem Inv.fpOk{X:Cx}{pins:List (Addr×Obj)}{σ:St}{H H':Hp}{s:kC}{b:Addr}(I:Inv X pins σ H s)(hb:s.heap.objs.size<=b)(hn:H' b=none):FpOk X pins H' b:=by
 refine⟨hn,jZ (ku I.lt hb),I.nofs hb,.inr (pP I.sz hb),fun x c e z=>?_,fun p hp z=>?_⟩
 ·obtain⟨v,q⟩:=I.cell x c e;exact absurd (ku q.lt (by rw[z];exact hb)) (UD _)
 ·exact absurd (ku (ki (I.pin p hp).1) (by rw[z];exact hb)) (UD _)
structure Turn(P:ko)(w:pN)(K:kJ)(tg:Expr)(J:It)(fp:List Addr)(it:Addr)(tn:Nat->Heap->Prop):Prop where
 mem:it∈fp
 obj:∀i h,tn i h->∀b∈fp,∃o,h.get? b=some o/\∀v,o.data≠.cell v
 keep:∀i h h',tn i h->(∀b∈fp,∀o,h.get? b=some o->h'.get? b=some o)->tn i h'
 item:∀(X:Cx),X.prog=P->X.w=w->X.K=K->X.calm=true->∀(i:Nat)(pins:List (Addr×Obj))(s:kC)(σ:St)(H:Hp)(E:kB->kC->Prop),Inv X pins σ H s->(∀b∈fp,FpOk X pins H b)->tn i s.heap->J.go i H->
  wpAny (model P w) X.A (Ac (.ref it)) (fun r s1=>∃u,r=some u/\
   wpAny (model P w) X.A (gM tg (.ref it) u) (fun _ s2=>∃x H',Inv X pins σ H' s2/\RelV x u/\J.yld i H x H'/\tn (i+1) s2.heap/\∀b∈fp,H' b=none) E s1) E s
 done:∀(X:Cx),X.prog=P->X.w=w->X.K=K->X.calm=true->∀(i:Nat)(pins:List (Addr×Obj))(s:kC)(σ:St)(H:Hp)(E:kB->kC->Prop),Inv X pins σ H s->(∀b∈fp,FpOk X pins H b)->tn i s.heap->J.stop i H->
  wpAny (model P w) X.A (Ac (.ref it)) (fun r s1=>r=none/\Inv X pins σ H s1) E s
 self:∀(A:pO)(i:Nat)(s:kC)(Q:kB->kC->Prop)(E:kB->kC->Prop),tn i s.heap->Q (.ref it) s->wpAny (model P w) A (pyIter (.ref it)) Q E s
abbrev TI:=St->Hp->(It->Hp->Prop)->Prop
def PIE(X:Cx)(pins:List (Addr×Obj))(σ:St)(tg:Expr)(R:It->Hp->Prop)(itv:kB)(s2:kC):Prop:=
 ∃(it:Addr)(fp:List Addr)(tn:Nat->Heap->Prop)(J:It)(H':Hp),itv=.ref it/\Inv X pins σ H' s2/\Turn X.prog X.w X.K tg J fp it tn/\tn 0 s2.heap/\(∀b∈fp,FpOk X pins H' b)/\R J H'
def PI(X:Cx)(tg iter:Expr)(wi:TI):Prop:=
 ∀(pins:List (Addr×Obj))(s:kC)(σ:St)(H:Hp)(R:It->Hp->Prop),Inv X pins σ H s->wi σ H R->
  wpAny (model X.prog X.w) X.A (eval iter X.env) (fun v s1=>wpAny (model X.prog X.w) X.A (pyIter v) (PIE X pins σ tg R) X.xe s1) X.xe s
theorem go_of{M:Model}{A:pO}{E:kB->kC->Prop}{s:kC}{tg:Expr}{it:Addr}{u:kB}{o:Obj}{n:String}{vs:Array kB}{Q:Unit->kC->Prop}(ho:s.heap.get? it=some o)(hc:o.cls=.type n)(hd:o.data=.fields vs)
  (hn:["enumerate","zip","dict_itemiterator","dict_reverseitemiterator","odict_iterator","itertools.zip_longest","itertools.pairwise"].contains n=false)(hQ:Q () s):wpAny M A (gM tg (.ref it) u) Q E s:=by
 unfold gM
 cases tg<;>first
  |exact kL hQ
  |(cases u<;>first
    |exact kL hQ
    |(refine kA (wpAny_load ho ?_)
      rw[hc,hd];show wpAny M A (if(["enumerate","zip","dict_itemiterator","dict_reverseitemiterator","odict_iterator","itertools.zip_longest","itertools.pairwise"].contains n&&vs[0]?==some (UR _))=true then _ else _) Q E s;rw[if_neg (by intro h;rw[hn,Bh] at h;cases h)]
      exact kL hQ))
def Itl(K:kJ)(a:Addr):It:=
 ⟨fun i H=>∃xs x,SqL K H a xs/\xs[i]?=some x,fun i H x H'=>H'=H/\∀xs,SqL K H a xs->xs[i]?=some x,fun i H=>∃xs,SqL K H a xs/\xs.length<=i⟩
def Itt(K:kJ)(a:Addr):It:=
 ⟨fun i H=>∃xs x,SqT K H a xs/\xs[i]?=some x,fun i H x H'=>H'=H/\∀xs,SqT K H a xs->xs[i]?=some x,fun i H=>∃xs,SqT K H a xs/\xs.length<=i⟩
def Itr(lo:Int)(n:Nat):It:=⟨fun i _=>i<n,fun i H x H'=>H'=H/\x=.int (lo+i),fun i _=>n<=i⟩
theorem zoq{P:ko}{w:pN}{K:kJ}{tg:Expr}(a it:Addr):Turn P w K tg (Itl K a) [it] it (fun i h=>h.IsListIter it a i) where
 mem:=by simp
 obj:=fun i h st b hb=>by
  have e:b=it:=by simpa using hb
  subst e;obtain⟨o,e,c,d⟩:=st;exact⟨o,e,fun v z=>by rw[d] at z;cases z⟩
 keep:=fun i h h' st k=>st.at fun o e=>k it (by simp) o e
 item:=by
  intro X hP hw hK hc i pins s σ H E I hf st hg;subst hP hw hK;obtain⟨xs,x,hq,hx⟩:=hg;obtain⟨its,rv,p,hz⟩:=I.list hq;obtain⟨u,hu,ru⟩:=rv.get hx;obtain⟨f0,f1,f2,f3,f4,f5⟩:=hf it (by simp)
  refine wpAny_pyNext_list_item st p.isList (x:=u) (by simpa using hu) fun h' st' sb=>?_
  have I1:Inv X pins σ H {s with heap:=h'}:=I.turned (t':=s.toks) (fun b o hb e=>(sb.2 b hb).trans e) f0 f1 f3 f4 f5;obtain⟨o,e,c,d⟩:=id st';exact⟨u,rfl,go_of (s:={s with heap:=h'}) e c d (by decide) ⟨x,H,I1,ru,⟨rfl,fun ys hy=>by rw[I.list_inj hy hq];exact hx⟩,st',fun b hb=>(hf b hb).1⟩⟩
 done:=by
  intro X hP hw hK hc i pins s σ H E I hf st hg;subst hP hw hK;obtain⟨xs,hq,hx⟩:=hg;obtain⟨its,rv,p,hz⟩:=I.list hq;obtain⟨f0,f1,f2,f3,f4,f5⟩:=hf it (by simp)
  have hl:=rv.length;exact wpAny_pyNext_list_end (I.ok.hd hc) st p.isList (by simp;omega) fun h' eb=>⟨rfl,I.turned (t':=s.toks) (fun b o hb e=>eb b o hb e) f0 f1 f3 f4 f5⟩
 self:=fun _ _ _ _ _ st h=>wpAny_pyIter_listiter st h
theorem zoa{P:ko}{w:pN}{K:kJ}{tg:Expr}(a it:Addr):Turn P w K tg (Itt K a) [it] it (fun i h=>h.IsTupleIter it a i) where
 mem:=by simp
 obj:=fun i h st b hb=>by
  have e:b=it:=by simpa using hb
  subst e;obtain⟨o,e,c,d⟩:=st;exact⟨o,e,fun v z=>by rw[d] at z;cases z⟩
 keep:=fun i h h' st k=>st.at fun o e=>k it (by simp) o e
 item:=by
  intro X hP hw hK hc i pins s σ H E I hf st hg;subst hP hw hK;obtain⟨xs,x,hq,hx⟩:=hg;obtain⟨its,rv,p,hz⟩:=I.tuple hq;obtain⟨u,hu,ru⟩:=rv.get hx;obtain⟨f0,f1,f2,f3,f4,f5⟩:=hf it (by simp)
  refine wpAny_pyNext_tuple_item st (show s.heap.IsTuple a its.toArray from p) (x:=u) (by simpa using hu) fun h' st' sb=>?_
  have I1:Inv X pins σ H {s with heap:=h'}:=I.turned (t':=s.toks) (fun b o hb e=>(sb.2 b hb).trans e) f0 f1 f3 f4 f5;obtain⟨o,e,c,d⟩:=id st';exact⟨u,rfl,go_of (s:={s with heap:=h'}) e c d (by decide) ⟨x,H,I1,ru,⟨rfl,fun ys hy=>by rw[I.tuple_inj hy hq];exact hx⟩,st',fun b hb=>(hf b hb).1⟩⟩
 done:=by
  intro X hP hw hK hc i pins s σ H E I hf st hg;subst hP hw hK;obtain⟨xs,hq,hx⟩:=hg;obtain⟨its,rv,p,hz⟩:=I.tuple hq;obtain⟨f0,f1,f2,f3,f4,f5⟩:=hf it (by simp)
  have hl:=rv.length;exact wpAny_pyNext_tuple_end (I.ok.hd hc) st (show s.heap.IsTuple a its.toArray from p) (by simp;omega) fun h' eb=>⟨rfl,I.turned (t':=s.toks) (fun b o hb e=>eb b o hb e) f0 f1 f3 f4 f5⟩
 self:=fun _ _ _ _ _ st h=>wpAny_pyIter_tupleiter st h
theorem znp{P:ko}{w:pN}{K:kJ}{tg:Expr}(it:Addr)(lo:Int)(n:Nat):Turn P w K tg (Itr lo n) [it] it (fun i h=>IsRangeIter h it (lo+(i:Nat)*1) ((n:Int)-(i:Nat)) 1) where
 mem:=by simp
 obj:=fun i h st b hb=>by
  have e:b=it:=by simpa using hb
  subst e;exact⟨_,st,fun v z=>by
   have z':DU _=Aj v:=z
   cases z'⟩
 keep:=fun i h h' st k=>k it (by simp) _ st
 item:=by
  intro X hP hw hK hc i pins s σ H E I hf st hg;subst hP hw hK;obtain⟨f0,f1,f2,f3,f4,f5⟩:=hf it (by simp)
  have W:=Walks.range (prog:=X.prog) (w:=X.w) (I.ok.hd hc) it lo 1 n;refine W.item i s _ _ hg st fun v h' tk hv st' kk=>?_;obtain⟨t,rfl⟩:=hv;have I1:Inv X pins σ H {s with heap:=h',toks:=tk}:=I.turned (fun b o hb e=>kk b o (by simpa using hb) e) f0 f1 f3 f4 f5
  refine⟨_,rfl,go_of (s:={s with heap:=h',toks:=tk}) (n:="range_iterator") st' rfl rfl (by decide) ⟨.int (lo+i),H,I1,⟨t,?_⟩,⟨rfl,rfl⟩,st',fun b hb=>(hf b hb).1⟩⟩
  rw[Int.mul_one]
 done:=by
  intro X hP hw hK hc i pins s σ H E I hf st hg;subst hP hw hK;obtain⟨f0,f1,f2,f3,f4,f5⟩:=hf it (by simp)
  exact wpAny_pyNext_range_end (I.ok.hd hc) st (by have:n<=i:=hg;omega) fun h' eb=>⟨rfl,I.turned (t':=s.toks) (fun b o hb e=>eb b o hb e) f0 f1 f3 f4 f5⟩
 self:=fun _ _ _ _ _ st h=>wpAny_pyIter_rangeiter st h
section
variable{X:Cx}{tg:Expr}
def zcm(K:kJ)(tl:TE):TI:=fun σ H R=>tl σ H fun x H1=>∃a,x=.ref a/\(∃xs,SqL K H1 a xs)/\R (Itl K a) H1
def iTup(K:kJ)(tl:TE):TI:=fun σ H R=>tl σ H fun x H1=>∃a,x=.ref a/\(∃xs,SqT K H1 a xs)/\R (Itt K a) H1
theorem zc4{l:Expr}{tl:TE}(hl:PE X l tl):PI X tg l (zcm X.K tl):=by
 intro pins s σ H R I h;refine thn (hl pins s σ H _ I h) fun v s1⟨x,H1,I1,r1,q1⟩=>?_;obtain⟨a,e,⟨xs,hq⟩,q⟩:=q1;subst e
 cases r1;obtain⟨its,rv,p,hz⟩:=I1.list hq;refine Cg p.isList ?_;refine⟨s1.heap.objs.size,[s1.heap.objs.size],_,_,H1,rfl,I1.kept (t':=s1.toks) fun b o e=>kI _ e,zoq a _,⟨_,kh _ rfl,rfl,rfl⟩,fun b hb=>?_,q⟩;have e:b=s1.heap.objs.size:=by simpa using hb
 subst e;exact I1.fpOk (kM _) (I1.hok.fresh (kM _))
theorem pi_tup{l:Expr}{tl:TE}(hl:PE X l tl):PI X tg l (iTup X.K tl):=by
 intro pins s σ H R I h;refine thn (hl pins s σ H _ I h) fun v s1⟨x,H1,I1,r1,q1⟩=>?_;obtain⟨a,e,⟨xs,hq⟩,q⟩:=q1;subst e
 cases r1;obtain⟨its,rv,p,hz⟩:=I1.tuple hq;refine gh (show s1.heap.IsTuple a its.toArray from p) ?_;refine⟨s1.heap.objs.size,[s1.heap.objs.size],_,_,H1,rfl,I1.kept (t':=s1.toks) fun b o e=>kI _ e,zoa a _,⟨_,kh _ rfl,rfl,rfl⟩,fun b hb=>?_,q⟩;have e:b=s1.heap.objs.size:=by simpa using hb
 subst e;exact I1.fpOk (kM _) (I1.hok.fresh (kM _))
theorem range_it{pins:List (Addr×Obj)}{σ:St}{H:Hp}{s:kC}{R:It->Hp->Prop}{E:kB->kC->Prop}{lo hi:Int}{t u v:Tok}{tk:Nat}(I:Inv X pins σ H s)(h1: -(2^62)<=lo)(h2:lo<2^62)(h3: -(2^62)<=hi)(h4:hi<2^62)
  (q:R (Itr lo (hi-lo).toNat) H):wpAny (model X.prog X.w) X.A (pyIter (.ref s.heap.objs.size)) (PIE X pins σ tg R) E {s with heap:=s.heap.push {cls:=.type "range",data:=.fields #[.int lo t,.int hi u,.int 1 v]},toks:=tk}:=by
 refine wpAny_pyIter_range (IsRange.new ..) (small_one h1 h2 h3 h4) ?_;have I1:Inv X pins σ H {s with heap:=s.heap.push {cls:=.type "range",data:=.fields #[.int lo t,.int hi u,.int 1 v]},toks:=tk}:=I.kept fun b o e=>kI _ e;refine⟨(s.heap.push {cls:=.type "range",data:=.fields #[.int lo t,.int hi u,.int 1 v]}).objs.size,[(s.heap.push {cls:=.type "range",data:=.fields #[.int lo t,.int hi u,.int 1 v]}).objs.size],_,_,H,rfl,
  I1.kept (t':=tk) fun b o e=>kI _ e,znp _ lo (hi-lo).toNat,?_,fun b hb=>?_,q⟩
 ·have e1:lo+((0:Nat):Int)*1=lo:=by simp
  have e2:(((hi-lo).toNat:Nat):Int)-((0:Nat):Int)=Ak lo hi 1:=by rw[rangeSize_one];split<;>omega
  show IsRangeIter _ _ (lo+((0:Nat):Int)*1) ((((hi-lo).toNat:Nat):Int)-((0:Nat):Int)) 1
  rw[e1,e2];exact kh _ rfl
 ·have e:b=(s.heap.push {cls:=.type "range",data:=.fields #[.int lo t,.int hi u,.int 1 v]}).objs.size:=by simpa using hb
  subst e;exact I1.fpOk (kM _) (I1.hok.fresh (kM _))
def zof(ta:TA):TI:=fun σ H R=>ta σ H fun vs H1=>∃j:Int,vs=[.int j]/\ -(2^62)<=j/\j<2^62/\R (Itr 0 j.toNat) H1
theorem zhx{a:Expr}{ta:TA}{p pos:Pos}(hg:Gl X "range")(hm:X.mg "range"=none)(ha:PA X [a] ta)(hs:uF [a] X.env=[(false,eval a X.env)]:=by rfl):PI X tg (.Call (.Name "range" p) [a] [] pos) (zof ta):=by
 intro pins s σ H R I h;refine Call_ (zfg I hg hm boot_range (Qp (thn (ha pos pins s σ H _ I h) fun us s1⟨vs,H1,I1,r1,q1⟩=>?_) hs rfl));obtain⟨j,e,q1,q2,q⟩:=q1;subst e
 cases r1 with
 |cons r rr=>
  cases rr;obtain⟨t,rfl⟩:=r;exact call_range_1 (range_it I1 (by omega) (by omega) q1 q2 (by simpa using q))
def tFor(wi:TI)(g:TG)(tb:TS):TS:=fun D σ H=>wi σ H fun J H1=>∃W:Nat->Nat->St->Hp->Prop,(∃m,W 0 m σ H1)/\∀i m σ H,W i m σ H->
 (J.stop i H/\D.nx σ H)∨(J.go i H/\∃N:St->Hp->Prop,(∀σ' H',N σ' H'->∃m',m'<m/\W (i+1) m' σ' H')/\∀x H',J.yld i H x H'->g x σ H' fun σ2 H2=>tb {D with nx:=N,ct:=N,bk:=D.nx} σ2 H2)
def zk9(fp:List Addr)(h:Heap):List (Addr×Obj):=fp.filterMap fun b=>(h.get? b).map fun o=>(b,o)
theorem zfd{fp:List Addr}{h:Heap}{b:Addr}{o:Obj}(hb:b∈fp)(e:h.get? b=some o):(b,o)∈zk9 fp h:=List.mem_filterMap.mpr ⟨b,hb,by rw[e];rfl⟩
theorem zse{fp:List Addr}{h:Heap}{p:Addr×Obj}(hp:p∈zk9 fp h):p.1∈fp/\h.get? p.1=some p.2:=by
 obtain⟨b,hb,e⟩:=List.mem_filterMap.mp hp
 cases q:h.get? b with
 |none=>rw[q] at e;cases e
 |some o=>
  rw[q] at e;have e':(b,o)=p:=pV e;subst e';exact⟨hb,q⟩
theorem Inv.pinned{pins:List (Addr×Obj)}{σ:St}{H:Hp}{s:kC}{fp:List Addr}(I:Inv X pins σ H s)(hf:∀b∈fp,FpOk X pins H b)(ho:∀b∈fp,∃o,s.heap.get? b=some o/\∀v,o.data≠.cell v):Inv X (pins++zk9 fp s.heap) σ H s:=
 I.pins_of fun p hp=>(kY.mp hp).elim (fun z=>I.pin p (kN _ z)) fun z=>by
  obtain⟨hb,e⟩:=zse z;obtain⟨f0,f1,f2,_⟩:=hf p.1 hb;obtain⟨o,e',d⟩:=ho p.1 hb;rw[e] at e';cases e';exact⟨e,f0,f1,f2,d⟩
theorem Inv.unpinned{pins pl:List (Addr×Obj)}{σ:St}{H:Hp}{s:kC}(I:Inv X (pins++pl) σ H s):Inv X pins σ H s:=I.pins_of fun p hp=>I.pin p (kN _ (pR _ hp))
theorem zdw{iter:Expr}{body:List Stmt}{wi:TI}{g:TG}{tb:TS}{pos:Pos}(hp:PassesOwn (model X.prog X.w) X.A X.env X.xe)(hc:X.calm=true)(hi:PI X tg iter wi)(hg:PG X tg g)(hb:PSs X body tb)
  (hs:∀x,jc iter X.env x=pure x:=by intro _;rfl):PS X (.For tg iter body [] pos) (tFor wi g tb):=by
 intro pins s σ H D I h;refine wpAny_For (thn (hi pins s σ H _ I h) fun v s1 h1=>thn h1 fun itv s2 h2=>?_) hs;obtain⟨it,fp,tn,J,H2,e,I2,T,st2,f2,W,⟨m0,w0⟩,turn⟩:=h2;subst e;have stat:∀{H':Hp},(∀b∈fp,H' b=none)->∀b∈fp,FpOk X pins H' b:=fun hn b hb=>⟨hn b hb,(f2 b hb).2⟩;refine codeAny_forLoop_any (fun n s'=>∃i σ' H',Inv X pins σ' H' s'/\tn i s'.heap/\(∀b∈fp,H' b=none)/\W i n σ' H') ?_ m0 ⟨0,σ,H2,I2,st2,fun b hb=>(f2 b hb).1,w0⟩;rintro n s3 ⟨i,σ3,H3,I3,st3,fr3,w3⟩;rcases turn i n σ3 H3 w3 with⟨stop,qn⟩|⟨go,N,hN,step⟩
 ·refine Ue hp (thn (T.done X rfl rfl rfl hc i pins s3 σ3 H3 X.xe I3 (stat fr3) st3 stop) fun r s4⟨hr,I4⟩=>?_);subst hr;exact gL ⟨σ3,H3,I4,qn⟩
 ·refine Ue hp (thn (T.item X rfl rfl rfl hc i pins s3 σ3 H3 X.xe I3 (stat fr3) st3 go) fun r s4⟨u,hr,h4⟩=>?_);subst hr;refine Ue hp (thn h4 fun _ s5⟨x,H5,I5,r5,y5,st5,fr5⟩=>?_);have I5':=I5.pinned (stat fr5) (T.obj _ _ st5);refine Ue hp (thn (hg _ s5 σ3 H5 x u _ I5' r5 (step x H5 y5)) fun _ s6⟨σ6,H6,I6,q6⟩=>?_);refine Ue hp (thn (hb _ s6 σ6 H6 _ I6 q6) fun f s7 q7=>?_);have again:∀{σ7:St}{H7:Hp},Inv X (pins++zk9 fp s5.heap) σ7 H7 s7->N σ7 H7->∃m,m<n/\∃i σ' H',Inv X pins σ' H' s7/\tn i s7.heap/\(∀b∈fp,H' b=none)/\W i m σ' H':=fun{σ7 H7} I7 n7=>by
   obtain⟨m',hm,w7⟩:=hN σ7 H7 n7;refine⟨m',hm,i+1,σ7,H7,I7.unpinned,T.keep _ _ _ st5 fun b hb o e=>(I7.pin (b,o) (kN _ (kN _ (zfd hb e)))).1,fun b hb=>?_,w7⟩;obtain⟨o,e,d⟩:=T.obj _ _ st5 b hb;exact(I7.pin (b,o) (kN _ (kN _ (zfd hb e)))).2.1
  cases f with
  |next=>obtain⟨σ7,H7,I7,n7⟩:=q7;exact again I7 n7
  |cont=>obtain⟨σ7,H7,I7,n7⟩:=q7;exact again I7 n7
  |brk=>obtain⟨σ7,H7,I7,q7⟩:=q7;exact⟨σ7,H7,I7.unpinned,q7⟩
  |ret v=>obtain⟨x7,σ7,H7,I7,r7,q7⟩:=q7;exact⟨x7,σ7,H7,I7.unpinned,r7,q7⟩
end
theorem for_list{K:kJ}{a:Addr}{xs:List V}{g:TG}{tb:TS}{D:Ends}{σ:St}{H:Hp}(Pv:Nat->St->Hp->Prop)(h0:Pv 0 σ H)(hl:∀i σ H,i<=xs.length->Pv i σ H->SqL K H a xs)
  (hs:∀i x σ H,xs[i]?=some x->Pv i σ H->g x σ H fun σ2 H2=>tb {D with nx:=Pv (i+1),ct:=Pv (i+1),bk:=D.nx} σ2 H2)(hd:∀σ H,Pv xs.length σ H->D.nx σ H):
  ∃W:Nat->Nat->St->Hp->Prop,(∃m,W 0 m σ H)/\∀i m σ H,W i m σ H->
   ((Itl K a).stop i H/\D.nx σ H)∨((Itl K a).go i H/\∃N:St->Hp->Prop,(∀σ' H',N σ' H'->∃m',m'<m/\W (i+1) m' σ' H')/\∀x H',(Itl K a).yld i H x H'->g x σ H' fun σ2 H2=>tb {D with nx:=N,ct:=N,bk:=D.nx} σ2 H2):=by
 refine⟨fun i m σ H=>m=xs.length-i/\i<=xs.length/\Pv i σ H,⟨xs.length,by simp,pG _,h0⟩,?_⟩
 rintro i m σ H ⟨rfl,hi,p⟩;have q:=hl i σ H hi p
 by_cases hlt:i<xs.length
 ·refine .inr ⟨⟨xs,xs[i],q,by simp[hlt]⟩,Pv (i+1),fun σ' H' p'=>⟨xs.length-(i+1),by omega,rfl,hlt,p'⟩,fun x H' y=>?_⟩
  obtain⟨e,y⟩:=y;subst e;exact hs i x σ _ (y xs q) p
 ·have e:i=xs.length:=by omega
  subst e;exact .inl ⟨⟨xs,q,kM _⟩,hd σ H p⟩
theorem for_tup{K:kJ}{a:Addr}{xs:List V}{g:TG}{tb:TS}{D:Ends}{σ:St}{H:Hp}(Pv:Nat->St->Hp->Prop)(h0:Pv 0 σ H)(hl:∀i σ H,i<=xs.length->Pv i σ H->SqT K H a xs)
  (hs:∀i x σ H,xs[i]?=some x->Pv i σ H->g x σ H fun σ2 H2=>tb {D with nx:=Pv (i+1),ct:=Pv (i+1),bk:=D.nx} σ2 H2)(hd:∀σ H,Pv xs.length σ H->D.nx σ H):
  ∃W:Nat->Nat->St->Hp->Prop,(∃m,W 0 m σ H)/\∀i m σ H,W i m σ H->
   ((Itt K a).stop i H/\D.nx σ H)∨((Itt K a).go i H/\∃N:St->Hp->Prop,(∀σ' H',N σ' H'->∃m',m'<m/\W (i+1) m' σ' H')/\∀x H',(Itt K a).yld i H x H'->g x σ H' fun σ2 H2=>tb {D with nx:=N,ct:=N,bk:=D.nx} σ2 H2):=by
 refine⟨fun i m σ H=>m=xs.length-i/\i<=xs.length/\Pv i σ H,⟨xs.length,by simp,pG _,h0⟩,?_⟩
 rintro i m σ H ⟨rfl,hi,p⟩;have q:=hl i σ H hi p
 by_cases hlt:i<xs.length
 ·refine .inr ⟨⟨xs,xs[i],q,by simp[hlt]⟩,Pv (i+1),fun σ' H' p'=>⟨xs.length-(i+1),by omega,rfl,hlt,p'⟩,fun x H' y=>?_⟩
  obtain⟨e,y⟩:=y;subst e;exact hs i x σ _ (y xs q) p
 ·have e:i=xs.length:=by omega
  subst e;exact .inl ⟨⟨xs,q,kM _⟩,hd σ H p⟩
theorem zsz{lo:Int}{n:Nat}{g:TG}{tb:TS}{D:Ends}{σ:St}{H:Hp}(Pv:Nat->St->Hp->Prop)(h0:Pv 0 σ H)
  (hs:∀i σ H,i<n->Pv i σ H->g (.int (lo+i)) σ H fun σ2 H2=>tb {D with nx:=Pv (i+1),ct:=Pv (i+1),bk:=D.nx} σ2 H2)(hd:∀σ H,Pv n σ H->D.nx σ H):
  ∃W:Nat->Nat->St->Hp->Prop,(∃m,W 0 m σ H)/\∀i m σ H,W i m σ H->
   ((Itr lo n).stop i H/\D.nx σ H)∨((Itr lo n).go i H/\∃N:St->Hp->Prop,(∀σ' H',N σ' H'->∃m',m'<m/\W (i+1) m' σ' H')/\∀x H',(Itr lo n).yld i H x H'->g x σ H' fun σ2 H2=>tb {D with nx:=N,ct:=N,bk:=D.nx} σ2 H2):=by
 refine⟨fun i m σ H=>m=n-i/\i<=n/\Pv i σ H,⟨n,by simp,pG _,h0⟩,?_⟩
 rintro i m σ H ⟨rfl,hi,p⟩
 by_cases hlt:i<n
 ·refine .inr ⟨hlt,Pv (i+1),fun σ' H' p'=>⟨n-(i+1),by omega,rfl,hlt,p'⟩,fun x H' y=>?_⟩
  obtain⟨e,y⟩:=y;subst e y;exact hs i σ _ hlt p
 ·have e:i=n:=by omega
  subst e;exact .inl ⟨kM _,hd σ H p⟩
theorem while_by{c:TT}{tb:TS}{D:Ends}{σ:St}{H:Hp}(Pv:St->Hp->Prop)(μ:St->Hp->Nat)(h0:Pv σ H)
  (hs:∀σ H,Pv σ H->c σ H fun b H1=>if b=true then tb {D with nx:=fun σ' H'=>Pv σ' H'/\μ σ' H'<μ σ H,ct:=fun σ' H'=>Pv σ' H'/\μ σ' H'<μ σ H,bk:=D.nx} σ H1 else D.nx σ H1)
  (mono:∀σ H Q Q',(∀b H1,Q b H1->Q' b H1)->c σ H Q->c σ H Q'):tWhile c tb D σ H:=by
 refine⟨fun m σ H=>m=μ σ H/\Pv σ H,⟨_,rfl,h0⟩,?_⟩;rintro m σ H ⟨rfl,p⟩;refine mono σ H _ _ (fun b H1 q=>?_) (hs σ H p)
 cases b with
 |true=>exact⟨_,fun σ' H'⟨p',l⟩=>⟨_,l,rfl,p'⟩,q⟩
 |false=>exact q
abbrev R2:=V->V->Hp->VK->Prop
def OpR(X:Cx)(f:kB->kB->Sem kB)(r:R2):Prop:=
 ∀(pins:List (Addr×Obj))(s:kC)(σ:St)(H:Hp)(x y:V)(v u:kB)(Q:VK),Inv X pins σ H s->RelV x v->RelV y u->r x y H Q->
  wpAny (model X.prog X.w) X.A (f v u) (EP X pins σ Q) X.xe s
def UnR(X:Cx)(f:kB->Sem kB)(r:V->Hp->VK->Prop):Prop:=
 ∀(pins:List (Addr×Obj))(s:kC)(σ:St)(H:Hp)(x:V)(v:kB)(Q:VK),Inv X pins σ H s->RelV x v->r x H Q->
  wpAny (model X.prog X.w) X.A (f v) (EP X pins σ Q) X.xe s
def zdk(X:Cx)(f:kB)(r:List V->Hp->VK->Prop):Prop:=
 ∀(pins:List (Addr×Obj))(s:kC)(σ:St)(H:Hp)(xs:List V)(us:List kB)(Q:VK),Inv X pins σ H s->Vals xs us->r xs H Q->
  wpAny (model X.prog X.w) X.A (call f us) (EP X pins σ Q) X.xe s
def tOp(r:R2)(ta tb:TE):TE:=fun σ H Q=>ta σ H fun x H1=>tb σ H1 fun y H2=>r x y H2 Q
def tUn(r:V->Hp->VK->Prop)(ta:TE):TE:=fun σ H Q=>ta σ H fun x H1=>r x H1 Q
def rI(C:Int->Int->Prop)(g:Int->Int->V):R2:=fun x y H Q=>∃i j,x=.int i/\y=.int j/\C i j/\Q (g i j) H
def rI0(g:Int->Int->V):R2:=fun x y H Q=>∃i j,x=.int i/\y=.int j/\Q (g i j) H
def rU(g:Int->V):V->Hp->VK->Prop:=fun x H Q=>∃i,x=.int i/\Q (g i) H
section
variable{X:Cx}{a b c:Expr}{ta tb tc:TE}{pos:Pos}
theorem binT(ha:PE X a ta)(hb:PE X b tb){pins:List (Addr×Obj)}{s:kC}{σ:St}{H:Hp}{R:V->V->Hp->Prop}(I:Inv X pins σ H s)
  (h:ta σ H fun x H1=>tb σ H1 fun y H2=>R x y H2){Q:kB->kC->Prop}{f:kB->kB->Sem kB}
  (hf:∀v u s2 x y H2,Inv X pins σ H2 s2->RelV x v->RelV y u->R x y H2->wpAny (model X.prog X.w) X.A (f v u) Q X.xe s2):
  wpAny (model X.prog X.w) X.A (eval a X.env) (fun v s₁=>wpAny (model X.prog X.w) X.A (eval b X.env) (fun u s₂=>wpAny (model X.prog X.w) X.A (f v u) Q X.xe s₂) X.xe s₁) X.xe s:=by
 refine thn (ha pins s σ H _ I h) fun v s1⟨x,H1,I1,r1,q1⟩=>?_;refine thn (hb pins s1 σ H1 _ I1 q1) fun u s2⟨y,H2,I2,r2,q2⟩=>?_;exact hf v u s2 x y H2 I2 r1 r2 q2
theorem zd7{op:Operator}{r:R2}(ho:OpR X (vU op) r)(ha:PE X a ta)(hb:PE X b tb):PE X (.BinOp a op b pos) (tOp r ta tb):=by
 intro pins s σ H Q I h;exact wpAny_BinOp (binT ha hb I h fun v u s2 x y H2 I2 rx ry q=>ho pins s2 σ H2 x y v u Q I2 rx ry q)
theorem pe_un{op:UnaryOp}{r:V->Hp->VK->Prop}(ho:UnR X (unaryOp op) r)(ha:PE X a ta):PE X (.UnaryOp op a pos) (tUn r ta):=by
 intro pins s σ H Q I h;exact UnaryOp_ (thn (ha pins s σ H _ I h) fun v s1⟨x,H1,I1,r1,q1⟩=>ho pins s1 σ H1 x v Q I1 r1 q1)
theorem opI{f:kB->kB->Sem kB}{C:Int->Int->Prop}{g:Int->Int->Int}
  (rule:∀(i j:Int)(t u:Tok)(s:kC)(Q:kB->kC->Prop)(E:kB->kC->Prop),C i j->Q (.int (g i j) s.toks) {s with toks:=s.toks+1}->wpAny (model X.prog X.w) X.A (f (.int i t) (.int j u)) Q E s):
  OpR X f (rI C fun i j=>.int (g i j)):=by
 intro pins s σ H x y v u Q I rx ry h;obtain⟨i,j,rfl,rfl,hc,q⟩:=h;obtain⟨t,rfl⟩:=rx;obtain⟨t',rfl⟩:=ry;exact rule i j t t' s _ _ hc ⟨.int (g i j),H,I.tok _,⟨_,rfl⟩,q⟩
theorem opI0{f:kB->kB->Sem kB}{g:Int->Int->Int}
  (rule:∀(i j:Int)(t u:Tok)(s:kC)(Q:kB->kC->Prop)(E:kB->kC->Prop),Q (.int (g i j) s.toks) {s with toks:=s.toks+1}->wpAny (model X.prog X.w) X.A (f (.int i t) (.int j u)) Q E s):
  OpR X f (rI0 fun i j=>.int (g i j)):=by
 intro pins s σ H x y v u Q I rx ry h;obtain⟨i,j,rfl,rfl,q⟩:=h;obtain⟨t,rfl⟩:=rx;obtain⟨t',rfl⟩:=ry;exact rule i j t t' s _ _ ⟨.int (g i j),H,I.tok _,⟨_,rfl⟩,q⟩
theorem opB0{f:kB->kB->Sem kB}{g:Int->Int->Bool}
  (rule:∀(i j:Int)(t u:Tok)(s:kC)(Q:kB->kC->Prop)(E:kB->kC->Prop),Q (.bool (g i j)) s->wpAny (model X.prog X.w) X.A (f (.int i t) (.int j u)) Q E s):
  OpR X f (rI0 fun i j=>.bl (g i j)):=by
 intro pins s σ H x y v u Q I rx ry h;obtain⟨i,j,rfl,rfl,q⟩:=h;obtain⟨t,rfl⟩:=rx;obtain⟨t',rfl⟩:=ry;exact rule i j t t' s _ _ ⟨.bl (g i j),H,I,rfl,q⟩
def CDiv(i j:Int):Prop:=0<j/\j<1073741824
def CPow(i j:Int):Prop:=0<=j/\j<=1000000/\i.natAbs<2^64
def CMul(i j:Int):Prop:=(-(2^64)<i/\i<2^64)∨(-(2^64)<j/\j<2^64)
theorem CMul.ok{i j:Int}(h:CMul i j):IntMulOk i j:=by
 rcases h with⟨h1,h2⟩|⟨h1,h2⟩
 ·exact .of_left (intBits_le_64 h1 h2)
 ·exact .of_right (intBits_le_64 h1 h2)
theorem zc5:OpR X (vU .Add) (rI0 fun i j=>.int (i+j)):=opI0 fun _ _ _ _ _ _ _ q=>add_int q
theorem zdx:OpR X (vU .Sub) (rI0 fun i j=>.int (i-j)):=opI0 fun _ _ _ _ _ _ _ q=>sub_int q
theorem zko:OpR X (vU .Mult) (rI CMul fun i j=>.int (i*j)):=opI fun _ _ _ _ _ _ _ hc q=>mul_int q hc.ok
theorem zls:OpR X (vU .FloorDiv) (rI CDiv fun i j=>.int (i/j)):=opI fun i j _ _ _ _ _ hc q=>by
 have h1:(0:Int)<j:=hc.1;have h2:j<1073741824:=hc.2;exact floordiv_int (by omega) (by rw[vh i (by omega)];exact q) (.inl (PyProof.noPylong_small (by omega)))
theorem zcw:OpR X (vU .Mod) (rI (fun _ j=>0<j) fun i j=>.int (i%j)):=opI fun i j _ _ _ _ _ hc q=>by
 have h1:(0:Int)<j:=hc;exact mod_int' (by omega) (by rw[vi i (by omega)];exact q)
theorem zhv:OpR X (vU .Mod) (rI (fun _ j=>j≠0) fun i j=>.int (i.fmod j)):=opI fun _ _ _ _ _ _ _ hc q=>mod_int' hc q
theorem op_pow:OpR X (vU .Pow) (rI CPow fun i j=>.int (i^j.toNat)):=opI fun _ _ _ _ _ _ _ hc q=>pow_int_small hc.1 hc.2.1 hc.2.2 q
theorem unI{f:kB->Sem kB}{g:Int->Int}
  (rule:∀(i:Int)(t:Tok)(s:kC)(Q:kB->kC->Prop)(E:kB->kC->Prop),Q (.int (g i) s.toks) {s with toks:=s.toks+1}->wpAny (model X.prog X.w) X.A (f (.int i t)) Q E s):
  UnR X f (rU fun i=>.int (g i)):=by
 intro pins s σ H x v Q I rx h;obtain⟨i,rfl,q⟩:=h;obtain⟨t,rfl⟩:=rx;exact rule i t s _ _ ⟨.int (g i),H,I.tok _,⟨_,rfl⟩,q⟩
theorem un_neg:UnR X (unaryOp .USub) (rU fun i=>.int (-i)):=unI fun _ _ _ _ _ q=>neg_int q
end
def scal:V->V->Bool
 |.non,.non=>true|.non,.int _=>true|.int _,.non=>true|.non,.bl _=>true|.bl _,.non=>true|.non,.str _=>true|.str _,.non=>true
 |.int _,.int _=>true|.bl _,.bl _=>true|.str _,.str _=>true|.byt _,.byt _=>true
 |.int _,.str _=>true|.str _,.int _=>true|.bl _,.str _=>true|.str _,.bl _=>true
 |_,_=>false
def rEq:R2:=fun x y H Q=>scal x y=true/\Q (.bl (decide (x=y))) H
def rNe:R2:=fun x y H Q=>scal x y=true/\Q (.bl (!decide (x=y))) H
theorem zsy{i j:Int}:decide (V.int i=V.int j)=(i==j):=by
 rw[jG]
 simp
theorem dec_bl{i j:Bool}:decide (V.bl i=V.bl j)=(i==j):=by
 rw[jG]
 simp
theorem zrf{i j:Str}:decide (V.str i=V.str j)=(i==j):=by
 rw[jG]
 simp
theorem zqa{i j:Array UInt8}:decide (V.byt i=V.byt j)=(i.toList==j.toList):=by
 rw[jG]
 cases i
 cases j
 simp
section
variable{X:Cx}{a b c:Expr}{ta tb tc:TE}{pos:Pos}
theorem zb7{pins:List (Addr×Obj)}{σ:St}{H:Hp}{s:kC}{Q:VK}{k k':Bool}(I:Inv X pins σ H s)(q:Q (.bl k) H)(e:k=k'):EP X pins σ Q (.bool k') s:=by
 subst e;exact⟨.bl k,H,I,rfl,q⟩
theorem zdr:OpR X (Qj .Eq) rEq:=by
 intro pins s σ H x y v u Q I rx ry h;obtain⟨hs,q⟩:=h
 cases x with
 |non=>
  cases rx
  cases y with
  |non=>cases ry;exact PySem.EqNone.eq_none_none (zb7 I q (by simp))
  |bl j=>cases ry;exact PySem.EqNone.eq_none_bool (zb7 I q (by simp))
  |int j=>obtain⟨t',rfl⟩:=ry;exact PySem.EqNone.eq_none_int (zb7 I q (by simp))
  |str j=>obtain⟨t',rfl⟩:=ry;exact PySem.EqNone.eq_none_str (zb7 I q (by simp))
  |_=>exact absurd (show false=true from hs) pI
 |bl i=>
  cases rx
  cases y with
  |non=>cases ry;exact PySem.EqNone.eq_bool_none (zb7 I q (by simp))
  |bl j=>cases ry;exact eq_bool (zb7 I q dec_bl)
  |str j=>obtain⟨t',rfl⟩:=ry;exact PySem.EqMixed.eq_bool_str (zb7 I q (by simp))
  |_=>exact absurd (show false=true from hs) pI
 |int i=>
  obtain⟨t,rfl⟩:=rx
  cases y with
  |non=>cases ry;exact PySem.EqNone.eq_int_none (zb7 I q (by simp))
  |int j=>obtain⟨t',rfl⟩:=ry;exact eq_int (zb7 I q zsy)
  |str j=>obtain⟨t',rfl⟩:=ry;exact PySem.EqMixed.eq_int_str (zb7 I q (by simp))
  |_=>exact absurd (show false=true from hs) pI
 |str i=>
  obtain⟨t,rfl⟩:=rx
  cases y with
  |non=>cases ry;exact PySem.EqNone.eq_str_none (zb7 I q (by simp))
  |bl j=>cases ry;exact PySem.EqMixed.eq_str_bool (zb7 I q (by simp))
  |int j=>obtain⟨t',rfl⟩:=ry;exact PySem.EqMixed.eq_str_int (zb7 I q (by simp))
  |str j=>obtain⟨t',rfl⟩:=ry;exact eq_str (zb7 I q zrf)
  |_=>exact absurd (show false=true from hs) pI
 |byt i=>
  obtain⟨t,rfl⟩:=rx
  cases y with
  |byt j=>obtain⟨t',rfl⟩:=ry;exact PySem.W.eq_bytes (zb7 I q zqa)
  |_=>exact absurd (show false=true from hs) pI
 |_=>cases y<;>exact absurd (show false=true from hs) pI
theorem zpi:OpR X (Qj .NotEq) rNe:=by
 intro pins s σ H x y v u Q I rx ry h;obtain⟨hs,q⟩:=h
 cases x with
 |non=>
  cases rx
  cases y with
  |non=>cases ry;exact PySem.EqNone.ne_none_none (zb7 I q (by simp))
  |bl j=>cases ry;exact PySem.EqNone.ne_none_bool (zb7 I q (by simp))
  |int j=>obtain⟨t',rfl⟩:=ry;exact PySem.EqNone.ne_none_int (zb7 I q (by simp))
  |str j=>obtain⟨t',rfl⟩:=ry;exact PySem.EqNone.ne_none_str (zb7 I q (by simp))
  |_=>exact absurd (show false=true from hs) pI
 |bl i=>
  cases rx
  cases y with
  |non=>cases ry;exact PySem.EqNone.ne_bool_none (zb7 I q (by simp))
  |bl j=>cases ry;exact ne_bool (zb7 I q (congrArg not dec_bl))
  |str j=>obtain⟨t',rfl⟩:=ry;exact PySem.EqMixed.ne_bool_str (zb7 I q (by simp))
  |_=>exact absurd (show false=true from hs) pI
 |int i=>
  obtain⟨t,rfl⟩:=rx
  cases y with
  |non=>cases ry;exact PySem.EqNone.ne_int_none (zb7 I q (by simp))
  |int j=>obtain⟨t',rfl⟩:=ry;exact ne_int (zb7 I q (congrArg not zsy))
  |str j=>obtain⟨t',rfl⟩:=ry;exact PySem.EqMixed.ne_int_str (zb7 I q (by simp))
  |_=>exact absurd (show false=true from hs) pI
 |str i=>
  obtain⟨t,rfl⟩:=rx
  cases y with
  |non=>cases ry;exact PySem.EqNone.ne_str_none (zb7 I q (by simp))
  |bl j=>cases ry;exact PySem.EqMixed.ne_str_bool (zb7 I q (by simp))
  |int j=>obtain⟨t',rfl⟩:=ry;exact PySem.EqMixed.ne_str_int (zb7 I q (by simp))
  |str j=>obtain⟨t',rfl⟩:=ry;exact ne_str (zb7 I q (congrArg not zrf))
  |_=>exact absurd (show false=true from hs) pI
 |byt i=>
  obtain⟨t,rfl⟩:=rx
  cases y with
  |byt j=>obtain⟨t',rfl⟩:=ry;exact PySem.W.ne_bytes (zb7 I q (congrArg not zqa))
  |_=>exact absurd (show false=true from hs) pI
 |_=>cases y<;>exact absurd (show false=true from hs) pI
theorem zgy:OpR X (Qj .Lt) (rI0 fun i j=>.bl (decide (i<j))):=opB0 fun _ _ _ _ _ _ _ q=>lt_int q
theorem op_le:OpR X (Qj .LtE) (rI0 fun i j=>.bl (decide (i<=j))):=opB0 fun _ _ _ _ _ _ _ q=>le_int q
theorem op_gt:OpR X (Qj .Gt) (rI0 fun i j=>.bl (decide (j<i))):=opB0 fun _ _ _ _ _ _ _ q=>gt_int q
theorem op_ge:OpR X (Qj .GtE) (rI0 fun i j=>.bl (decide (j<=i))):=opB0 fun _ _ _ _ _ _ _ q=>ge_int q
theorem op_isN:OpR X (Qj .Is) (fun x y H Q=>y=.non/\Q (.bl (decide (x=.non))) H):=by
 intro pins s σ H x y v u Q I rx ry h;obtain⟨rfl,q⟩:=h
 cases ry;refine is_none_gen (zb7 I q ?_)
 cases x<;>first
  |(cases rx;rfl)
  |(obtain⟨t,rfl⟩:=rx;rfl)
theorem nomark(b:Expr){op:CmpOp}(h:op≠.In:=by decide)(h2:op≠.NotIn:=by decide):gB op b=false:=by
 have e1:(op==CmpOp.In)=false:=by cases op<;>first|rfl|exact absurd rfl h
 have e2:(op==CmpOp.NotIn)=false:=by cases op<;>first|rfl|exact absurd rfl h2
 cases b<;>simp[gB,e1,e2]
theorem zef{op:CmpOp}{r:R2}(ho:OpR X (Qj op) r)(ha:PE X a ta)(hb:PE X b tb)(hm:gB op b=false):PE X (.Compare a [op] [b] pos) (tOp r ta tb):=by
 intro pins s σ H Q I h;exact wpAny_Compare1 (binT ha hb I h fun v u s2 x y H2 I2 rx ry q=>ho pins s2 σ H2 x y v u Q I2 rx ry q) hm
def zsc(t:TE):TT:=fun σ H Q=>t σ H fun x H'=>∃k,x=.bl k/\Q k H'
theorem zb8{op:CmpOp}{r:R2}(ho:OpR X (Qj op) r)(ha:PE X a ta)(hb:PE X b tb)(hm:gB op b=false):PT X (.Compare a [op] [b] pos) (zsc (tOp r ta tb)):=by
 intro pins s σ H Q I h;refine BZ (thn (ha pins s σ H _ I h) fun v s1⟨x,H1,I1,r1,q1⟩=>thn (hb pins s1 σ H1 _ I1 q1) fun u s2⟨y,H2,I2,r2,q2⟩=>
  thn (ho pins s2 σ H2 x y v u _ I2 r1 r2 q2) fun c s3⟨z,H3,I3,r3,k,e,q3⟩=>?_) hm
 subst e
 cases r3;exact Qs ⟨H3,I3,q3⟩
theorem line63:(sizeLine:Nat)<2^63:=by rw[AV];decide
theorem vals1{x:V}{us:List kB}(r:Vals [x] us):∃u,us=[u]/\RelV x u:=by
 cases r with
 |cons r1 r2=>cases r2;exact⟨_,rfl,r1⟩
theorem vals2{x y:V}{us:List kB}(r:Vals [x,y] us):∃u w',us=[u,w']/\RelV x u/\RelV y w':=by
 cases r with
 |cons r1 r2=>
  cases r2 with
  |cons r3 r4=>cases r4;exact⟨_,_,rfl,r1,r3⟩
theorem zmo:zdk X (.builtin "abs") (fun xs H Q=>∃i,xs=[.int i]/\Q (.int (if i<0 then-i else i)) H):=by
 intro pins s σ H xs us Q I r h;obtain⟨i,rfl,q⟩:=h;obtain⟨u,rfl,t,rfl⟩:=vals1 r;exact call_abs_int fun u tk=>⟨.int (if i<0 then-i else i),H,I.tok _,⟨_,rfl⟩,q⟩
theorem zqb(hc:X.calm=true):zdk X (.builtin "max") (fun xs H Q=>∃i j,xs=[.int i,.int j]/\Q (.int (if j>i then j else i)) H):=by
 intro pins s σ H xs us Q I r h;obtain⟨i,j,rfl,q⟩:=h;obtain⟨u,w',rfl,⟨t,rfl⟩,⟨t',rfl⟩⟩:=vals2 r;refine max_two_ints (I.ok.hd hc) fun h' tk k=>⟨_,H,I.kept k,?_,q⟩
 by_cases hj:j>i
 ·rw[if_pos hj,if_pos hj];exact⟨_,rfl⟩
 ·rw[if_neg hj,if_neg hj];exact⟨_,rfl⟩
theorem zkt(hc:X.calm=true):zdk X (.builtin "min") (fun xs H Q=>∃i j,xs=[.int i,.int j]/\Q (.int (if j<i then j else i)) H):=by
 intro pins s σ H xs us Q I r h;obtain⟨i,j,rfl,q⟩:=h;obtain⟨u,w',rfl,⟨t,rfl⟩,⟨t',rfl⟩⟩:=vals2 r;refine min_two_ints (I.ok.hd hc) fun h' tk k=>⟨_,H,I.kept k,?_,q⟩
 by_cases hj:j<i
 ·rw[if_pos hj,if_pos hj];exact⟨_,rfl⟩
 ·rw[if_neg hj,if_neg hj];exact⟨_,rfl⟩
theorem zsn:zdk X (.type "int") (fun xs H Q=>(∃i,xs=[.int i]/\Q (.int i) H)∨∃k,xs=[.bl k]/\Q (.int (if k then 1 else 0)) H):=by
 intro pins s σ H xs us Q I r h;rcases h with⟨i,rfl,q⟩|⟨k,rfl,q⟩
 ·obtain⟨u,rfl,t,rfl⟩:=vals1 r;exact call_int_int ⟨.int i,H,I,⟨_,rfl⟩,q⟩
 ·obtain⟨u,rfl,r1⟩:=vals1 r
  cases r1;exact call_int_bool ⟨.int (if k then 1 else 0),H,I.tok _,⟨_,rfl⟩,q⟩
end
theorem RelO.some_of{v:V}{o:Option kB}(r:RelO (some v) o):∃u,o=some u/\RelV v u:=by
 cases o with
 |none=>exact(show False from r).elim
 |some u=>exact⟨u,rfl,r⟩
structure Room(k:Nat)(A:pO):Prop where
 hd:A.handled=none
 dp:A.depth+3*k+5<recursionLimit
 un:A.units+16*k+200<cLine
theorem Room.mono{j k:Nat}{A:pO}(r:Room k A)(h:j<=k):Room j A:=⟨r.hd,by have:=r.dp;omega,by have:=r.un;omega⟩
theorem Room.deeper{k:Nat}{A:pO}(r:Room (k+1) A)(env:Env):Room k (A.deeper env):=
 ⟨r.hd,by have:=r.dp;show A.depth+1+3*k+5<_;omega,by have:=r.un;show A.units+3+16*k+200<_;omega⟩
theorem Room.in1{k:Nat}{A:pO}(r:Room (k+1) A):Room k A.in1:=
 ⟨r.hd,by have:=r.dp;show A.depth+3*k+5<_;omega,by have:=r.un;show A.units+1+16*k+200<_;omega⟩
theorem Room.depth{k:Nat}{A:pO}(r:Room k A):A.depth<recursionLimit:=by have:=r.dp;omega
theorem Room.units{k:Nat}{A:pO}(r:Room k A):A.units+64<cLine:=by have:=r.un;omega
def tNil:TA:=fun _ H Q=>Q [] H
def zbt(ta:TE)(tr:TA):TA:=fun σ H Q=>ta σ H fun x H1=>tr σ H1 fun xs H2=>Q (x::xs) H2
section
variable{X:Cx}{e:Expr}{es:List Expr}{te:TE}{t:TA}{pos:Pos}
theorem zds:PA X [] tNil:=fun _ _ _ _ H Q I h=>AW ⟨[],H,I,.nil,h⟩
theorem zaq(ha:PE X e te)(hr:PA X es t)(hs:uF (e::es) X.env=(false,eval e X.env)::uF es X.env:=by rfl):PA X (e::es) (zbt te t):=by
 intro pos pins s σ H Q I h;rw[hs];show wpAny _ _ (spliced ((false,eval e X.env)::va pos (uF es X.env))) _ _ s;refine jM (thn (ha pins s σ H _ I h) fun u s1⟨x,H1,I1,r1,q1⟩=>?_);exact thn (hr pos pins s1 σ H1 _ I1 q1) fun us s2⟨xs,H2,I2,r2,q2⟩=>⟨x::xs,H2,I2,.cons r1 r2,q2⟩
def tTup(t:TA):TE:=fun σ H Q=>t σ H fun xs H1=>xs.length<=sizeLine/\∀p,H1 p=none->Q (.ref p) (upd H1 p (.tup xs))
def tLst(t:TA):TE:=fun σ H Q=>t σ H fun xs H1=>xs.length<=sizeLine/\∀p,H1 p=none->Q (.ref p) (upd H1 p (.lst xs))
theorem zdg{x1}(h:PA X es t):PE X (.Tuple es x1 pos) (tTup t):=by
 intro pins s σ H Q I hq;refine wpAny_Tuple_spliced (thn (h pos pins s σ H _ I hq) fun us s1⟨xs,H1,I1,r,z,q⟩=>⟨by rw[←r.length];exact z,?_⟩)
 have hf:H1 s1.heap.objs.size=none:=I1.hok.fresh (kM _);refine⟨.ref s1.heap.objs.size,upd H1 s1.heap.objs.size (.tup xs),I1.laid (t':=s1.toks) (fun b u e=>kI _ e) (kM _) ?_,rfl,q _ hf⟩;exact⟨z,us,r,⟨_,kh _ rfl,rfl,_,rfl⟩⟩
theorem zfi(h:PA X es t):PE X (.List es pos) (tLst t):=by
 intro pins s σ H Q I hq;refine wpAny_List_spliced (thn (h pos pins s σ H _ I hq) fun us s1⟨xs,H1,I1,r,z,q⟩=>⟨by rw[←r.length];exact z,?_⟩)
 have hf:H1 s1.heap.objs.size=none:=I1.hok.fresh (kM _);refine⟨.ref s1.heap.objs.size,upd H1 s1.heap.objs.size (.lst xs),I1.laid (t':=s1.toks) (fun b u e=>kI _ e) (kM _) ?_,rfl,q _ hf⟩;exact⟨z,us,0,r,kh _ rfl⟩
end
abbrev Sp:=List V->Hp->VK->XK->Prop
abbrev CXT:=List Env->Hp->kC->XK->kB->kC->Prop
structure Env0(P:ko)(w:pN)(K:kJ)(mg:Str->Option kB)(base:Heap)(A:pO)(outer:List Env)(s:kC)(H:Hp):Prop where
 frames:A.frames=some outer
 mod:Mod K mg base
 bs:∀b o,base.get? b=some o->s.heap.get? b=some o/\H b=none
 bsz:base.objs.size<=s.heap.objs.size
 funs:s.heap.FunFrames base outer
 frf:∀b∈frs outer,H b=none
 hok:HOk P w H s.heap
 bare:AU s.gens
def CE(outer:List Env)(P:ko)(w:pN)(H:Hp)(s:kC)(Q:VK)(u:kB)(s':kC):Prop:=
 ∃v H',s'.os=s.os/\AU s'.gens/\Un (frs outer) [] H H' s.heap s'.heap/\HOk P w H' s'.heap/\RelV v u/\Q v H'
def CR(CX:CXT)(outer:List Env)(P:ko)(w:pN)(H:Hp)(s:kC)(Q:VK)(E:XK)(r:Ds)(s':kC):Prop:=
 match r with
 |.ok (.ret u)=>CE outer P w H s Q u s'
 |.ok _=>False
 |.error e=>CX outer H s E e s'
structure FnOk(P:ko)(w:pN)(K:kJ)(mg:Str->Option kB)(base:Heap)(CX:CXT)(k:Nat)(f:Addr)(fd:UU)(ps:List Str)(sp:Sp):Prop where
 len:∀vs H Q E,sp vs H Q E->vs.length=ps.length
 run:∀(A:pO)(outer:List Env)(s:kC)(H:Hp)(args:Args)(us:List kB)(vs:List V)(Q:VK)(E:XK),Room k A->Env0 P w K mg base A outer s H->Ch s fd args (ps.zip us)->Vals vs us->sp vs H Q E->
  jH (model P w) A (.call (.ref f) args) (CR CX outer P w H s Q E) s
theorem Env0.in1{P:ko}{w:pN}{K:kJ}{mg:Str->Option kB}{base:Heap}{A:pO}{outer:List Env}{s:kC}{H:Hp}(e:Env0 P w K mg base A outer s H):
  Env0 P w K mg base A.in1 outer s H:=⟨e.frames,e.mod,e.bs,e.bsz,e.funs,e.frf,e.hok,e.bare⟩
section
variable{X:Cx}{pins:List (Addr×Obj)}{σ:St}{H:Hp}{s s':kC}
theorem Inv.env0(I:Inv X pins σ H s):Env0 X.prog X.w X.K X.mg X.base X.A X.stack s H:=
 ⟨I.ok.frames,I.ok.mod,I.bs,pP I.ok.bsz I.sz,I.stack,I.stkFree,I.hok,I.bare⟩
theorem Inv.after{Q:VK}{u:kB}(I:Inv X pins σ H s)(h:CE X.stack X.prog X.w H s Q u s'):EP X pins σ Q u s':=by
 obtain⟨v,H',os,bare,un,hok,r,q⟩:=h;obtain⟨hh,g,d,t,os'⟩:=s';obtain rfl:os'=s.os:=os;exact⟨v,H',I.call (h':=hh) (g':=g) (d':=d) (t':=t) (ch:=[]) un hok bare (fun b z=>absurd z (by simp)),r,q⟩
end
def zm2(sp:Sp)(dvs:List V)(E:XK)(t:TA):TE:=fun σ H Q=>t σ H fun vs H1=>sp (vs++dvs) H1 Q E
def Binds(K:kJ)(fd:UU)(ps:List Str)(ds:List kB):Prop:=
 ∀(s:kC)(us:List kB),K.In s.heap->(us++ds).length=ps.length->Ch s fd ⟨us,[]⟩ (ps.zip (us++ds))
theorem Binds.all{K:kJ}{fd:UU}{ps:List Str}(h:∀us:List kB,us.length=ps.length->gq fd ⟨us,[]⟩=pure (ps.zip us)):Binds K fd ps []:=fun s us _ hl=>by
 rw[uv] at hl⊢;exact .of_eq (h us hl)
def Passes(CX:CXT)(X:Cx)(E:XK):Prop:=∀(pins:List (Addr×Obj))(σ:St)(H:Hp)(s:kC)(e:kB)(s':kC),Inv X pins σ H s->CX X.stack H s E e s'->X.xe e s'
section
variable{X:Cx}{CX:CXT}{k:Nat}{f C:Addr}{fd:UU}{ps:List Str}{sp:Sp}{dvs:List V}{ds:List kB}{E:XK}{x m:Str}{p pos apos:Pos}{e o:Expr}{es:List Expr}{ta:TE}{t:TA}
theorem run_fn{pins:List (Addr×Obj)}{σ:St}{H:Hp}{s:kC}{Q:VK}{us:List kB}{vs:List V}(F:FnOk X.prog X.w X.K X.mg X.base CX k f fd ps sp)(hr:Room k X.A)(hb:Binds X.K fd ps ds)(hd:Vals dvs ds)(hx:Passes CX X E)
  (I:Inv X pins σ H s)(r:Vals vs us)(h:sp (vs++dvs) H Q E):wpAny (model X.prog X.w) X.A (call (.ref f) us) (EP X pins σ Q) X.xe s:=by
 have r2:Vals (vs++dvs) (us++ds):=r.append hd;have hl:(us++ds).length=ps.length:=by rw[←r2.length];exact F.len _ _ _ _ h
 refine Dt (jd (F.run X.A X.stack s H ⟨us,[]⟩ (us++ds) (vs++dvs) Q E hr I.env0 (hb s us I.kIn hl) r2 h) fun r s' hq=>?_)
 cases r with
 |error e=>exact hx pins σ H s e s' I hq
 |ok fl=>
  cases fl with
  |ret u=>exact I.after hq
  |next=>exact uz hq
  |brk=>exact uz hq
  |cont=>exact uz hq
theorem zap(F:FnOk X.prog X.w X.K X.mg X.base CX k f fd ps sp)(hr:Room k X.A)(hg:Gl X x)(hm:X.mg x=some (.ref f))(hk:kW X.K (.ref f)=true)(hb:Binds X.K fd ps ds)(hd:Vals dvs ds)(hx:Passes CX X E)
  (ha:PA X (e::es) t)(hdb:(x==("__debug__":Str))=false:=by decide)(he:uF (e::es) X.env=(false,eval e X.env)::uF es X.env:=by rfl)(hpl:(va pos (uF es X.env)).any (·.1)=false:=by rfl):
  PE X (.Call (.Name x p) (e::es) [] pos) (zm2 sp dvs E t):=by
 intro pins s σ H Q I h;refine UW (ld_glob I hg hm ?_ hdb);refine PySem.W.callWith_K (h₀:=X.base) I.ok.mod.kin hk (thn (ha pos pins s σ H _ I h) fun us s1⟨vs,H1,I1,r,q⟩=>⟨I1.kIn,?_⟩) he hpl;exact run_fn F hr hb hd hx I1 r q
end
def PK(X:Cx)(kws:List CB)(t:TA):Prop:=
 ∀(pos:Pos)(pins:List (Addr×Obj))(s:kC)(σ:St)(H:Hp)(Q:List V->Hp->Prop),Inv X pins σ H s->t σ H Q->wpAny (model X.prog X.w) X.A (evalAll ((Al pos (jR kws X.env)).map (·.2))) (AP X pins σ Q) X.xe s
section
variable{X:Cx}{CX:CXT}{k:Nat}{f C:Addr}{fd:UU}{ps ks:List Str}{sp:Sp}{E:XK}{x m:Str}{p pos apos kpos:Pos}{e o:Expr}{es:List Expr}{kws:List CB}{te ta:TE}{t tk:TA}{nm:Option Str}
theorem pk_nil:PK X [] tNil:=fun _ _ _ _ H Q I h=>wpAny_evalAll_nil ⟨[],H,I,.nil,h⟩
theorem pk_cons(ha:PE X e te)(hr:PK X kws t):PK X (⟨nm,e,kpos⟩::kws) (zbt te t):=by
 intro pos pins s σ H Q I h;show wpAny _ _ (evalAll ((do let v ←eval e X.env;standAt pos;pure v)::(Al pos (jR kws X.env)).map (·.2))) _ _ s;refine wpAny_evalAll_cons (kA (thn (ha pins s σ H _ I h) fun u s1⟨x,H1,I1,r1,q1⟩=>kA (CK (kL ?_))));exact thn (hr pos pins s1 σ H1 _ I1 q1) fun us s2⟨xs,H2,I2,r2,q2⟩=>⟨x::xs,H2,I2,.cons r1 r2,q2⟩
variable{g:List kB->List kB->List kB}{gV:List V->List V->List V}
end
structure zab(N P:List Str)(sc:Scope):Prop where
 kind:sc.kind=.function
 co:sc.isCoroutine=false
 gen:sc.isGenerator=false
 nd:N.Nodup
 pre:N.take P.length=P
 par:∀x∈P,sc.names.lookup x=some .local∨sc.names.lookup x=some .cell
 nofree:∀y∈sc.names,y.2≠.free
theorem zl3{kindOf:Str->Option gr}{x:Str}:∀{binds:List (Str×kB)}{m:Str->Option kB},(∀v,(x,v)∉binds)->bindL kindOf binds m x=m x
 |[],_,_=>rfl
 |(n,v)::r,m,h=>by
  unfold bindL;rw[zl3 fun w hw=>h w (pB _ hw)]
  split
  ·have:x≠n:=by rintro rfl;exact h v pD
   simp[this]
  ·rfl
theorem zkn{kindOf:Str->Option gr}{x:Str}:∀{binds:List (Str×kB)}{m:Str->Option kB},(∀v,(x,v)∉binds)->bindC kindOf binds m x=m x
 |[],_,_=>rfl
 |(n,v)::r,m,h=>by
  unfold bindC;rw[zkn fun w hw=>h w (pB _ hw)]
  split
  ·rfl
  ·have:x≠n:=by rintro rfl;exact h v pD
   simp[this]
theorem zjz{kindOf:Str->Option gr}{x:Str}{v:kB}:∀{P:List Str}{vs:List kB}{i:Nat}{m:Str->Option kB},P.Nodup->P[i]?=some x->vs[i]?=some v->kindOf x=some .local->
  bindL kindOf (P.zip vs) m x=some v
 |[],_,_,_,_,h,_,_=>by simp at h
 |_::_,[],_,_,_,_,h,_=>by simp at h
 |p::P,w::vs,0,m,nd,h1,h2,hk=>by
  simp at h1 h2;subst h1;subst h2
  show bindL kindOf ((p,w)::P.zip vs) m p=_
  unfold bindL;rw[zl3 fun v hv=>(vV.mp nd).1 (gN hv).1,if_pos hk]
  simp
 |p::P,w::vs,i+1,m,nd,h1,h2,hk=>by
  show bindL kindOf ((p,w)::P.zip vs) m x=_
  unfold bindL;exact zjz (i:=i) (vV.mp nd).2 (by simpa using h1) (by simpa using h2) hk
theorem zk0{kindOf:Str->Option gr}{x:Str}{v:kB}:∀{P:List Str}{vs:List kB}{i:Nat}{m:Str->Option kB},P.Nodup->P[i]?=some x->vs[i]?=some v->kindOf x≠some .local->
  bindC kindOf (P.zip vs) m x=some v
 |[],_,_,_,_,h,_,_=>by simp at h
 |_::_,[],_,_,_,_,h,_=>by simp at h
 |p::P,w::vs,0,m,nd,h1,h2,hk=>by
  simp at h1 h2;subst h1;subst h2
  show bindC kindOf ((p,w)::P.zip vs) m p=_
  unfold bindC;rw[zkn fun v hv=>(vV.mp nd).1 (gN hv).1,if_neg hk]
  simp
 |p::P,w::vs,i+1,m,nd,h1,h2,hk=>by
  show bindC kindOf ((p,w)::P.zip vs) m x=_
  unfold bindC;exact zk0 (i:=i) (vV.mp nd).2 (by simpa using h1) (by simpa using h2) hk
def start(N:List Str)(vs:List V):St:=vs.map some++vj (N.length-vs.length) none
def cxOf(CX:CXT)(P:ko)(w:pN)(K:kJ)(mg:Str->Option kB)(base:Heap)(N:List Str)(qual:Str)(scope:Scope)(f:Addr)(cd:kB)(A:pO)(outer:List Env)(s:kC)(H:Hp)(E:XK):Cx where
 prog:=P
 w:=w
 K:=K
 mg:=mg
 base:=base
 A:=A.deeper (Uf qual scope s.heap.objs.size f cd)
 N:=N
 s₀:=s
 H₀:=H
 env:=Uf qual scope s.heap.objs.size f cd
 outer:=outer
 stack:=Uf qual scope s.heap.objs.size f cd::outer
 ex:=[]
 calm:=true
 fn:=fun _=>true
 pn:=[]
 xe:=fun e s'=>wpAny (model P w) (A.deeper (Uf qual scope s.heap.objs.size f cd)) (leaving (Uf qual scope s.heap.objs.size f cd) e) (fun _ s''=>CX outer H s E e s'') (fun e' s''=>CX outer H s E e' s'') s'
theorem zmg{sc:Scope}{n:Nat}{x:Str}(h:sc.names.lookup x=some .cell):∃c,(EO n sc.names []).lookup x=some c:=by
 have q:=BB sc.names n [] (.inl h);exact vx.mp q
theorem zs8{CX:CXT}{P:ko}{w:pN}{K:kJ}{mg:Str->Option kB}{base:Heap}{N ps:List Str}{qual:Str}{scope:Scope}{f:Addr}{cd:kB}{A:pO}{outer:List Env}{s s1:kC}{H:Hp}{E:XK}{us:List kB}{vs:List V}
  (S:zab N ps scope)(hd:A.handled=none)(e0:Env0 P w K mg base A outer s H)(hl:vs.length=ps.length)(r:Vals vs us)
  (x:InCallC s s.heap.objs.size (bindL (Uf qual scope s.heap.objs.size f cd).kindOf (ps.zip us) fun _=>none) (EO (s.heap.objs.size+1) scope.names []) (bindC (Uf qual scope s.heap.objs.size f cd).kindOf (ps.zip us) fun _=>none) s1):
  Inv (cxOf CX P w K mg base N qual scope f cd A outer s H E) [] (start N vs) H s1:=by
 have hpl:ps.length<=N.length:=by have:=congrArg vH S.pre;rw[pA] at this;omega
 obtain⟨h1,tk,rfl,hk⟩:=x.done;have noA:∀b:Addr,b∉(cxOf CX P w K mg base N qual scope f cd A outer s H E).ex:=fun b z=>absurd (show b∈([]:List Addr) from z) (by simp)
 refine⟨⟨e0.mod,S.kind,rfl,rfl,kM _,fun y z c h1 h2=>?_,fun y hy=>?_,fun y c _ h=>?_,fun _=>hd,gE e0.frames,.inr ⟨rfl,rfl⟩,fun b z=>absurd z (noA b),e0.bs,e0.bsz,fun b _ _=>noA b,fun b z=>absurd z (noA b),e0.funs,e0.frf⟩,
  rfl,e0.bare,Un.kept hk,⟨_,x.toInCall.ns,fun i y v h1 h2 h3=>?_⟩,fun y c h=>⟨_,x.cell y c h⟩,e0.hok.fresh (kM _),fun y c h=>?_,fun p hp=>absurd (show p∈([]:List (Addr×Obj)) from hp) (by simp),e0.hok.kept hk,?_⟩
 ·exact name_of_addr x.apart (uE h1) (uE h2)
 ·have hy:scope.names.lookup y=some .cell∨scope.names.lookup y=some .free:=hy;rcases hy with hy|hy
  ·exact zmg hy
  ·exact absurd rfl (S.nofree _ (uE hy))
 ·exact ud (x.above y c (uE h))
 ·have hi:i<vs.length:=by
   unfold start at h2
   by_cases hi:i<vs.length
   ·exact hi
   ·rw[pY (by simpa using hi)] at h2
    rw[Am] at h2
    split at h2<;>cases h2
  have ha:vs[i]?=some v:=by
   unfold start at h2;rw[pj (by simpa using hi),kj] at h2
   cases e:vs[i]? with
   |none=>rw[e] at h2;cases h2
   |some a=>rw[e] at h2;cases h2;rfl
  obtain⟨u,hu,rv⟩:=r.get ha;have hp:ps[i]?=some y:=by
   rw[←S.pre,List.getElem?_take_of_lt (by omega)];exact h1
  have ndP:ps.Nodup:=by rw[←S.pre];exact S.nd.sublist (AX _ _)
  refine⟨u,rv,?_⟩;rcases S.par y (kZ hp) with k|k
  ·exact .inl ⟨k,zjz ndP hp hu k⟩
  ·obtain⟨c,e⟩:=zmg (n:=s.heap.objs.size+1) k;refine .inr ⟨.inl k,c,e,?_⟩;have q:=x.cell y c e;rw[zk0 ndP hp hu (by show scope.names.lookup y≠_;rw[k];decide)] at q
   exact q
 ·exact e0.hok.fresh (ud (x.above y c (uE h)))
 ·unfold start;show _=N.length;rw[kO,kP,UZ];omega
theorem fn_of{CX:CXT}{P:ko}{w:pN}{K:kJ}{mg:Str->Option kB}{base:Heap}{k:Nat}{f:Addr}{name qual:Str}{params:jS}{body:List Stmt}{scope:Scope}{dV kV doc pm cdv ct oc:kB}{an od:Option Addr}
  {osl:Array (Option kB)}{N ps:List Str}{sp:Sp}(lk:K.lookup f=some ⟨oc,od,.func (kE name qual params body scope dV kV doc pm an cdv ct),osl⟩)(hcd:kU K cdv qual=true)(S:zab N ps scope)
  (len:∀vs H Q E,sp vs H Q E->vs.length=ps.length)
  (hbody:∀(A:pO)(outer:List Env)(s:kC)(H:Hp)(vs:List V)(Q:VK)(E:XK),Room k (A.deeper (Uf qual scope s.heap.objs.size f cdv))->sp vs H Q E->
   ∃t,PSs (cxOf CX P w K mg base N qual scope f cdv A outer s H E) body t/\t {nx:=fun _ H'=>Q .non H',rt:=Q} (start N vs) H):
  FnOk P w K mg base CX (k+1) f (kE name qual params body scope dV kV doc pm an cdv ct) ps sp:=by
 refine⟨len,fun A outer s H args us vs Q E hr e0 hb r hsp=>?_⟩;have hl:=len _ _ _ _ hsp;have KX:K.In s.heap:=e0.mod.kin.keeps fun b o e=>(e0.bs b o e).1;have lim:s.heap.NoLimit:=e0.mod.nolimit.keeps fun b o e=>(e0.bs b o e).1;have hkind:∀y∈ps.zip us,scope.names.lookup y.1=some .local∨(scope.names.lookup y.1=some .cell/\((EO (s.heap.objs.size+1) scope.names []).lookup y.1).isSome=true):=fun⟨n,v⟩ hy=>by
  rcases S.par n (gN hy).1 with q|q
  ·exact .inl q
  ·exact .inr ⟨q,BB _ _ _ (.inl q)⟩
 refine codeAny_call_function hr.depth (KX _ _ lk) rfl S.co S.gen rfl (PySem.W.codeRec_of KX hcd) (hb _ _ _ _ ?_);refine wpAny_newFunctionEnv_cells S.kind hkind fun env he s1 x=>?_;subst he;refine⟨lim.keeps x.toInCall.keep,codeAny_func ?_⟩;obtain⟨t,ht,hq⟩:=hbody A outer s H vs Q E (hr.deeper _) hsp;have I:Inv (cxOf CX P w K mg base N qual scope f cdv A outer s H E) [] (start N vs) H s1:=zs8 S hr.hd e0 hl r x;refine uS (ht [] s1 (start N vs) H _ I hq) (fun fl s' hs=>?_) fun e s' hs=>hs;have fin:∀{σ':St}{H':Hp}{v:V}{u:kB},Inv (cxOf CX P w K mg base N qual scope f cdv A outer s H E) [] σ' H' s'->RelV v u->Q v H'->CE outer P w H s Q u s':=
  fun{σ' H' v u} J rv q=>⟨v,H',J.os,J.bare,J.base,J.hok,rv,q⟩
 cases fl with
 |ret u=>
  obtain⟨v,σ',H',J,rv,q⟩:=hs;exact fin J rv q
 |next=>
  obtain⟨σ',H',J,q⟩:=hs;exact fin (v:=V.non) (u:=pe) J rfl q
 |brk=>
  obtain⟨_,_,_,q⟩:=hs;exact uz q
 |cont=>
  obtain⟨_,_,_,q⟩:=hs;exact uz q
section
variable{X:Cx}{x:Str}{p pos:Pos}{e:Expr}{es:List Expr}{t:TA}{id T:String}{r:List V->Hp->VK->Prop}
def tCB(r:List V->Hp->VK->Prop)(t:TA):TE:=fun σ H Q=>t σ H fun vs H1=>r vs H1 Q
theorem zce(hc:zdk X (.builtin id) r)(hg:Gl X x)(hm:X.mg x=none)(hv:uQ x=some (.builtin id))(ha:PA X (e::es) t)(hn:x≠"__name__":=by decide)(hdb:(x==("__debug__":Str))=false:=by decide)
  (he:uF (e::es) X.env=(false,eval e X.env)::uF es X.env:=by rfl) (hpl:(va pos (uF es X.env)).any (·.1)=false:=by rfl):PE X (.Call (.Name x p) (e::es) [] pos) (tCB r t):=by
 intro pins s σ H Q I h;refine UW (zfg I hg hm hv ?_ hn hdb);exact PyProof.Rows.callWith_builtin1 (thn (ha pos pins s σ H _ I h) fun us s1⟨vs,H1,I1,r1,q1⟩=>hc pins s1 σ H1 vs us Q I1 r1 q1) he hpl
theorem zea(hc:zdk X (.type T) r)(hg:Gl X x)(hm:X.mg x=none)(hv:uQ x=some (.type T))(ha:PA X (e::es) t)(hn:x≠"__name__":=by decide)(hdb:(x==("__debug__":Str))=false:=by decide)
  (he:uF (e::es) X.env=(false,eval e X.env)::uF es X.env:=by rfl) (hpl:(va pos (uF es X.env)).any (·.1)=false:=by rfl):PE X (.Call (.Name x p) (e::es) [] pos) (tCB r t):=by
 intro pins s σ H Q I h;refine UW (zfg I hg hm hv ?_ hn hdb);exact Qp (thn (ha pos pins s σ H _ I h) fun us s1⟨vs,H1,I1,r1,q1⟩=>hc pins s1 σ H1 vs us Q I1 r1 q1) he hpl
end
end L2
namespace HT
open PySem PyProof.Rows
def lexLt:List Int->List Int->Bool
 |[],[]=>false
 |[],_::_=>true
 |_::_,[]=>false
 |x::xs,y::ys=>if x=y then lexLt xs ys else decide (x<y)
theorem lexLt_cons(x y:Int)(xs ys:List Int):lexLt (x::xs) (y::ys)=if x=y then lexLt xs ys else decide (x<y):=rfl
theorem lexLt_nil_nil:lexLt [] []=false:=rfl
theorem eqAt_int(A:pO)(s:kC)(a:Int)(t:Tok)(c:Int)(u:Tok):∃e,SeqAt.EqAt A s (.int a t) (.int c u) e/\(e=true↔a=c):=
 ⟨(a==c),SeqAt.EqAt.int_int a t c u,by simp⟩
section
variable{prog:ko}{w:pN}{A:pO}{E:kB->kC->Prop}{s:kC}
theorem cat_tup{t b:Addr}{vs ws:List kB}{Q:kB->kC->Prop}(ht:IsTup s.heap t vs.toArray)(hb:IsTup s.heap b ws.toArray)(hv:vs≠[])
  (h1:ws=[]->Q (.ref t) s)(h2:ws≠[]->Q (.ref s.heap.objs.size) {s with heap:=s.heap.push {cls:=.type "tuple",data:=.seq (vs++ws).toArray}})
  (hsz:vs.length+ws.length<=sizeLine):wpAny (model prog w) A (vU .Add (.ref t) (.ref b)) Q E s:=by
 obtain⟨⟨cls,dd,data,sl⟩,ho,hc,n,hd⟩:=id ht;obtain⟨⟨cls2,dd2,data2,sl2⟩,ho2,hc2,n2,hd2⟩:=id hb
 simp only at hc hd hc2 hd2
 subst hc hd hc2 hd2;have e:vs.toArray++ws.toArray=(vs++ws).toArray:=by simp
 by_cases hw:ws=[]
 ·exact concat_meets ⟨_,ho,rfl⟩ ⟨_,ho2,rfl⟩ DG seq_tuple_add BC An (Ad _ _)
   (tuple_addW1 t b vs.toArray ws.toArray n n2 dd dd2 sl sl2 (by simpa using hv) (by simp[hw])) ⟨ho,ho2,h1 hw⟩
 ·refine concat_meets ⟨_,ho,rfl⟩ ⟨_,ho2,rfl⟩ DG seq_tuple_add BC An (Ad _ _)
   (tuple_addW2 t b vs.toArray ws.toArray n n2 dd dd2 sl sl2 (by simpa using hv) (by simpa using hw) (by rw[kt,kt];exact hsz)) ⟨ho,ho2,?_⟩
  rw[e];exact h2 hw
def sIx(n d:Nat):Option Int->Nat
 |none=>d
 |some v=>if v<0 then(v+(n:Int)).toNat else min v.toNat n
theorem sIx_none(n d:Nat):sIx n d none=d:=rfl
end
end HT
namespace L2
open PySem PySem.Spec PyProof.Rows
abbrev TO:=St->Hp->(Option Int->Hp->Prop)->Prop
def PO(X:Cx)(e:Option Expr)(t:TO):Prop:=
 ∀(pins:List (Addr×Obj))(s:kC)(σ:St)(H:Hp)(Q:Option Int->Hp->Prop),Inv X pins σ H s->t σ H Q->
  wpAny (model X.prog X.w) X.A (evalPart e X.env) (fun u s'=>∃o H',Inv X pins σ H' s'/\IsPart u o/\Q o H') X.xe s
def zsd:TO:=fun _ H Q=>Q none H
def tPart(t:TE):TO:=fun σ H Q=>t σ H fun x H1=>∃i,x=.int i/\Q (some i) H1
theorem ze9{ns:List Int}:∀{us:List kB},Vals (ns.map V.int) us->Ua us ns:=by
 induction ns with
 |nil=>intro us r;rw[vL] at r;cases r;exact .nil
 |cons n ns ih=>
  intro us r;rw[pC] at r
  cases r with
  |cons r1 r2=>
   obtain⟨t,e⟩:=r1;subst e;exact .cons n t (ih r2)
section
variable{X:Cx}{e:Expr}{te:TE}{lo hi:Option Expr}{tl th:TO}{pos p2:Pos}
theorem po_none:PO X none zsd:=by
 intro pins s σ H Q I h;rw[evalPart_none];exact kL ⟨none,H,I,.none,h⟩
theorem po_some(h:PE X e te):PO X (some e) (tPart te):=by
 intro pins s σ H Q I hw;rw[evalPart_some];refine thn (h pins s σ H _ I hw) fun u s1⟨x,H1,I1,r1,q1⟩=>?_;obtain⟨i,rfl,q⟩:=q1;obtain⟨t,rfl⟩:=r1;exact⟨some i,H1,I1,.int i t,q⟩
def SlR(X:Cx)(r:V->Option Int->Option Int->Hp->VK->Prop):Prop:=
 ∀(pins:List (Addr×Obj))(s:kC)(σ:St)(H:Hp)(x:V)(v vl vu:kB)(lo hi:Option Int)(sl:Addr)(Q:VK),Inv X pins σ H s->RelV x v->s.heap.IsSliceOf sl vl vu .none->IsPart vl lo->IsPart vu hi->r x lo hi H Q->
  ∃T id,typeLookup (.type T) "__getitem__"=pure (some (.builtin id))/\s.TypeIs v T/\wpAny (model X.prog X.w) X.A (Ci v (.ref sl)) (EP X pins σ Q) X.xe s
def tSl(r:V->Option Int->Option Int->Hp->VK->Prop)(te:TE)(tl th:TO):TE:=fun σ H Q=>te σ H fun x H1=>tl σ H1 fun l H2=>th σ H2 fun u H3=>r x l u H3 Q
theorem pe_slice{r:V->Option Int->Option Int->Hp->VK->Prop}(hr:SlR X r)(he:PE X e te)(hl:PO X lo tl)(hu:PO X hi th):PE X (.Subscript e (.Slice lo hi none p2) pos) (tSl r te tl th):=by
 intro pins s σ H Q I h;refine Du (thn (he pins s σ H _ I h) fun v s1⟨x,H1,I1,r1,q1⟩=>?_);refine wpAny_Slice (thn (hl pins s1 σ H1 _ I1 q1) fun vl s2⟨l,H2,I2,pl,q2⟩=>thn (hu pins s2 σ H2 _ I2 q2) fun vu s3⟨u,H3,I3,pu,q3⟩=>?_);rw[evalPart_none];refine kL ?_;have I4:Inv X pins σ H3 {s3 with heap:=s3.heap.push {cls:=.type "slice",data:=.fields #[vl,vu,.none]}}:=I3.kept (t':=s3.toks) fun b ob q=>kI _ q;obtain⟨T,id,hT,ht,hg⟩:=hr pins {s3 with heap:=s3.heap.push {cls:=.type "slice",data:=.fields #[vl,vu,.none]}} σ H3 x v vl vu l u s3.heap.objs.size Q I4 r1 (Heap.IsSliceOf.new ..) pl pu q3;show wpAny (model X.prog X.w) X.A (CL e (.Slice lo hi none p2) v (.ref s3.heap.objs.size)) (EP X pins σ Q) X.xe {s3 with heap:=s3.heap.push {cls:=.type "slice",data:=.fields #[vl,vu,.none]}};exact tail_any (ops:=[.ref s3.heap.objs.size,v]) ht hT hg (by with_unfolding_all rfl)
def cutV(xs:List V)(lo hi:Option Int):List V:=(xs.drop (HT.sIx xs.length 0 lo)).take (HT.sIx xs.length xs.length hi-HT.sIx xs.length 0 lo)
theorem zl7(xs:List V)(lo hi:Option Int):(cutV xs lo hi).length<=xs.length:=by
 unfold cutV;rw[pA,pU];omega
def rCatT(K:kJ):R2:=fun x y H Q=>∃a b xs ys,x=.ref a/\y=.ref b/\SqT K H a xs/\SqT K H b ys/\xs≠[]/\xs.length+ys.length<=sizeLine/\
 (ys=[]->Q (.ref a) H)/\(ys≠[]->∀p,H p=none->Q (.ref p) (upd H p (.tup (xs++ys))))
theorem Vals.nil_iff{xs:List V}{us:List kB}(r:Vals xs us):us=[]↔xs=[]:=by
 cases r with
 |nil=>simp
 |cons _ _=>simp
theorem zos:OpR X (vU .Add) (rCatT X.K):=by
 intro pins s σ H x y v u Q I rx ry h;obtain⟨a,b,xs,ys,rfl,rfl,ha,hb,hx,hz,q1,q2⟩:=h
 cases rx
 cases ry;obtain⟨its,r1,p1,_⟩:=I.tuple ha;obtain⟨its2,r2,p2,_⟩:=I.tuple hb;refine HT.cat_tup p1 p2 (fun z=>hx (r1.nil_iff.mp z)) (fun z=>⟨.ref a,H,I,rfl,q1 (r2.nil_iff.mp z)⟩) (fun z=>?_) (by rw[←r1.length,←r2.length];exact hz)
 refine⟨.ref s.heap.objs.size,_,I.laid (t':=s.toks) (o:=.tup (xs++ys)) (fun b ob q=>kI _ q) (kM _) ?_,rfl,q2 (fun w=>z (r2.nil_iff.mpr w)) _ (I.hok.fresh (kM _))⟩;exact⟨by rw[kO];exact hz,_,r1.append r2,IsTup.new _ _⟩
end
def ixN(n:Nat)(i:Int):Option Nat:=if 0<=i then(if i<n then some i.toNat else none) else if-(n:Int)<=i then some (i+n).toNat else none
def atI{α:Type}(xs:List α)(i:Int):Option α:=(ixN xs.length i).bind fun j=>xs[j]?
theorem ixN_seq{n:Nat}{i:Int}{j:Nat}(h:ixN n i=some j):seqIndex? i n=some j/\j<n/\ -(n:Int)<=i/\i<n:=by
 unfold ixN at h
 by_cases h0:0<=i
 ·rw[if_pos h0] at h
  by_cases h1:i<n
  ·rw[if_pos h1] at h;have e:i.toNat=j:=pV h;exact⟨by rw[seqIndex_of h0 h1,e],by omega,by omega,h1⟩
  ·rw[if_neg h1] at h;cases h
 ·rw[if_neg h0] at h
  by_cases h1: -(n:Int)<=i
  ·rw[if_pos h1] at h;have e:(i+n).toNat=j:=pV h;exact⟨by rw[seqIndex_neg (by omega) h1,e],by omega,h1,by omega⟩
  ·rw[if_neg h1] at h;cases h
theorem zt0{α:Type}{xs:List α}{i:Int}{v:α}(h:atI xs i=some v):∃j,seqIndex? i xs.length=some j/\xs[j]?=some v/\j<xs.length/\ -(xs.length:Int)<=i/\i<xs.length:=by
 unfold atI at h
 cases e:ixN xs.length i with
 |none=>rw[e] at h;cases h
 |some j=>
  rw[e] at h;obtain⟨h1,h2,h3,h4⟩:=ixN_seq e;exact⟨j,h1,h,h2,h3,h4⟩
theorem zb6{α:Type}{xs:List α}{j:Nat}{v:α}(h:xs[j]?=some v):atI xs (j:Int)=some v:=by
 have hj:j<xs.length:=(kF.mp h).1;have e:ixN xs.length (j:Int)=some j:=by
  unfold ixN;rw[if_pos (by omega),if_pos (by omega)];simp
 unfold atI;rw[e];exact h
def PlainIx(b:Expr):Prop:=∀o i,subscripted b false o i=operate [o,i] (Ci o i)
def IxR(X:Cx)(r:R2):Prop:=
 ∀(value slice:Expr)(pins:List (Addr×Obj))(s:kC)(σ:St)(H:Hp)(x y:V)(v u:kB)(Q:VK),Inv X pins σ H s->RelV x v->RelV y u->r x y H Q->
  subscripted slice false v u=operate [v,u] (Ci v u)->wpAny (model X.prog X.w) X.A (CL value slice v u) (EP X pins σ Q) X.xe s
def MtR(X:Cx)(id:String)(r:V->List V->Hp->VK->Prop):Prop:=
 ∀(pins:List (Addr×Obj))(s:kC)(σ:St)(H:Hp)(x:V)(xs:List V)(v:kB)(us:List kB)(Q:VK),Inv X pins σ H s->RelV x v->Vals xs us->r x xs H Q->
  wpAny (model X.prog X.w) X.A (call (.builtin id) (v::us)) (EP X pins σ Q) X.xe s
section
variable{X:Cx}{a b:Expr}{ta tb:TE}{pos:Pos}
theorem zck{r:R2}(hr:IxR X r)(ha:PE X a ta)(hb:PE X b tb)(hs:PlainIx b):PE X (.Subscript a b pos) (tOp r ta tb):=by
 intro pins s σ H Q I h;exact Du (binT ha hb I h fun v u s2 x y H2 I2 rx ry q=>hr a b pins s2 σ H2 x y v u Q I2 rx ry q (hs _ _))
def rIxL(K:kJ):R2:=fun x y H Q=>∃p xs i v,x=.ref p/\y=.int i/\SqL K H p xs/\atI xs i=some v/\Q v H
def rIxT(K:kJ):R2:=fun x y H Q=>∃p xs i v,x=.ref p/\y=.int i/\SqT K H p xs/\atI xs i=some v/\Q v H
theorem zsu:IxR X (rIxL X.K):=by
 intro value slice pins s σ H x y v u Q I rx ry h hs;obtain⟨p,xs,i,z,rfl,rfl,hq,he,q⟩:=h
 cases rx;obtain⟨t,rfl⟩:=ry;obtain⟨its,r,pl,hz⟩:=I.list hq;obtain⟨j,h1,h2,h3,h4,h5⟩:=zt0 he;obtain⟨w,ew,rw'⟩:=r.get h2;have hl:=r.length;have hn:=line63;have fin:EP X pins σ Q w s:=⟨z,H,I,rw',q⟩
 by_cases h0:0<=i
 ·have hj:i.toNat=j:=by
   rw[seqIndex_of h0 h5] at h1;exact pV h1
  exact item_listR pl.isList h0 (by omega) (by rw[hj];simpa using ew) fin hs
 ·have hj:(i+(its.toArray.size:Int)).toNat=j:=by
   rw[seqIndex_neg (by omega) h4] at h1
   rw[kt,←hl];exact pV h1
  exact BD (x:=w) pl.isList.typeIs Cj.lookup
   (wpAny_getItem_list_neg (Q:=fun r s'=>r=w/\EP X pins σ Q r s') pl.isList (by omega) (by rw[kt]<;>omega) (by omega) (by rw[hj];simpa using ew) ⟨rfl,fin⟩) hs
theorem ix_tup:IxR X (rIxT X.K):=by
 intro value slice pins s σ H x y v u Q I rx ry h hs;obtain⟨p,xs,i,z,rfl,rfl,hq,he,q⟩:=h
 cases rx;obtain⟨t,rfl⟩:=ry;obtain⟨its,r,pl,hz⟩:=I.tuple hq;obtain⟨j,h1,h2,h3,h4,h5⟩:=zt0 he;obtain⟨w,ew,rw'⟩:=r.get h2;have hl:=r.length;have hn:=line63;have fin:EP X pins σ Q w s:=⟨z,H,I,rw',q⟩;exact BD (x:=w) pl.typeIs slot_tuple_getitem.lookup
  (getItem_tuple (j:=j) (Q:=fun r s'=>r=w/\EP X pins σ Q r s') pl (by omega) (by omega) (by rw[kt,←hl];exact h1) (by simpa using ew) ⟨rfl,fin⟩) hs
theorem zkk(lo hi:Option Int)(n:Nat):(jT lo hi none n).1=((HT.sIx n 0 lo:Nat):Int)/\(jT lo hi none n).2.1=((HT.sIx n n hi:Nat):Int)/\(jT lo hi none n).2.2=1:=by
 refine⟨?_,?_,rfl⟩
 ·cases lo with
  |none=>simp[jT,HT.sIx]
  |some i=>
   simp only[jT,HT.sIx,DH,show(1:Int)>0 by decide,if_true]
   by_cases h:i<0
   ·simp only[h,if_true]<;>omega
   ·simp only[h,if_false]<;>omega
 ·cases hi with
  |none=>simp[jT,HT.sIx]
  |some i=>
   simp only[jT,HT.sIx,DH,show(1:Int)>0 by decide,if_true]
   by_cases h:i<0
   ·simp only[h,if_true]<;>omega
   ·simp only[h,if_false]<;>omega
theorem zji(its:List kB)(lo hi:Option Int):slicePick its.toArray lo hi none=((its.drop (HT.sIx its.length 0 lo)).take (HT.sIx its.length its.length hi-HT.sIx its.length 0 lo)).toArray:=by
 obtain⟨h1,h2,h3⟩:=zkk lo hi its.toArray.size;unfold slicePick;rw[h1,h2,h3];simp only[sliceRange_one,pick_run,kt]<;>rfl
def rSlL(K:kJ):V->Option Int->Option Int->Hp->VK->Prop:=fun x lo hi H Q=>∃a xs,x=.ref a/\SqL K H a xs/\∀p,H p=none->Q (.ref p) (upd H p (.lst (cutV xs lo hi)))
theorem sl_list:SlR X (rSlL X.K):=by
 intro pins s σ H x v vl vu lo hi sl Q I rx hs pl pu h;obtain⟨a,xs,rfl,hx,q⟩:=h
 cases rx;obtain⟨its,r,ht,hz⟩:=I.list hx;have hlen:=r.length;refine⟨"list",_,Cj.lookup,ht.isList.typeIs,?_⟩;refine wpAny_getItem_list_slice ht.isList hs pl pu .none (by simp) ?_ (by rw[kt]<;>omega)
 rw[zji,←hlen];refine⟨.ref s.heap.objs.size,_,I.laid (t':=s.toks) (o:=.lst (cutV xs lo hi)) (fun b ob q=>kI _ q) (kM _) ?_,rfl,q _ (I.hok.fresh (kM _))⟩;exact⟨pP (zl7 xs lo hi) hz,_,0,(r.drop (HT.sIx xs.length 0 lo)).take (HT.sIx xs.length xs.length hi-HT.sIx xs.length 0 lo),kh _ rfl⟩
theorem zgt:zdk X (.builtin "len") (fun xs H Q=>∃p ys,xs=[.ref p]/\(SqL X.K H p ys∨SqT X.K H p ys)/\Q (.int ys.length) H):=by
 intro pins s σ H xs us Q I r h;obtain⟨p,ys,rfl,hq,q⟩:=h;obtain⟨u,rfl,rx⟩:=vals1 r
 cases rx;have hn:=line63;rcases hq with hq|hq
 ·obtain⟨its,r',pl,hz⟩:=I.list hq;have hlen:=r'.length;exact Calls.call_len_list pl.isList (by simp only[kt]<;>omega) ⟨.int ys.length,H,I.tok _,⟨s.toks+1,by rw[kt,hlen]⟩,q⟩
 ·obtain⟨its,r',pl,hz⟩:=I.tuple hq;have hlen:=r'.length;exact len_tuple pl (by simp only[kt]<;>omega) ⟨.int ys.length,H,I.tok _,⟨s.toks+1,by rw[kt,hlen]⟩,q⟩
theorem zjx:zdk X (.type "list") (fun xs H Q=>∃p ys,xs=[.ref p]/\(SqL X.K H p ys∨SqT X.K H p ys)/\∀l,H l=none->Q (.ref l) (upd H l (.lst ys))):=by
 intro pins s σ H xs us Q I r h;obtain⟨p,ys,rfl,hq,q⟩:=h;obtain⟨u,rfl,rx⟩:=vals1 r
 cases rx;have fin:∀(its:List kB),Vals ys its->ys.length<=sizeLine->∀(h':Heap)(c':Nat),(∀b o',s.heap.get? b=some o'->h'.get? b=some o')->
   h'.get? s.heap.objs.size=some {cls:=.type "list",dict:=none,data:=.seq its.toArray c',slots:=#[]}->EP X pins σ Q (.ref s.heap.objs.size) {s with heap:=h'}:=fun its r' hz h' c' kp e=>
  ⟨.ref s.heap.objs.size,_,I.laid (t':=s.toks) kp (kM _) (show zd9 X.prog X.w _ h' _ (.lst ys) from⟨hz,its,c',r',e⟩),rfl,q _ (I.hok.fresh (kM _))⟩
 rcases hq with hq|hq
 ·obtain⟨its,r',pl,hz⟩:=I.list hq;have hlen:=r'.length;obtain⟨o,ho,hc,n,hd⟩:=pl.isList;exact call_list_seq p (.inl rfl) ho hc hd (fun h' c' kp e=>fin its r' hz h' c' kp e) (by simp only[kt]<;>omega)
 ·obtain⟨its,r',pl,hz⟩:=I.tuple hq;have hlen:=r'.length;obtain⟨o,ho,hc,n,hd⟩:=pl;exact call_list_seq p (.inr rfl) ho hc hd (fun h' c' kp e=>fin its r' hz h' c' kp e) (by simp only[kt]<;>omega)
def tyV(K:kJ)(T:String)(x:V)(H:Hp):Prop:=match x with
 |.str _=>T="str"
 |.int _=>T="int"
 |.ref p=>(T="list"/\∃xs,SqL K H p xs)∨(T="tuple"/\∃o,K.lookup p=some o/\o.cls=.type "tuple"/\o.dict=none)∨
   (T="dict"/\((∃kvs,H p=some (.dK kvs))∨∃kvs,H p=some (.dT kvs)))∨(T="set"/\∃S n,H p=some (.set S n))
 |_=>False
theorem tyV_is{pins:List (Addr×Obj)}{σ:St}{H:Hp}{s:kC}{T:String}{x:V}{v:kB}(I:Inv X pins σ H s)(r:RelV x v)(ty:tyV X.K T x H):
  s.TypeIs v T/\∀a,v=.ref a->∃ob,s.heap.get? a=some ob/\ob.dict=none:=by
 cases x with
 |str z=>
  obtain⟨t,rfl⟩:=r
  cases(show T="str" from ty);exact⟨typeIs_str s z t,fun _ e=>nomatch e⟩
 |int i=>
  obtain⟨t,rfl⟩:=r
  cases(show T="int" from ty);exact⟨typeIs_int s i t,fun _ e=>nomatch e⟩
 |ref p=>
  cases r;rcases ty with⟨rfl,xs,hq⟩|⟨rfl,o,hk,hc,hd⟩|⟨rfl,hk⟩|⟨rfl,S,n,hk⟩
  ·obtain⟨its,_,pl,_⟩:=I.list hq;refine⟨pl.isList.typeIs,fun a e=>?_⟩
   cases e;obtain⟨o,n,e,c,hd,_⟩:=pl;exact⟨o,e,hd⟩
  ·refine⟨⟨o,I.kIn p o hk,hc⟩,fun a e=>?_⟩
   cases e;exact⟨o,I.kIn _ o hk,hd⟩
  ·have z:∃o,s.heap.get? p=some o/\o.ExactDict:=by
    rcases hk with⟨kvs,hk⟩|⟨kvs,hk⟩
    ·obtain⟨_,_,_,_,o,_,_,e,ex,_⟩:=I.hok p _ hk;exact⟨o,e,ex⟩
    ·obtain⟨_,_,_,_,o,_,_,e,ex,_⟩:=I.hok p _ hk;exact⟨o,e,ex⟩
   obtain⟨o,e,ex⟩:=z;refine⟨⟨o,e,ex.1⟩,fun a e2=>?_⟩
   cases e2;exact⟨o,e,ex.2.1⟩
  ·obtain⟨o,_,_,_,e,ex,_⟩:=I.hok p _ hk;refine⟨⟨o,e,ex.1⟩,fun a e2=>?_⟩
   cases e2;exact⟨o,e,ex.2.1⟩
 |_=>exact uz ty
def tBM(K:kJ)(T:String)(r:V->List V->Hp->VK->Prop)(to:TE)(t:TA):TE:=fun σ H Q=>to σ H fun x H1=>tyV K T x H1/\t σ H1 fun xs H2=>r x xs H2 Q
variable{o e:Expr}{es:List Expr}{to:TE}{t:TA}{name:Str}{apos cpos:Pos}{T id:String}{r:V->List V->Hp->VK->Prop}
theorem zlm(pa:PlainAttrs T)(slot:Slot T name id)(hty:DI (.builtin id)=pure (.type "method_descriptor"))(hm:MtR X id r)(ho:PE X o to)(ha:PA X (e::es) t)
  (hbase:attributeBase o name X.env (eval o X.env)=eval o X.env:=by rfl)
  (hfew:((va cpos (uF (e::es) X.env)).all (fun x=> !x.1)&&(Al cpos (jR [] X.env)).all (fun x=>x.1.isSome)
   &&decide ((e::es).length+([]:List CB).length+(if([]:List CB).isEmpty then 0 else 1)<30))=true:=by rfl)
  (hline:(apos.endLine==cpos.line)=true:=by rfl) (hs:uF (e::es) X.env=(false,eval e X.env)::uF es X.env:=by rfl) (hplain:(va cpos (uF es X.env)).any (·.1)=false:=by rfl):
  PE X (.Call (.Attribute o name apos) (e::es) [] cpos) (tBM X.K T r to t):=by
 intro pins s σ H Q I h;refine wpAny_Call_method_late hbase hfew hline rfl (thn (ho pins s σ H _ I h) fun v s1⟨x,H1,I1,r1,ty,q1⟩=>?_);obtain⟨h1,h2⟩:=tyV_is I1 r1 ty;refine⟨T,id,pa,slot,hty,h1,h2,?_⟩;have hA:=ha cpos pins s1 σ H1 _ I1 q1;rw[hs] at hA⊢;refine BE (by show(false||(va cpos (uF es X.env)).any (·.1))=false;rw[hplain]<;>rfl) (Bi ?_)
 exact thn hA fun us s2⟨vs,H2,I2,r2,q2⟩=>hm pins s2 σ H2 x vs v us Q I2 r1 r2 q2
end
def MtM(X:Cx)(id:String)(r:V->List V->Hp->VK->Prop):Prop:=
 ∀(pins:List (Addr×Obj))(s:kC)(σ:St)(H:Hp)(x:V)(xs:List V)(v:kB)(us:List kB)(Q:VK),Inv X pins σ H s->RelV x v->Vals xs us->r x xs H Q->
  wpAny (model X.prog X.w) X.A (call (.builtin id) (v::us)) (EP X pins σ Q) X.xe s
theorem Vals.one:∀{x:V}{us:List kB},Vals [x] us->∃u,us=[u]/\RelV x u
 |_,_,.cons r .nil=>⟨_,rfl,r⟩
section
variable{X:Cx}{pins:List (Addr×Obj)}{σ:St}{H:Hp}{s:kC}{l b:Addr}{xs ys zs:List V}
theorem Inv.lset{its its':List kB}{n:Nat}{f:Array kB->Array kB}{t':Nat}(I:Inv X pins σ H s)(hH:H l=some (.lst xs))
  (e:s.heap.get? l=some {cls:=.type "list",data:=.seq its.toArray n})(hf:f its.toArray=its'.toArray)(hv:Vals ys its')(hz:ys.length<=sizeLine):
  Inv X pins σ (upd H l (.lst ys)) {s with heap:=s.heap.update l (kx f),toks:=t'}:=by
 have q:=PySem.IsL.update e f;rw[hf] at q;refine I.write (x:=l) (e:=l) (by rw[hH];exact trivial) (.inl rfl) (fun b' u hb hu=>(uW s.heap (kx f) (Ul hb)).trans hu) ⟨_,q⟩ ?_
 exact⟨hz,its',_,hv,q⟩
theorem Inv.lnew{its:List kB}{t':Nat}(I:Inv X pins σ H s)(hv:Vals ys its)(hz:ys.length<=sizeLine):
  Inv X pins σ (upd H s.heap.objs.size (.lst ys)) {s with heap:=s.heap.push {cls:=.type "list",data:=.seq its.toArray},toks:=t'}:=
 I.laid (fun _ _ q=>kI _ q) (kM _) ⟨hz,its,0,hv,kh _ rfl⟩
theorem Inv.fresh(I:Inv X pins σ H s):H s.heap.objs.size=none:=I.hok.fresh (kM _)
theorem Inv.lstM(I:Inv X pins σ H s)(hH:H l=some (.lst xs)):xs.length<=sizeLine/\∃(its:List kB)(n:Nat),Vals xs its/\xs.length=its.length/\s.heap.get? l=some {cls:=.type "list",data:=.seq its.toArray n}:=by
 obtain⟨z,its,n,r,e⟩:=I.hok l _ hH;exact⟨z,its,n,r,r.length,e⟩
theorem zmv{n:Nat}(h:n<=sizeLine):UE n=false:=by
 unfold UE;exact decide_eq_false (by omega)
end
section
variable{X:Cx}
def rAppend:V->List V->Hp->VK->Prop:=fun x vs H Q=>∃l xs y,x=.ref l/\vs=[y]/\H l=some (.lst xs)/\xs.length<sizeLine/\Q .non (upd H l (.lst (xs++[y])))
theorem ze7:MtM X "list.append" rAppend:=by
 intro pins s σ H x vs v us Q I rx rv h;obtain⟨l,xs,y,rfl,rfl,hH,hz,q⟩:=h
 cases rx;obtain⟨u,rfl,ru⟩:=rv.one;obtain⟨z,its,n,r,hl,e⟩:=I.lstM hH;refine CS F.slot_list_append ⟨_,e,rfl⟩ F.entry_list_append (F.args_list_append_2 _ _) (PySem.list_append l its.toArray n u (by rw[kt];omega)) ⟨e,?_⟩
 refine⟨.non,_,I.lset (its':=its++[u]) hH e (by simp) (r.append (.cons ru .nil)) ?_,rfl,q⟩
 rw[kO,jw];omega
def rExtend:V->List V->Hp->VK->Prop:=fun x vs H Q=>∃l b xs zs,x=.ref l/\vs=[.ref b]/\H l=some (.lst xs)/\H b=some (.lst zs)/\xs.length+zs.length<=sizeLine/\Q .non (upd H l (.lst (xs++zs)))
theorem zrz:MtM X "list.extend" rExtend:=by
 intro pins s σ H x vs v us Q I rx rv h;obtain⟨l,b,xs,zs,rfl,rfl,hH,hB,hz,q⟩:=h
 cases rx;obtain⟨u,rfl,ru⟩:=rv.one
 cases ru;obtain⟨z,its,n,r,hl,e⟩:=I.lstM hH;obtain⟨z2,its2,n2,r2,hl2,e2⟩:=I.lstM hB;have hsz:its.toArray.size+its2.toArray.size<=sizeLine:=by rw[kt,kt];omega
 have hlong:¬(!its.toArray.isEmpty&&UE (its.toArray.size+its2.toArray.size))=true:=by
  rw[zmv hsz,Dv];exact pI
 refine CS F.slot_list_extend ⟨_,e,rfl⟩ F.entry_list_extend (F.args_list_extend_2 _ _)
  (AutoSeq1.list_extend_list_list_0 l its.toArray n b its2.toArray n2 hlong (by rw[kt];omega) (by omega)) ⟨e,e2,?_⟩
 refine⟨.non,_,I.lset (its':=its++its2) hH e (by simp) (r.append r2) ?_,rfl,q⟩
 rw[kO];omega
def rCat:R2:=fun x y H Q=>∃l b xs zs,x=.ref l/\y=.ref b/\H l=some (.lst xs)/\H b=some (.lst zs)/\xs.length+zs.length<=sizeLine/\∀p,H p=none->Q (.ref p) (upd H p (.lst (xs++zs)))
theorem zp2:OpR X (vU .Add) rCat:=by
 intro pins s σ H x y v u Q I rx ry h;obtain⟨l,b,xs,zs,rfl,rfl,hH,hB,hz,q⟩:=h
 cases rx
 cases ry;obtain⟨z,its,n,r,hl,e⟩:=I.lstM hH;obtain⟨z2,its2,n2,r2,hl2,e2⟩:=I.lstM hB;refine PySem.P.add_list e e2 ?_ (by rw[kt,kt];omega)
 have ea:its.toArray++its2.toArray=(its++its2).toArray:=by simp
 rw[ea];exact⟨.ref _,_,I.lnew (t':=s.toks) (r.append r2) (by rw[kO];omega),rfl,q _ I.fresh⟩
end
end L2
namespace Att
open PySem PySem.W PySem.Calls PyProof.Rows
theorem zhp{P:Params}{h:Heap}:∀(ns:List Int)(vs:List kB),WellAll P h vs (ns.map WData.int)->Ua vs ns:=by
 intro ns
 induction ns with
 |nil=>
  intro vs w;rw[vL] at w
  cases w;exact .nil
 |cons n ns ih=>
  intro vs w;rw[pC] at w
  cases w with
  |cons a b=>
   cases a;exact .cons _ _ (ih _ b)
theorem zs1{l:OpenLaw}{n:Nat}(hn:l.most=some n){P:Params}{h:Heap}{args:List WData}{vals:List kB}
  (hpre:l.row.toRowW.claim.pre args=true)(hwl:WellAll P h vals args):
  ∃a vs ns,vals=[pz a]/\args=[WData.list (ns.map WData.int)]/\h.get? a=some {cls:=.type "list",data:=.seq vs.toArray}/\Ua vs ns/\ns.length<=n:=by
 have hsh:WShape.hasAll [] args [.list .int]=true:=(pre_splitW hpre).1;have hc:l.pre.holds [] {args:=args}=true:=(pre_splitW hpre).2;obtain⟨d,r,rfl,h1,h2⟩:=hasAllW_cons hsh;obtain rfl:=hasAllW_nil h2;obtain⟨xs,rfl,h3⟩:=hasW_list h1;obtain⟨ns,rfl⟩:=items_int h3;have hlen:ns.length<=n:=by
  unfold OpenLaw.pre at hc;have h4:(WTm.not (.lt (.lit (.int (n:Int))) (.len (.arg 0)))).holds [] {args:=[.list (ns.map .int)]}=true:=by
   have h4:=(holds_andW hc).1;rw[hn] at h4;exact h4
  have h5:=condW_of h4 (w_not (w_lt w_lit (w_len_list (w_arg rfl))));rw[kP] at h5;refine Nat.le_of_not_lt fun q=>?_;have q':(n:Int)<((ns.length:Nat):Int):=by omega
  first
   |(rw[decide_eq_true q'] at h5;exact absurd h5 (by decide))
   |(simp at h5;omega)
 cases hwl with
 |cons w1 w2=>
  cases w2
  cases w1 with
  |list ho hall=>exact⟨_,_,ns,rfl,rfl,ho,zhp ns _ hall,hlen⟩
theorem zph(l:OpenLaw)(args:List WData):l.row.toRowW.claim.post args (.bool true) args=true:=
 postW_of (r:=l.row.toRowW) (X:=(true==true))
  (show WShape.has [] (.bool true) .bool=true by first|rfl|decide|simp[WShape.has,WShape.arms,WShape.armsAll])
  (show(WTm.eq .res (.lit (.bool true))).value [] {args:=args,res:=some (.bool true),after:=args}=some (.bool (true==true)) from w_eq_bool (w_res rfl) w_lit) rfl
theorem attach_call{l:OpenLaw}{n:Nat}{q:ko}{loose:List Str}{XP:(Str->Option kB)->Heap->Prop}{YP:pN->Heap->Prop}{d:DefRec}
  (hn:l.most=some n)(hdf:d.params.defaults=[])
  (call:∀(w:pN)(s₀ s₁:kC)(mg mb:Str->Option kB)(fa:Addr)(o:Obj)(pm cd doc:kB)(a:Addr)(vs:List kB)(ns:List Int),
   Ground q loose [] XP w s₀ mg mb s₁.heap->YP w s₁.heap->
   s₁.heap.get? fa=some o->o.data=.func (docDef d.name d.params d.body d.scope pm cd doc)->s₁.heap.CodeRec cd d.name->mg d.name=some (.ref fa)->
   s₁.heap.get? a=some {cls:=.type "list",data:=.seq vs.toArray}->Ua vs ns->ns.length<=n->s₁.gens=#[]->
   jH (model l.prog w) CC (.call (.ref fa) ⟨[.ref a],[]⟩) (fun r s'=>r=.ok (.ret (.bool true))/\OldK s₁.heap s'.heap/\s'.os=s₁.os/\AU s'.gens) s₁):
  WalkO q loose XP YP l.row.toRowW d [] (fun f vs=>Dw f vs):=by
 intro w s₀ s₁ mg mb G Y fa o pm cd doc dV kV ho hd hcd hD hmg hg args vals as hpre hlay hrd hwl hlo;obtain rfl:dV=.none:=Dflts.none hD hdf;obtain rfl:kV=.none:=Dflts.noKw hD;obtain⟨a,vs,ns,rfl,rfl,hobj,hints,hlen⟩:=zs1 hn hpre hwl;refine enter_call (jd (call w s₀ s₁ mg mb fa o pm cd doc a vs ns G Y ho (fd_plain hd) hcd hmg hobj hints hlen hg) fun r s' hq=>?_);obtain⟨rfl,h2,h3,h4⟩:=hq;exact⟨.inl ⟨.bool true,.bool true,[],rfl,fun _=>rfl,.bool true,zph l _,fun _=>⟨List.Pairwise.nil,fun _ hm=>(nomatch hm)⟩⟩,h2,h3,h4⟩
end Att
namespace L2
open PySem PySem.Spec PyProof.Rows
theorem zhz:∀{vs:List kB}{ns:List Int},Ua vs ns->Vals (ns.map V.int) vs
 |_,_,.nil=>.nil
 |_,_,.cons n t h=>.cons ⟨t,rfl⟩ (zhz h)
def za6(s:Stmt):jS:=match s with
 |.FunctionDef _ a _ _ _ _ _ _ _ _=>a
 |_=>{posonlyargs:=[],args:=[],vararg:=none,kwonlyargs:=[],kw_defaults:=[],kwarg:=none,defaults:=[]}
def za5(s:Stmt):List Stmt:=match s with
 |.FunctionDef _ _ b _ _ _ _ _ _ _=>b
 |_=>[]
def za0(s:Stmt):Scope:=match s with
 |.FunctionDef _ _ _ _ _ _ sc _ _ _=>sc
 |_=>{kind:=.function,names:=[],isGenerator:=false,isCoroutine:=false}
abbrev CX0:CXT:=fun _ _ _ _ _ _=>False
abbrev E0:XK:=fun _ _ _=>False
theorem pass0{X:Cx}:Passes CX0 X E0:=fun _ _ _ _ _ _ _ h=>h.elim
structure Fun(K:kJ)(x qual:Str)(st:Stmt)(f:Addr)(fd:UU):Prop where
 ex:∃(oc:kB)(od:Option Addr)(kV doc pm:kB)(an:Option Addr)(cdv ct:kB)(osl:Array (Option kB)),
  fd=kE x qual (za6 st) (za5 st) (za0 st) .none kV doc pm an cdv ct/\K.lookup f=some ⟨oc,od,.func fd,osl⟩/\kU K cdv qual=true
 kp:kW K (.ref f)=true
section
variable{P:ko}{w:pN}{K:kJ}{mg:Str->Option kB}{base:Heap}
theorem Fun.ok{x qual:Str}{st:Stmt}{f:Addr}{fd:UU}{N ps:List Str}{k:Nat}{sp:Sp}(F:Fun K x qual st f fd)(S:zab N ps (za0 st))(len:∀vs H Q E,sp vs H Q E->vs.length=ps.length)
  (hbody:∀(cdv:kB)(A:pO)(outer:List Env)(s:kC)(H:Hp)(vs:List V)(Q:VK)(E:XK),Room k (A.deeper (Uf qual (za0 st) s.heap.objs.size f cdv))->sp vs H Q E->
   ∃t,PSs (cxOf CX0 P w K mg base N qual (za0 st) f cdv A outer s H E).nox (za5 st) t/\t {nx:=fun _ H'=>Q .non H',rt:=Q} (start N vs) H):FnOk P w K mg base CX0 (k+1) f fd ps sp:=by
 obtain⟨oc,od,kV,doc,pm,an,cdv,ct,osl,rfl,lk,hcd⟩:=F.ex;refine fn_of lk hcd S len fun A outer s H vs Q E hr hsp=>?_;obtain⟨t,h,q⟩:=hbody cdv A outer s H vs Q E hr hsp;exact⟨t,h.nox,q⟩
theorem Fun.binds{x qual:Str}{st:Stmt}{f:Addr}{fd:UU}{ps:List Str}(F:Fun K x qual st f fd)
  (h:∀(kV doc pm:kB)(an:Option Addr)(cdv ct:kB)(us:List kB),us.length=ps.length->gq (kE x qual (za6 st) (za5 st) (za0 st) .none kV doc pm an cdv ct) ⟨us,[]⟩=pure (ps.zip us)):Binds K fd ps []:=by
 obtain⟨oc,od,kV,doc,pm,an,cdv,ct,osl,rfl,lk,hcd⟩:=F.ex;exact .all (h kV doc pm an cdv ct)
theorem zai{x qual:Str}{st:Stmt}{f:Addr}{oc:kB}{od an:Option Addr}{osl:Array (Option kB)}{kV doc pm cdv ct:kB}(l:K.lookup f=some ⟨oc,od,.func (kE x qual (za6 st) (za5 st) (za0 st) .none kV doc pm an cdv ct),osl⟩)
  (c:kU K cdv qual=true)(k:kW K (.ref f)=true):Fun K x qual st f (kE x qual (za6 st) (za5 st) (za0 st) .none kV doc pm an cdv ct):=⟨⟨oc,od,kV,doc,pm,an,cdv,ct,osl,rfl,l,c⟩,k⟩
end
theorem zfs{A:pO}{k:Nat}(hr:Room k A):A.units+1<cLine:=uq (Nat.add_le_add_left (by decide:1<=64) _) hr.units
theorem small1000{n:Nat}(h:n<=1000):n<sizeLine:=uq h (by decide)
section
variable{X:Cx}
theorem pv(i:Nat){x:Str}{pos:Pos}(hN:X.N[i]?=some x:=by rfl)(hv:Vis X.env.scope x:=by first|exact km rfl|exact vM (km rfl)|exact vM (vM rfl))(hd:(x==("__debug__":Str))=false:=by decide)
  (hcd:(x==("__classdict__":Str))=false:=by decide):PE X (.Name x pos) (tVar i):=pe_var hN hv hd hcd
end
theorem iteF{A B:Prop}(h:B):if false=true then A else B:=by
 rw[if_neg pI];exact h
theorem iteT{A B:Prop}(h:A):if true=true then A else B:=by
 rw[if_pos rfl];exact h
theorem ite2{c A B:Prop}[Decidable c](h1:c->A)(h2:¬c->B):if c then A else B:=by
 by_cases h:c
 ·rw[if_pos h];exact h1 h
 ·rw[if_neg h];exact h2 h
def Same(H H':Hp):Prop:=∀b o,H b=some o->H' b=some o
theorem Same.refl(H:Hp):Same H H:=fun _ _ h=>h
theorem Same.trans{H H1 H2:Hp}(a:Same H H1)(b:Same H1 H2):Same H H2:=fun c o h=>b c o (a c o h)
theorem Same.free{H H':Hp}(e:Same H H'){l:Addr}(h:H' l=Eg):H l=Eg:=by
 cases q:H l with
 |none=>rfl
 |some o=>
  rw[e l o q] at h
  cases h
theorem Same.seq{K:kJ}{H H':Hp}{a:Addr}{xs:List V}(e:Same H H')(h:SqL K H a xs):SqL K H' a xs:=by
 rcases h with(h|⟨o,h⟩)|h
 ·exact .inl (.inl (e _ _ h))
 ·exact .inl (.inr ⟨o,e _ _ h⟩)
 ·exact .inr h
section
variable{X:Cx}
def CBig(i j:Int):Prop:=i.natAbs<2^1000000/\j.natAbs<2^1000000
theorem CBig.ok{i j:Int}(h:CBig i j):IntMulOk i j:=
 PySem.IntMulOk.of_le (Bj.mpr h.1) (Bj.mpr h.2) (by decide)
theorem zaa:OpR X (vU .Mult) (rI CBig fun i j=>.int (i*j)):=opI fun _ _ _ _ _ _ _ hc q=>mul_int q hc.ok
def CDivB(_i j:Int):Prop:=j≠0/\j.natAbs<2^8999
theorem zdj:OpR X (vU .FloorDiv) (rI CDivB fun i j=>.int (i.fdiv j)):=opI fun _ j _ _ _ _ _ hc q=>by
 refine floordiv_int hc.1 q (.inl (PyProof.noPylong_of_log2 ?_));have h0:j.natAbs≠0:=by have:=hc.1;omega
 have:=(Nat.log2_lt h0).mpr hc.2;omega
theorem bt_abs:uQ "abs"=some (.builtin "abs"):=by decide+kernel
theorem zfh:uQ "len"=some (.builtin "len"):=by decide+kernel
theorem zd3:uQ "isinstance"=some (.builtin "isinstance"):=by decide+kernel
theorem zrl:uQ "int"=some (.type "int"):=by decide+kernel
theorem zll:uQ "bool"=some (.type "bool"):=by decide+kernel
theorem bt_tuple:uQ "tuple"=some (.type "tuple"):=by decide+kernel
theorem zez:uQ "list"=some (.type "list"):=by decide+kernel
def dictO(a:Addr):HO:=.ext fun h=>∃o,h.get? a=some o/\o.cls=.type "dict"
def tyN(K:kJ)(H:Hp)(x:V)(T:String):Prop:=match x with
 |.non=>T="NoneType"
 |.bl _=>T="bool"
 |.int _=>T="int"
 |.str _=>T="str"
 |.ref p=>(T="list"/\∃xs,SqL K H p xs)∨(T="tuple"/\∃xs,SqT K H p xs)∨(T="dict"/\H p=some (dictO p))
 |_=>False
theorem tyN_is{pins:List (Addr×Obj)}{σ:St}{H:Hp}{s:kC}{T:String}{x:V}{v:kB}(I:Inv X pins σ H s)(r:RelV x v)(ty:tyN X.K H x T):s.TypeIs v T:=by
 cases x with
 |non=>cases r;cases(show T="NoneType" from ty);rfl
 |bl b=>cases r;cases(show T="bool" from ty);rfl
 |int i=>obtain⟨t,rfl⟩:=r;cases(show T="int" from ty);exact typeIs_int s i t
 |str z=>obtain⟨t,rfl⟩:=r;cases(show T="str" from ty);exact typeIs_str s z t
 |ref p=>
  cases r;rcases ty with⟨rfl,xs,hq⟩|⟨rfl,xs,hq⟩|⟨rfl,hq⟩
  ·obtain⟨its,_,pl,_⟩:=I.list hq;exact pl.isList.typeIs
  ·obtain⟨its,_,⟨o,e,c,_⟩,_⟩:=I.tuple hq;exact⟨o,e,c⟩
  ·obtain⟨⟨o,e,c⟩,_⟩:=I.hok p _ hq;exact⟨o,e,c⟩
 |_=>exact uz ty
theorem zfl{pins:List (Addr×Obj)}{σ:St}{H:Hp}{s:kC}{Tx T:String}{b:Bool}{x:V}{v:kB}{Q:VK}(hne:b=false->(Us Tx==Us T)=false)
  (hty:DI (.type T)=pure (.type "type"))(hsub:hU (.type Tx) (.type T)=pure b)(I:Inv X pins σ H s)(r:RelV x v)(ht:tyN X.K H x Tx)(q:Q (.bl b) H):
  wpAny (model X.prog X.w) X.A (call (.builtin "isinstance") [v,.type T]) (EP X pins σ Q) X.xe s:=by
 cases b with
 |true=>exact call_isinstance_yes (tyN_is I r ht) hty hsub ⟨.bl true,H,I,rfl,q⟩
 |false=>
  have hq:EP X pins σ Q (.bool false) {s with toks:=s.toks+1}:=⟨.bl false,H,I.tok _,rfl,q⟩
  cases x with
  |non=>cases r;cases(show Tx="NoneType" from ht);exact Ug (isinstance_false_none (hne rfl) hty hsub) hq
  |bl b=>cases r;cases(show Tx="bool" from ht);exact Ug (isinstance_false_bool (hne rfl) hty hsub) hq
  |int i=>obtain⟨t,rfl⟩:=r;cases(show Tx="int" from ht);exact Ug (isinstance_false_int (hne rfl) hty hsub) hq
  |str z=>obtain⟨t,rfl⟩:=r;cases(show Tx="str" from ht);exact Ug (isinstance_false_str (hne rfl) hty hsub) hq
  |ref p=>
   have ty:=tyN_is I r ht
   cases r;rcases ht with⟨rfl,xs,hs⟩|⟨rfl,xs,hs⟩|⟨rfl,hs⟩
   ·exact Ug (isinstance_false_list (hne rfl) hty hsub) ⟨ty,hq⟩
   ·exact Ug (isinstance_false_tuple (hne rfl) hty hsub) ⟨ty,hq⟩
   ·exact Ug (isinstance_false_dict (hne rfl) hty hsub) ⟨ty,hq⟩
  |_=>exact uz ht
def isiB(Tx T:String):Bool:=(Tx==T)||(Tx=="bool"&&T=="int")
theorem meta_int:DI (.type "int")=pure (.type "type"):=by kernel_rfl
theorem zqn:DI (.type "bool")=pure (.type "type"):=by kernel_rfl
theorem znu:DI (.type "tuple")=pure (.type "type"):=by kernel_rfl
theorem tyN_in{K:kJ}{H:Hp}{x:V}{T:String}(h:tyN K H x T):T="NoneType"∨T="bool"∨T="int"∨T="str"∨T="list"∨T="tuple"∨T="dict":=by
 cases x with
 |non=>exact .inl h
 |bl b=>exact .inr (.inl h)
 |int i=>exact .inr (.inr (.inl h))
 |str z=>exact .inr (.inr (.inr (.inl h)))
 |ref p=>
  rcases h with⟨h,_⟩|⟨h,_⟩|⟨h,_⟩
  ·exact .inr (.inr (.inr (.inr (.inl h))))
  ·exact .inr (.inr (.inr (.inr (.inr (.inl h)))))
  ·exact .inr (.inr (.inr (.inr (.inr (.inr h)))))
 |_=>exact uz h
def rIsi(K:kJ)(T:String):List V->Hp->VK->Prop:=fun xs H Q=>∃x Tx,xs=[x,.ty T]/\tyN K H x Tx/\Q (.bl (isiB Tx T)) H
theorem isi_T{T:String}(hty:DI (.type T)=pure (.type "type"))(h1:hU (.type "NoneType") (.type T)=pure (isiB "NoneType" T))(h2:hU (.type "bool") (.type T)=pure (isiB "bool" T))(h3:hU (.type "int") (.type T)=pure (isiB "int" T))
  (h4:hU (.type "str") (.type T)=pure (isiB "str" T))(h5:hU (.type "list") (.type T)=pure (isiB "list" T))(h6:hU (.type "tuple") (.type T)=pure (isiB "tuple" T))(h7:hU (.type "dict") (.type T)=pure (isiB "dict" T))
  (hn:∀Tx∈["NoneType","bool","int","str","list","tuple","dict"],isiB Tx T=false->(Us Tx==Us T)=false):zdk X (.builtin "isinstance") (rIsi X.K T):=by
 intro pins s σ H xs us Q I r h;obtain⟨x,Tx,rfl,ht,q⟩:=h;obtain⟨u,w',rfl,ru,rw'⟩:=vals2 r
 cases rw';rcases tyN_in ht with rfl|rfl|rfl|rfl|rfl|rfl|rfl
 ·exact zfl (hn _ (by simp)) hty h1 I ru ht q
 ·exact zfl (hn _ (by simp)) hty h2 I ru ht q
 ·exact zfl (hn _ (by simp)) hty h3 I ru ht q
 ·exact zfl (hn _ (by simp)) hty h4 I ru ht q
 ·exact zfl (hn _ (by simp)) hty h5 I ru ht q
 ·exact zfl (hn _ (by simp)) hty h6 I ru ht q
 ·exact zfl (hn _ (by simp)) hty h7 I ru ht q
theorem zkb:zdk X (.builtin "isinstance") (rIsi X.K "int"):=isi_T meta_int (by rw[pZ];kernel_rfl) (by rw[pZ];kernel_rfl) (by rw[pZ];kernel_rfl) (by rw[pZ];kernel_rfl) (by rw[pZ];kernel_rfl) (by rw[pZ];kernel_rfl) (by rw[pZ];kernel_rfl) (by decide+kernel)
theorem zee:zdk X (.builtin "isinstance") (rIsi X.K "bool"):=isi_T zqn (by rw[pZ];kernel_rfl) (by rw[pZ];kernel_rfl) (by rw[pZ];kernel_rfl) (by rw[pZ];kernel_rfl) (by rw[pZ];kernel_rfl) (by rw[pZ];kernel_rfl) (by rw[pZ];kernel_rfl) (by decide+kernel)
theorem zic:zdk X (.builtin "isinstance") (rIsi X.K "tuple"):=isi_T znu (by rw[pZ];kernel_rfl) (by rw[pZ];kernel_rfl) (by rw[pZ];kernel_rfl) (by rw[pZ];kernel_rfl) (by rw[pZ];kernel_rfl) (by rw[pZ];kernel_rfl) (by rw[pZ];kernel_rfl) (by decide+kernel)
end
theorem cx_K{CX:CXT}{P:ko}{w:pN}{K:kJ}{mg:Str->Option kB}{base:Heap}{N:List Str}{qual:Str}{scope:Scope}{f:Addr}{cd:kB}{A:pO}{outer:List Env}{s:kC}{H:Hp}{E:XK}:
  (cxOf CX P w K mg base N qual scope f cd A outer s H E).K=K:=rfl
theorem tyN_non{K:kJ}{H:Hp}{T:String}:tyN K H .non T=(T="NoneType"):=rfl
theorem tyN_bl{K:kJ}{H:Hp}{T:String}{b:Bool}:tyN K H (.bl b) T=(T="bool"):=rfl
theorem tyN_int{K:kJ}{H:Hp}{T:String}{i:Int}:tyN K H (.int i) T=(T="int"):=rfl
theorem tyN_str{K:kJ}{H:Hp}{T:String}{x:Str}:tyN K H (.str x) T=(T="str"):=rfl
theorem isi_ii:isiB "int" "int"=true:=by decide+kernel
theorem isi_ib:isiB "int" "bool"=false:=by decide+kernel
theorem zoy:isiB "int" "tuple"=false:=by decide+kernel
theorem zqy:isiB "int" "list"=false:=by decide+kernel
theorem zsr:isiB "bool" "int"=true:=by decide+kernel
theorem zsa:isiB "bool" "bool"=true:=by decide+kernel
theorem zrd:isiB "NoneType" "int"=false:=by decide+kernel
theorem zoz:isiB "str" "int"=false:=by decide+kernel
theorem zri:isiB "tuple" "int"=false:=by decide+kernel
theorem zr5:isiB "list" "int"=false:=by decide+kernel
theorem zpu:isiB "dict" "int"=false:=by decide+kernel
theorem isi_tt:isiB "tuple" "tuple"=true:=by decide+kernel
theorem zov:isiB "list" "list"=true:=by decide+kernel
theorem scal_ii{i j:Int}:scal (.int i) (.int j)=true:=rfl
theorem scal_bb{i j:Bool}:scal (.bl i) (.bl j)=true:=rfl
theorem za4{H:Hp}{p:Addr}(h:H p=none)(o:HO):Same H (upd H p o):=fun b u q=>by rw[za8 (za7 q h)];exact q
theorem cbig{i j:Int}{m n:Nat}(h1:i.natAbs<2^m)(h2:j.natAbs<2^n)(hm:m<=1000000:=by decide)(hn:n<=1000000:=by decide):CBig i j:=
 ⟨ku h1 (Um (by decide) hm),ku h2 (Um (by decide) hn)⟩
theorem cdivb{i j:Int}{n:Nat}(h0:j≠0)(h:j.natAbs<2^n)(hn:n<=8999:=by decide):CDivB i j:=⟨h0,ku h (Um (by decide) hn)⟩
def getI(σ:St)(i:Nat):Int:=match σ[i]? with
 |some (some (.int x))=>x
 |_=>0
theorem sz0:(0<=sizeLine)=True:=eq_true (by decide)
theorem sz1:(1<=sizeLine)=True:=eq_true (by decide)
theorem sz2:(2<=sizeLine)=True:=eq_true (by decide)
theorem sz3:(3<=sizeLine)=True:=eq_true (by decide)
theorem sz4:(4<=sizeLine)=True:=eq_true (by decide)
def NS(e:Expr):Prop:=∀es env,uF (e::es) env=(false,eval e env)::uF es env
theorem za9{a b c}:NS (Expr.Constant a b c):=fun _ _=>rfl
theorem za1{a b}:NS (Expr.Name a b):=fun _ _=>rfl
theorem zar{a b c d}:NS (Expr.Call a b c d):=fun _ _=>rfl
theorem zam{a b c d}:NS (Expr.BinOp a b c d):=fun _ _=>rfl
theorem ns_Tuple{a b c}:NS (Expr.Tuple a b c):=fun _ _=>rfl
theorem za3{a b c}:NS (Expr.Subscript a b c):=fun _ _=>rfl
theorem zbc{a b c d}:NS (Expr.Compare a b c d):=fun _ _=>rfl
theorem zcj{a b c d}:NS (Expr.ListComp a b c d):=fun _ _=>rfl
section
variable{X:Cx}
theorem pa1{e1:Expr}{t1:TE}(h1:PE X e1 t1)(n1:NS e1):PA X [e1] (zbt t1 tNil):=(zaq h1 zds (n1 _ _))
theorem pa2{e1 e2:Expr}{t1 t2:TE}(h1:PE X e1 t1)(n1:NS e1)(h2:PE X e2 t2)(n2:NS e2):PA X [e1,e2] (zbt t1 (zbt t2 tNil)):=(zaq h1 (zaq h2 zds (n2 _ _)) (n1 _ _))
theorem pa3{e1 e2 e3:Expr}{t1 t2 t3:TE}(h1:PE X e1 t1)(n1:NS e1)(h2:PE X e2 t2)(n2:NS e2)(h3:PE X e3 t3)(n3:NS e3):PA X [e1,e2,e3] (zbt t1 (zbt t2 (zbt t3 tNil))):=(zaq h1 (zaq h2 (zaq h3 zds (n3 _ _)) (n2 _ _)) (n1 _ _))
theorem pa4{e1 e2 e3 e4:Expr}{t1 t2 t3 t4:TE}(h1:PE X e1 t1)(n1:NS e1)(h2:PE X e2 t2)(n2:NS e2)(h3:PE X e3 t3)(n3:NS e3)(h4:PE X e4 t4)(n4:NS e4):PA X [e1,e2,e3,e4] (zbt t1 (zbt t2 (zbt t3 (zbt t4 tNil)))):=(zaq h1 (zaq h2 (zaq h3 (zaq h4 zds (n4 _ _)) (n3 _ _)) (n2 _ _)) (n1 _ _))
theorem pa5{e1 e2 e3 e4 e5:Expr}{t1 t2 t3 t4 t5:TE}(h1:PE X e1 t1)(n1:NS e1)(h2:PE X e2 t2)(n2:NS e2)(h3:PE X e3 t3)(n3:NS e3)(h4:PE X e4 t4)(n4:NS e4)(h5:PE X e5 t5)(n5:NS e5):PA X [e1,e2,e3,e4,e5] (zbt t1 (zbt t2 (zbt t3 (zbt t4 (zbt t5 tNil))))):=(zaq h1 (zaq h2 (zaq h3 (zaq h4 (zaq h5 zds (n5 _ _)) (n4 _ _)) (n3 _ _)) (n2 _ _)) (n1 _ _))
theorem pa6{e1 e2 e3 e4 e5 e6:Expr}{t1 t2 t3 t4 t5 t6:TE}(h1:PE X e1 t1)(n1:NS e1)(h2:PE X e2 t2)(n2:NS e2)(h3:PE X e3 t3)(n3:NS e3)(h4:PE X e4 t4)(n4:NS e4)(h5:PE X e5 t5)(n5:NS e5)(h6:PE X e6 t6)(n6:NS e6):PA X [e1,e2,e3,e4,e5,e6] (zbt t1 (zbt t2 (zbt t3 (zbt t4 (zbt t5 (zbt t6 tNil)))))):=(zaq h1 (zaq h2 (zaq h3 (zaq h4 (zaq h5 (zaq h6 zds (n6 _ _)) (n5 _ _)) (n4 _ _)) (n3 _ _)) (n2 _ _)) (n1 _ _))
theorem pa8{e1 e2 e3 e4 e5 e6 e7 e8:Expr}{t1 t2 t3 t4 t5 t6 t7 t8:TE}(h1:PE X e1 t1)(n1:NS e1)(h2:PE X e2 t2)(n2:NS e2)(h3:PE X e3 t3)(n3:NS e3)(h4:PE X e4 t4)(n4:NS e4)(h5:PE X e5 t5)(n5:NS e5)(h6:PE X e6 t6)(n6:NS e6)(h7:PE X e7 t7)(n7:NS e7)(h8:PE X e8 t8)(n8:NS e8):PA X [e1,e2,e3,e4,e5,e6,e7,e8] (zbt t1 (zbt t2 (zbt t3 (zbt t4 (zbt t5 (zbt t6 (zbt t7 (zbt t8 tNil)))))))):=(zaq h1 (zaq h2 (zaq h3 (zaq h4 (zaq h5 (zaq h6 (zaq h7 (zaq h8 zds (n8 _ _)) (n7 _ _)) (n6 _ _)) (n5 _ _)) (n4 _ _)) (n3 _ _)) (n2 _ _)) (n1 _ _))
theorem pss2{e1 e2:Stmt}{t1 t2:TS}(h1:PS X e1 t1)(h2:PS X e2 t2):PSs X [e1,e2] (tSeq t1 t2):=(zad h1 (zac h2))
theorem pss3{e1 e2 e3:Stmt}{t1 t2 t3:TS}(h1:PS X e1 t1)(h2:PS X e2 t2)(h3:PS X e3 t3):PSs X [e1,e2,e3] (tSeq t1 (tSeq t2 t3)):=(zad h1 (zad h2 (zac h3)))
theorem pss4{e1 e2 e3 e4:Stmt}{t1 t2 t3 t4:TS}(h1:PS X e1 t1)(h2:PS X e2 t2)(h3:PS X e3 t3)(h4:PS X e4 t4):PSs X [e1,e2,e3,e4] (tSeq t1 (tSeq t2 (tSeq t3 t4))):=(zad h1 (zad h2 (zad h3 (zac h4))))
theorem pss5{e1 e2 e3 e4 e5:Stmt}{t1 t2 t3 t4 t5:TS}(h1:PS X e1 t1)(h2:PS X e2 t2)(h3:PS X e3 t3)(h4:PS X e4 t4)(h5:PS X e5 t5):PSs X [e1,e2,e3,e4,e5] (tSeq t1 (tSeq t2 (tSeq t3 (tSeq t4 t5)))):=(zad h1 (zad h2 (zad h3 (zad h4 (zac h5)))))
theorem pss6{e1 e2 e3 e4 e5 e6:Stmt}{t1 t2 t3 t4 t5 t6:TS}(h1:PS X e1 t1)(h2:PS X e2 t2)(h3:PS X e3 t3)(h4:PS X e4 t4)(h5:PS X e5 t5)(h6:PS X e6 t6):PSs X [e1,e2,e3,e4,e5,e6] (tSeq t1 (tSeq t2 (tSeq t3 (tSeq t4 (tSeq t5 t6))))):=(zad h1 (zad h2 (zad h3 (zad h4 (zad h5 (zac h6))))))
theorem pss7{e1 e2 e3 e4 e5 e6 e7:Stmt}{t1 t2 t3 t4 t5 t6 t7:TS}(h1:PS X e1 t1)(h2:PS X e2 t2)(h3:PS X e3 t3)(h4:PS X e4 t4)(h5:PS X e5 t5)(h6:PS X e6 t6)(h7:PS X e7 t7):PSs X [e1,e2,e3,e4,e5,e6,e7] (tSeq t1 (tSeq t2 (tSeq t3 (tSeq t4 (tSeq t5 (tSeq t6 t7)))))):=(zad h1 (zad h2 (zad h3 (zad h4 (zad h5 (zad h6 (zac h7)))))))
theorem pss8{e1 e2 e3 e4 e5 e6 e7 e8:Stmt}{t1 t2 t3 t4 t5 t6 t7 t8:TS}(h1:PS X e1 t1)(h2:PS X e2 t2)(h3:PS X e3 t3)(h4:PS X e4 t4)(h5:PS X e5 t5)(h6:PS X e6 t6)(h7:PS X e7 t7)(h8:PS X e8 t8):PSs X [e1,e2,e3,e4,e5,e6,e7,e8] (tSeq t1 (tSeq t2 (tSeq t3 (tSeq t4 (tSeq t5 (tSeq t6 (tSeq t7 t8))))))):=(zad h1 (zad h2 (zad h3 (zad h4 (zad h5 (zad h6 (zad h7 (zac h8))))))))
theorem pss9{e1 e2 e3 e4 e5 e6 e7 e8 e9:Stmt}{t1 t2 t3 t4 t5 t6 t7 t8 t9:TS}(h1:PS X e1 t1)(h2:PS X e2 t2)(h3:PS X e3 t3)(h4:PS X e4 t4)(h5:PS X e5 t5)(h6:PS X e6 t6)(h7:PS X e7 t7)(h8:PS X e8 t8)(h9:PS X e9 t9):PSs X [e1,e2,e3,e4,e5,e6,e7,e8,e9] (tSeq t1 (tSeq t2 (tSeq t3 (tSeq t4 (tSeq t5 (tSeq t6 (tSeq t7 (tSeq t8 t9)))))))):=(zad h1 (zad h2 (zad h3 (zad h4 (zad h5 (zad h6 (zad h7 (zad h8 (zac h9)))))))))
end
section
variable{X:Cx}{pins:List (Addr×Obj)}{σ:St}{H:Hp}{s:kC}{h':Heap}
theorem Inv.turnedNew{t':Nat}{ch:List Addr}{T:Addr}{xs:List V}(I:Inv X pins σ H s)(hf:∀b∈ch,FpOk X pins H b)(k:∀b o,b∉ch->s.heap.get? b=some o->h'.get? b=some o)
  (hT:s.heap.objs.size<=T)(new:zd9 X.prog X.w (upd H T (.tup xs)) h' T (.tup xs)):Inv X pins σ (upd H T (.tup xs)) {s with heap:=h',toks:=t'}:=by
 have hn:H T=none:=I.hok.fresh hT;have nit:∀b u,H b=some u->b∉ch:=fun b u e z=>by rw[(hf b z).1] at e;cases e
 refine I.step (g':=s.gens) (d':=s.drawn) (ch:=ch) (fun b hb=>?_) (fun b o _ _ hc e _=>k b o hc e) (fun b o _ _ hc e _=>⟨o.slots,k b o hc e⟩) (fun b o _ e n=>?_)
  (fun b o hc e=>⟨o,k b o hc e⟩) (fun b ys e=>?_) (fun b o u e=>?_) (fun b ps e=>⟨#[],?_⟩) (fun m hm=>?_) (fun b u e=>?_) I.bare
 ·obtain⟨_,f1,_,f3,f4,f5⟩:=hf b hb;exact⟨f3,f1,f4,f5⟩
 ·rw[za8 (pL (ku (ki e) hT))];exact n
 ·rw[za8 (za7 e hn)];exact e
 ·rw[za8 (za7 e hn)];exact e
 ·rw[za8 (za7 e hn),e];simp
 ·obtain⟨o,es,ep,ho,r⟩:=hm;exact⟨o,es,ep,k _ o (fun z=>(hf _ z).2.1 rfl) ho,r⟩
 ·by_cases hb:b=T
  ·subst hb;rw[upd_same] at e;cases e;exact new
  ·rw[za8 hb] at e;refine(I.hok b u e).stay (fun c v hc q=>k c v ?_ q) (fun c q=>by rw[za8 (za7 q hn)];exact q) fun c ys q=>by rw[za8 (za7 q hn)];exact q
   rcases hc with z|z
   ·rw[z];exact nit b u e
   ·exact nit c _ z
theorem Inv.turnedL{t':Nat}{ch:List Addr}(I:Inv X pins σ H s)(hf:∀b∈ch,FpOk X pins H b)(k:∀b o,b∉ch->s.heap.get? b=some o->h'.get? b=some o):Inv X pins σ H {s with heap:=h',toks:=t'}:=by
 have nit:∀b u,H b=some u->b∉ch:=fun b u e z=>by rw[(hf b z).1] at e;cases e
 refine I.step (g':=s.gens) (d':=s.drawn) (ch:=ch) (fun b hb=>?_) (fun b o _ _ hc e _=>k b o hc e) (fun b o _ _ hc e _=>⟨o.slots,k b o hc e⟩) (fun _ _ _ _ n=>n)
  (fun b o hc e=>⟨o,k b o hc e⟩) (fun _ _ e=>e) (fun _ _ _ e=>e) (fun b ps e=>⟨#[],by rw[e];simp⟩) (fun m hm=>?_) (fun b u e=>?_) I.bare
 ·obtain⟨_,f1,_,f3,f4,f5⟩:=hf b hb;exact⟨f3,f1,f4,f5⟩
 ·obtain⟨o,es,ep,ho,r⟩:=hm;exact⟨o,es,ep,k _ o (fun z=>(hf _ z).2.1 rfl) ho,r⟩
 ·refine(I.hok b u e).stay (fun c v hc q=>k c v ?_ q) (fun _ q=>q) fun _ _ q=>q;rcases hc with z|z
  ·rw[z];exact nit b u e
  ·exact nit c _ z
end
section
variable{X:Cx}
theorem bt_zip:uQ "zip"=some (.type "zip"):=by decide+kernel
end
theorem zhj{α β:Type}(g:α->β->β){f:α->β->Sem (ForInStep β)}:∀{l:List α}(c:β),(∀x∈l,∀c,f x c=pure (.yield (g x c)))->forIn l c f=pure (l.foldl (fun c x=>g x c) c)
 |[],c,_=>rfl
 |x::l,c,h=>by
  have hx:=h x pD c;rw[jI,hx,EQ];exact zhj g (g x c) fun y hy=>h y (pB _ hy)
def zdo(env:Env)(x:Str×gr)(c:List (Str×Addr)):List (Str×Addr):=
 if x.2==uR then(match env.cells.lookup x.1 with|some a=>(x.1,a)::c|none=>c) else c
theorem zgs{env:Env}:∀(l:List (Str×gr))(acc:List (Str×Addr)),(∀n c,acc.lookup n=some c->env.cells.lookup n=some c)->
  ∀n c,(l.foldl (fun c x=>zdo env x c) acc).lookup n=some c->env.cells.lookup n=some c
 |[],acc,h,n,c,e=>h n c e
 |x::l,acc,h,n,c,e=>by
  refine zgs l (zdo env x acc) (fun n c e=>?_) n c e;unfold zdo at e
  split at e
  ·split at e
   ·rename_i a ha
    rw[uH] at e
    split at e
    ·rename_i hb
     have hn:n=x.1:=by simpa using hb
     cases e;rw[hn];exact ha
    ·exact h n c e
   ·exact h n c e
  ·exact h n c e
theorem zgv{env:Env}:∀(l:List (Str×gr))(acc:List (Str×Addr))(n:Str),((∃c,acc.lookup n=some c)∨((n,uR)∈l/\∃c,env.cells.lookup n=some c))->
  ∃c,(l.foldl (fun c x=>zdo env x c) acc).lookup n=some c
 |[],acc,n,h=>by
  rcases h with h|⟨h,_⟩
  ·exact h
  ·cases h
 |x::l,acc,n,h=>by
  refine zgv l (zdo env x acc) n ?_;rcases h with⟨c,h⟩|⟨h,c,hc⟩
  ·left;unfold zdo
   split
   ·split
    ·rw[uH]
     split
     ·exact⟨_,rfl⟩
     ·exact⟨c,h⟩
    ·exact⟨c,h⟩
   ·exact⟨c,h⟩
  ·rcases kr.mp h with e|h
   ·left;subst e;unfold zdo;have ef:(uR==uR)=true:=rfl;have en:(n==n)=true:=by simp
    simp only[ef,if_true,hc,uH,en];exact⟨c,rfl⟩
   ·exact .inr ⟨h,c,hc⟩
theorem zoc{scope:Scope}{env:Env}(hf:∀n,(n,uR)∈scope.names->∃c,env.cells.lookup n=some c):
  ∃cl,BF scope env=pure cl/\(∀n c,cl.lookup n=some c->env.cells.lookup n=some c)/\∀n,(n,uR)∈scope.names->∃c,cl.lookup n=some c:=by
 refine⟨scope.names.foldl (fun c x=>zdo env x c) [],?_,zgs _ _ (fun n c e=>by simp at e),fun n h=>zgv _ _ n (.inr ⟨h,hf n h⟩)⟩
 simp only[BF];rw[zhj (zdo env) [] (fun x hx c=>?_)]
 ·rfl
 ·obtain⟨n,kind⟩:=x
  by_cases hk:kind=.free
  ·subst hk;obtain⟨a,ha⟩:=hf n hx;have ef:(uR==uR)=true:=rfl
   simp[cellOf,ha,zdo,ef]
  ·have e:(kind==uR)=false:=by simpa using hk
   simp[e,zdo]
theorem zdz(env:Env)(x:Str):∀names:List (Str×gr),
  (names.map fun(n,k)=>if(k==uR&&env.scope.kind==.function&&env.kindOf n==some .cell) then(n,CM) else(n,k)).lookup x=
  (names.lookup x).map fun k=>if(k==uR&&env.scope.kind==.function&&env.kindOf x==some .cell) then CM else k
 |[]=>rfl
 |(n,k)::r=>by
  have ih:=zdz env x r;rw[pC]
  by_cases e:x=n
  ·subst e;have ex:(x==x)=true:=by simp
   by_cases c:(k==uR&&env.scope.kind==.function&&env.kindOf x==some .cell)=true
   ·dsimp only;rw[if_pos c,uH,ex,uH,ex];exact congrArg some (if_pos c).symm
   ·dsimp only;rw[if_neg c,uH,ex,uH,ex];exact congrArg some (if_neg c).symm
  ·have e':(x==n)=false:=by simpa using e
   by_cases c:(k==uR&&env.scope.kind==.function&&env.kindOf n==some .cell)=true
   ·dsimp only;rw[if_pos c,uH,e',uH,e'];exact ih
   ·dsimp only;rw[if_neg c,uH,e',uH,e'];exact ih
structure ze8(dsc:Scope)(N:List Str)(scope:Scope)(own:List Str)(ix:List Nat):Prop where
 kind:scope.kind=.function
 nocell:∀y∈scope.names,y.2≠CM
 names:∀y∈scope.names,y.2=NameKind.local->scope.names.lookup y.1=some .local
 free:∀y∈scope.names,y.2=uR->dsc.names.lookup y.1=some .cell∨dsc.names.lookup y.1=some .free
 ix:∀i∈ix,i<N.length/\scope.names.lookup (N.getD i "")=some .free
def Cx.comp(X:Cx)(scope:Scope)(own:List Str)(ix:List Nat)(cl:List (Str×Addr))(C:Addr)(fp:List Addr)(s:kC)(H:Hp)(xe:kB->kC->Prop):Cx:=
 {X with N:=own++ix.map (fun i=>X.N.getD i ""),s₀:=s,H₀:=H,env:=gF scope cl C X.env,outer:=X.stack,ex:=fp,fn:=fun _=>false,pn:=[],xe:=xe}
theorem comp_K{X:Cx}{scope:Scope}{own:List Str}{ix:List Nat}{cl:List (Str×Addr)}{C:Addr}{fp:List Addr}{s:kC}{H:Hp}{xe:kB->kC->Prop}:(X.comp scope own ix cl C fp s H xe).K=X.K:=rfl
def selC(k:Nat)(ix:List Nat)(σ:St):St:=vj k none++ix.map (fun i=>(σ[i]?).join)
section
variable{X:Cx}{pins:List (Addr×Obj)}{σ:St}{H H4:Hp}{s s4:kC}{dsc scope:Scope}{own:List Str}{ix:List Nat}{cl:List (Str×Addr)}{C:Addr}{fp:List Addr}{xe:kB->kC->Prop}
theorem comp_fp(I:Inv X pins σ H s)(hf:∀b∈fp,FpOk X pins H b){b:Addr}(hb:b∈fp):b∉frs X.stack:=fun hs=>by
 obtain⟨_,f1,f2,_⟩:=hf b hb;rcases kr.mp (I.stkSub b hs) with e|e
 ·exact f1 e
 ·exact f2 e
theorem Inv.comp(I:Inv X pins σ H s)(hd:X.env.scope=dsc)(S:ze8 dsc X.N scope own ix)(cs:∀n c,cl.lookup n=some c->X.env.cells.lookup n=some c)(ch:∀n,(n,uR)∈scope.names->∃c,cl.lookup n=some c)
  (hf:∀b∈fp,FpOk X pins H b)(ho:∀b∈fp,∃o,s.heap.get? b=some o)(I4:Inv X pins σ H4 s4)(un:Un (frs X.stack) fp H H4 s.heap s4.heap)(hC:s.heap.objs.size<=C)(hn:∃m,s4.heap.Ns C m)(hC0:H4 C=none):
  Inv (X.comp scope own ix cl C fp s H xe) [] (selC own.length ix σ) H4 s4:=by
 have kfree:∀x,scope.names.lookup x=some .free->(gF scope cl C X.env).kindOf x=some .cell∨(gF scope cl C X.env).kindOf x=some .free:=fun x h=>by
  have e:(gF scope cl C X.env).kindOf x=_:=zdz X.env x scope.names;rw[e,h,uU]
  split
  ·exact .inl rfl
  ·exact .inr rfl
 have kback:∀x,((gF scope cl C X.env).kindOf x=some .cell∨(gF scope cl C X.env).kindOf x=some .free)->scope.names.lookup x=some .free:=fun x h=>by
  have e:(gF scope cl C X.env).kindOf x=_:=zdz X.env x scope.names;rw[e] at h
  cases q:scope.names.lookup x with
  |none=>rw[q] at h;rcases h with h|h<;>cases h
  |some k=>
   have nc:=S.nocell _ (uE q);rw[q,uU] at h
   cases k<;>first|rfl|exact absurd rfl nc|(rcases h with h|h<;>cases h)
 refine⟨⟨I.ok.mod,S.kind,I.ok.glob,I.ok.blt,hC,fun x y c h1 h2=>I.ok.inj x y c (cs x c h1) (cs y c h2),fun x hx=>ch x (uE (kback x hx)),fun x c h=>(nomatch h),I.ok.hd,I.ok.frames,.inl rfl,fun b hb=>⟨fun z=>?_,fun x c e=>(hf b hb).2.2.2.2.1 x c (cs x c e)⟩,
  I.bs,pP I.ok.bsz I.sz,fun b o e hb=>?_,fun b hb=>comp_fp I hf hb,I.stack,I.stkFree⟩,I4.os.trans I.os.symm,I4.bare,un,?_,fun x c e=>I4.cell x c (cs x c e),hC0,fun x c e=>I4.freeC x c (cs x c e),fun p hp=>(nomatch hp),I4.hok,?_⟩
 ·obtain⟨o,e⟩:=ho b hb;have z':b=C:=z;exact absurd (ku (ki e) (by rw[z'];exact hC)) (UD _)
 ·rcases(hf b hb).2.2.2.1 with z|z
  ·exact I.ok.noex b o e z
  ·exact absurd (ku (ki e) (pP I.ok.bsz z)) (UD _)
 ·obtain⟨m,hm⟩:=hn;refine⟨m,hm,fun i x v e1 e2 _=>?_⟩;have e1':(own++ix.map (fun i=>X.N.getD i ""))[i]?=some x:=e1;unfold selC at e2
  by_cases hi:i<own.length
  ·rw[pj (by rw[UZ];exact hi),Am,if_pos hi] at e2
   cases e2
  ·rw[pY (by rw[UZ];omega),UZ,kj] at e2
   rw[pY (by omega),kj] at e1'
   cases q:ix[i-own.length]? with
   |none=>rw[q] at e2;cases e2
   |some j=>
    rw[q] at e1' e2;rw[uU,Qa] at e1' e2;obtain⟨hj,hfr⟩:=S.ix j (kZ q);rw[e1'] at hfr;have eN:X.N[j]?=some x:=by
     rw[kK hj,←e1',kD,kK hj];rfl
    have es:σ[j]?=some (some v):=by
     cases w:σ[j]? with
     |none=>rw[w] at e2;cases e2
     |some o=>rw[w] at e2;exact congrArg some e2
    have kd:=S.free _ (uE hfr) rfl;rw[←hd] at kd;obtain⟨m4,hm4,hl⟩:=I4.loc;obtain⟨u,r,l⟩:=hl j x v eN es (.inr kd);refine⟨u,r,.inr ⟨kfree x hfr,?_⟩⟩;rcases l with⟨k,_⟩|⟨_,c,ec,cell⟩
    ·have k':X.env.scope.names.lookup x=some .local:=k;rcases kd with z|z<;>(rw[k'] at z;cases z)
    ·obtain⟨c',ec'⟩:=ch x (uE hfr);have z:=cs x c' ec';rw[ec] at z
     cases z;exact⟨c,ec',cell⟩
 ·show(selC own.length ix σ).length=(own++ix.map (fun i=>X.N.getD i "")).length
  unfold selC;rw[kO,kO,UZ,kP,kP]
theorem Inv.outOf{pins':List (Addr×Obj)}{σ':St}{H':Hp}{s':kC}(I:Inv X pins σ H s)(hf:∀b∈fp,FpOk X pins H b)(J:Inv (X.comp scope own ix cl C fp s H xe) pins' σ' H' s'):Inv X pins σ H' s':=
 I.call' J.os J.base J.hok J.bare fun b hb=>by
  obtain⟨_,f1,_,f3,f4,f5⟩:=hf b hb;exact⟨f3,f1,f4,f5⟩
end
abbrev zp7(ifs:List Expr)(env:Env):Sem Bool:=forIn ifs true fun c r=>if r=true then do let ok ←isTrue c env (eval c env);pure (Db ok) else pure (Db r)
def PIf(X:Cx)(ifs:List Expr)(t:TT):Prop:=
 ∀(pins:List (Addr×Obj))(s:kC)(σ:St)(H:Hp)(Q:Bool->Hp->Prop),Inv X pins σ H s->t σ H Q->wpAny (model X.prog X.w) X.A (zp7 ifs X.env) (TP X pins σ Q) X.xe s
def tYes:TT:=fun _ H Q=>Q true H
theorem zgi{X:Cx}:PIf X [] tYes:=fun _ _ _ H _ I h=>wpAny_tests_nil ⟨H,I,h⟩
theorem zgr{X:Cx}{c:Expr}{t:TT}(h:PT X c t):PIf X [c] t:=fun pins s σ H Q I q=>wpAny_tests_one (h pins s σ H Q I q)
section
variable{prog:ko}{w:pN}{A:pO}{R:Ds->kC->Prop}{s:kC}
abbrev nb(prog:ko)(w:pN)(A:pO)(env:Env)(R:Ds->kC->Prop):kB->kC->Prop:=notedBy (model prog w) A env fun e s'=>R (.error e) s'
theorem zpt{elt target iter:Expr}{ifs:List Expr}{scope:Scope}{pos:Pos}{it acc:kB}{env:Env}(I:Nat->kC->Prop)
  (turn:∀n s,I n s->wpAny (model prog w) A (Ac it) (fun r s₁=>(r=none/\R (.ok .next) s₁)∨∃v,r=some v/\
   wpAny (model prog w) A (gM target it v) (fun _ s₂=>wpAny (model prog w) A (assign target env v) (fun _ s₃=>wpAny (model prog w) A (zp7 ifs env) (fun ok s₄=>
    if ok=true then wpAny (model prog w) A (eval elt env) (fun x s₅=>wpAny (model prog w) A (call (.builtin "list.append") [acc,x]) (fun _ s₆=>∃m,m<n/\I m s₆) (nb prog w A env R) s₅) (nb prog w A env R) s₄
    else ∃m,m<n/\I m s₄) (nb prog w A env R) s₃) (nb prog w A env R) s₂) (nb prog w A env R) s₁) (nb prog w A env R) s)
  (n:Nat) (h:I n s):jH (model prog w) A (.compLoop (.ListComp elt [⟨target,iter,ifs,0⟩] scope pos) 0 it acc env) R s:=by
 refine codeAny_loop rfl I (fun n s hI=>?_) n h;refine wpAny_noted ?_;have e:=compTurn_list elt target iter ifs scope pos it acc env;show wpAny (model prog w) A (compTurn (.ListComp elt [⟨target,iter,ifs,0⟩] scope pos) 0 it acc env) _ _ s;rw[e];refine kA (CK (kA (thn (turn n s hI) fun r s₁ h₁=>?_)));rcases h₁ with⟨rfl,h₁⟩|⟨v,rfl,h₁⟩
 ·exact kL h₁
 ·refine kA (thn h₁ fun _ s₂ h₂=>kA (thn h₂ fun _ s₃ h₃=>kA (thn h₃ fun ok s₄ h₄=>?_)))
  cases ok with
  |false=>exact kL ⟨rfl,h₄⟩
  |true=>
   refine kA (kA (thn h₄ fun x s₅ h₅=>kA (thn h₅ fun _ s₆ h₆=>?_)));exact kL (kL ⟨rfl,h₆⟩)
end
def zq6(k:Nat)(ix:List Nat)(wi:TI)(g:TG)(ti:TT)(te:TE):TE:=fun σ H Q=>wi σ H fun J H1=>∀D,H1 D=none->∃W:Nat->Nat->Hp->Prop,(∃m,W 0 m (upd H1 D (.lst [])))/\∀i m H2,W i m H2->
 (J.stop i H2/\Q (.ref D) H2)∨(J.go i H2/\∀x H3,J.yld i H2 x H3->g x (selC k ix σ) H3 fun σ4 H4=>ti σ4 H4 fun b H5=>if b=true then te σ4 H5 fun y H6=>∃ys,H6 D=some (.lst ys)/\ys.length<sizeLine/\∃m',m'<m/\W (i+1) m' (upd H6 D (.lst (ys++[y])))
  else ∃m',m'<m/\W (i+1) m' H5)
section
variable{X:Cx}{pins:List (Addr×Obj)}{σ:St}{H:Hp}{s:kC}{dsc scope:Scope}{own:List Str}{ix:List Nat}{elt tg iter:Expr}{ifs:List Expr}{pos:Pos}{wi:TI}{g:TG}{ti:TT}{te:TE}
def CompBody(X:Cx)(scope:Scope)(own:List Str)(ix:List Nat)(tg:Expr)(ifs:List Expr)(elt:Expr)(g:TG)(ti:TT)(te:TE):Prop:=
 ∀cl C fp s H xe,PG (X.comp scope own ix cl C fp s H xe) tg g/\PIf (X.comp scope own ix cl C fp s H xe) ifs ti/\PE (X.comp scope own ix cl C fp s H xe) elt te
theorem zne{use:Option (kB->Sem Unit)}{RQ:kB->kC->Prop}{Q:VK}{p0:Pos}(hc:X.calm=true)(hd:X.env.scope=dsc)(S:ze8 dsc X.N scope own ix)(hi:PI X tg iter wi)(hb:CompBody X scope own ix tg ifs elt g ti te)
  (hs:∀x,jc iter X.env x=pure x)(I:Inv X pins σ H s)(h:zq6 own.length ix wi g ti te σ H Q)
  (fin:∀D C H' s',Inv X pins σ H' s'->FpOk X pins H' C->(∃m,s'.heap.Ns C m)->Q (.ref D) H'->compPost (model X.prog X.w) X.A X.xe use RQ (.ref D) C (.ok .next) s'):
  wpAny (model X.prog X.w) X.A (comprehension (.ListComp elt [⟨tg,iter,ifs,0⟩] scope pos) scope X.env p0 (newList []) false (eval iter X.env) use) RQ X.xe s:=by
 obtain⟨cl,hcl,cs,ch⟩:=zoc (scope:=scope) (env:=X.env) fun n hn=>I.ok.has n (by
  have z:=S.free _ hn rfl;rw[←hd] at z;exact z)
 refine wpAny_comprehension_free rfl hs hcl S.kind S.names (thn (hi pins s σ H _ I h) fun v s1 h1=>thn h1 fun itv s2 h2=>?_);obtain⟨it,fp,tn,J,H2,e,I2,T,st2,f2,W⟩:=h2;subst e;have hD0:H2 s2.heap.objs.size=none:=I2.fresh;obtain⟨W,⟨m0,w0⟩,turn⟩:=W _ hD0;have I3:=I2.lnew (ys:=[]) (its:=[]) (t':=s2.toks) .nil (pG _);refine Uo (gG S.nocell (by intro y hy;cases hy) (fun h₁ hns₁ hsb₁=>?_) S.kind)
 dsimp only at hns₁ hsb₁⊢;generalize hH3:s2.heap.push {cls:=.type "list",dict:=none,data:=.seq ([]:List kB).toArray}=g3 at hns₁ hsb₁⊢;have hC:g3.objs.size=s2.heap.objs.size+1:=by rw[←hH3,Ux]
 have old3:∀b o,g3.get? b=some o->h₁.get? b=some o:=fun b o e=>hsb₁.extBut b o (pL (ki e)) (kI _ e);have old:∀b o,s2.heap.get? b=some o->h₁.get? b=some o:=fun b o e=>old3 b o (by rw[←hH3];exact kI _ e)
 have I4:Inv X pins σ (upd H2 s2.heap.objs.size (.lst [])) {s2 with heap:=h₁,toks:=s2.toks+0}:=I3.kept (t':=s2.toks+0) fun b o e=>old3 b o (by rw[←hH3];exact e)
 have fpo:∀b∈fp,∃o,s2.heap.get? b=some o:=fun b hb=>let⟨o,e,_⟩:=T.obj _ _ st2 b hb;⟨o,e⟩;have hC0:upd H2 s2.heap.objs.size (.lst []) g3.objs.size=none:=by
  rw[za8 (by rw[hC];exact Nat.succ_ne_self _)]
  exact I2.hok.fresh (by rw[hC];exact jU _)
 have hCs:s2.heap.objs.size<=g3.objs.size:=by rw[hC];exact jU _
 have into:∀{H':Hp}{s':kC}{xe:kB->kC->Prop},Inv X pins σ H' s'->Un (frs X.stack) fp H2 H' s2.heap s'.heap->(∃m,s'.heap.Ns g3.objs.size m)->H' g3.objs.size=none->Inv (X.comp scope own ix cl g3.objs.size fp s2 H2 xe) [] (selC own.length ix σ) H' s':=
  fun I' un hn h0=>I2.comp hd S cs ch f2 fpo I' un hCs hn h0
 have stat:∀{H':Hp}{xe:kB->kC->Prop}{σ':St}{s':kC},Inv (X.comp scope own ix cl g3.objs.size fp s2 H2 xe) [] σ' H' s'->(∀b∈fp,H' b=none)->∀b∈fp,FpOk (X.comp scope own ix cl g3.objs.size fp s2 H2 xe) [] H' b:=fun{H' xe σ' s'} K hn b hb=>
  ⟨hn b hb,(K.ok.exf b hb).1,K.ok.exfs b hb,.inl hb,(K.ok.exf b hb).2,fun p hp=>nomatch hp⟩
 have loop:∀s₃:kC,s₃={s2 with heap:=h₁,toks:=s2.toks+0}->
   jH (model X.prog X.w) X.A (.compLoop (.ListComp elt [⟨tg,iter,ifs,0⟩] scope pos) 0 (.ref it) (.ref s2.heap.objs.size) (gF scope cl g3.objs.size X.env)) (compPost (model X.prog X.w) X.A X.xe use RQ (.ref s2.heap.objs.size) g3.objs.size) s₃:=by
  rintro s₃ rfl;generalize hxe:nb X.prog X.w X.A (gF scope cl g3.objs.size X.env) (compPost (model X.prog X.w) X.A X.xe use RQ (.ref s2.heap.objs.size) g3.objs.size)=xe;obtain⟨hg,hif,hel⟩:=hb cl g3.objs.size fp s2 H2 xe;refine zpt (fun n s'=>∃i H',Inv (X.comp scope own ix cl g3.objs.size fp s2 H2 xe) [] (selC own.length ix σ) H' s'/\tn i s'.heap/\(∀b∈fp,H' b=none)/\W i n H') ?_ m0
   ⟨0,_,into I4 (Un.laid old (kM _) hD0) ⟨_,hns₁⟩ hC0,T.keep _ _ _ st2 fun b hb o e=>old b o e,fun b hb=>?_,w0⟩
  ·rintro n s3 ⟨i,H3,K3,st3,fr3,w3⟩;rw[hxe];rcases turn i n H3 w3 with⟨stop,qn⟩|⟨go,step⟩
   ·refine thn (T.done (X.comp scope own ix cl g3.objs.size fp s2 H2 xe) rfl rfl rfl hc i [] s3 _ H3 xe K3 (stat K3 fr3) st3 stop) fun r s4⟨hr,K4⟩=>.inl ⟨hr,?_⟩;obtain⟨m,hm,_⟩:=K4.loc;exact fin _ _ H3 s4 (I2.outOf f2 K4) (I2.fpOk hCs K4.free) ⟨m,hm⟩ qn
   ·refine thn (T.item (X.comp scope own ix cl g3.objs.size fp s2 H2 xe) rfl rfl rfl hc i [] s3 _ H3 xe K3 (stat K3 fr3) st3 go) fun r s4⟨u,hr,h4⟩=>.inr ⟨u,hr,?_⟩;refine thn h4 fun _ s5⟨x,H5,K5,r5,y5,st5,fr5⟩=>?_;have K5':=K5.pinned (stat K5 fr5) (T.obj _ _ st5);refine thn (hg _ s5 _ H5 x u _ K5' r5 (step x H5 y5)) fun _ s6⟨σ6,H6,K6,q6⟩=>?_;refine thn (hif _ s6 σ6 H6 _ K6 q6) fun b s7⟨H7,K7,q7⟩=>?_;have again:∀{σ8:St}{H8:Hp}{s8:kC},Inv (X.comp scope own ix cl g3.objs.size fp s2 H2 xe) ([]++zk9 fp s5.heap) σ8 H8 s8->(∃m',m'<n/\W (i+1) m' H8)->∃m,m<n/\∃i H',Inv (X.comp scope own ix cl g3.objs.size fp s2 H2 xe) [] (selC own.length ix σ) H' s8/\tn i s8.heap/\(∀b∈fp,H' b=none)/\W i m H':=fun{σ8 H8 s8} K8⟨m',hm,w8⟩=>by
     obtain⟨m,hm8,_⟩:=K8.loc;refine⟨m',hm,i+1,H8,into (I2.outOf f2 K8) K8.base ⟨m,hm8⟩ K8.free,T.keep _ _ _ st5 fun b hb o e=>(K8.pin (b,o) (kN _ (kN _ (zfd hb e)))).1,fun b hb=>?_,w8⟩;obtain⟨o,e,d⟩:=T.obj _ _ st5 b hb;exact(K8.pin (b,o) (kN _ (kN _ (zfd hb e)))).2.1
    cases b with
    |false=>exact again K7 q7
    |true=>
     refine thn (hel _ s7 σ6 H7 _ K7 q7) fun v s8⟨y,H8,K8,r8,ys,e8,z8,q8⟩=>?_;refine thn (ze7 (X:=X.comp scope own ix cl g3.objs.size fp s2 H2 xe) _ s8 σ6 H8 (.ref s2.heap.objs.size) [y] (.ref s2.heap.objs.size) [v] (fun _ H'=>∃m',m'<n/\W (i+1) m' H') K8 rfl (.cons r8 .nil) ⟨_,ys,y,rfl,rfl,e8,z8,q8⟩) ?_;rintro u9 s9 ⟨v9,H9,K9,r9,q9⟩;exact again K9 q9
  ·have z:=(f2 b hb).1;obtain⟨o,e⟩:=fpo b hb;rw[za8 (pL (ki e))];exact z
 exact codeAny_compStart_list (loop _ rfl) (T.self _ 0 _ _ _ (T.keep _ _ _ st2 fun b hb o e=>old b o e) (loop _ rfl))
theorem ze0{N:List Str}(hc:X.calm=true)(hd:X.env.scope=dsc)(hN:X.N=N)(S':ze8 dsc N scope own ix)(hi:PI X tg iter wi)(hb:CompBody X scope own ix tg ifs elt g ti te)
  (hs:∀x,jc iter X.env x=pure x:=by intro _;rfl):PE X (.ListComp elt [⟨tg,iter,ifs,0⟩] scope pos) (zq6 own.length ix wi g ti te):=by
 have S:ze8 dsc X.N scope own ix:=by rw[hN];exact S'
 intro pins s σ H Q I h;rw[eval_ListComp];refine zne (use:=none) hc hd S hi hb hs I h fun D C H' s' I' f' hn q=>?_;obtain⟨m,hm⟩:=hn;obtain⟨f0,f1,f2,f3,f4,f5⟩:=f';exact⟨m,hm,fun h' sb=>⟨.ref D,H',I'.turned (t':=s'.toks) (fun b o hb e=>(sb.2 b hb).trans e) f0 f1 f3 f4 f5,rfl,q⟩⟩
theorem zqj{i:Nat}{x:Str}{N:List Str}{pos' pos1:Pos}(hN:X.N.Nodup)(hx0:X.N[i]?=some x)(hx:Loc X.env.scope x)(hc:X.calm=true)(hd:X.env.scope=dsc)(hN':X.N=N)(S':ze8 dsc N scope own ix)(hi:PI X tg iter wi)(hb:CompBody X scope own ix tg ifs elt g ti te)
  (hsw:DF (.ListComp elt [⟨tg,iter,ifs,0⟩] scope pos) (some (.Name x pos')) pos1.line X.env=pure true:=by rfl)(hf:X.fn x=true∨X.env.scope.names.lookup x=some .local:=by first|exact .inl rfl|exact .inr rfl|assumption)
  (hs:∀x,jc iter X.env x=pure x:=by intro _;rfl):PS X (.Assign [.Name x pos'] (.ListComp elt [⟨tg,iter,ifs,0⟩] scope pos) pos1) (tAsg (zq6 own.length ix wi g ti te) (gName i)):=by
 have S:ze8 dsc X.N scope own ix:=by rw[hN'];exact S'
 intro pins s σ H D I h;rw[exec_Assign_Name_used _ _ _ _ hsw]
 have main:=zne (p0:=iter.pos) (pos:=pos) (use:=some (assign (.Name x pos') X.env)) (RQ:=fun _ s'=>SP X pins D .next s') hc hd S hi hb hs I h fun l C H' s' I' f' hn q=>by
  obtain⟨m,o,es,ep,ho,hdt,hr⟩:=hn;obtain⟨f0,f1,f2,f3,f4,f5⟩:=f';have Ip:Inv X (pins++[(C,o)]) σ H' s':=I'.pins_of fun p hp=>(kY.mp hp).elim (fun z=>I'.pin p (kN _ z)) fun z=>by
   have e:p=(C,o):=by simpa using z
   subst e;exact⟨ho,f0,f1,f2,fun v z=>by rw[hdt] at z;cases z⟩
  refine Cf (zj6 (v:=.ref l) Ip hN hx0 hx rfl (fun s2 I2=>?_) hf);have pc:=I2.pin (C,o) (kN _ (kN _ (by simp)))
  refine⟨m,⟨o,es,ep,pc.1,hdt,hr⟩,fun h' sb=>⟨_,H',I2.unpinned.turned (t':=s2.toks) (fun b o hb e=>(sb.2 b hb).trans e) pc.2.1 f1 f3 f4 f5,q⟩⟩
 refine kA (CK (kA ?_));exact kA (thn main fun _ s' hq=>kL (kL hq))
end
def CW(n:Nat)(Pv:Nat->List V->Hp->Prop):Nat->Nat->Hp->Prop:=fun i m H=>m=n-i/\i<=n/\∃ys,Pv i ys H
abbrev CPut(n:Nat)(Pv:Nat->List V->Hp->Prop)(D:Addr)(i:Nat)(y:V)(H:Hp):Prop:=∃ys,H D=some (.lst ys)/\ys.length<sizeLine/\∃m',m'<n-i/\CW n Pv (i+1) m' (upd H D (.lst (ys++[y])))
abbrev zno(n:Nat)(Pv:Nat->List V->Hp->Prop)(i:Nat)(H:Hp):Prop:=∃m',m'<n-i/\CW n Pv (i+1) m' H
theorem cw_put{n i:Nat}{Pv:Nat->List V->Hp->Prop}{D:Addr}{y:V}{ys:List V}{H:Hp}(hi:i<n)(hD:H D=some (.lst ys))(hz:ys.length<sizeLine)(p:Pv (i+1) (ys++[y]) (upd H D (.lst (ys++[y])))):CPut n Pv D i y H:=
 ⟨ys,hD,hz,n-(i+1),by omega,rfl,hi,_,p⟩
theorem cw_skip{n i:Nat}{Pv:Nat->List V->Hp->Prop}{ys:List V}{H:Hp}(hi:i<n)(p:Pv (i+1) ys H):zno n Pv i H:=⟨n-(i+1),by omega,rfl,hi,_,p⟩
def zt3(J:It)(D:Addr)(g:TG)(ti:TT)(te:TE)(σ':St)(H:Hp)(Q:VK):Prop:=
 ∃W:Nat->Nat->Hp->Prop,(∃m,W 0 m (upd H D (.lst [])))/\∀i m H2,W i m H2->
  (J.stop i H2/\Q (.ref D) H2)∨(J.go i H2/\∀x H3,J.yld i H2 x H3->g x σ' H3 fun σ4 H4=>ti σ4 H4 fun b H5=>if b=true then te σ4 H5 fun y H6=>∃ys,H6 D=some (.lst ys)/\ys.length<sizeLine/\∃m',m'<m/\W (i+1) m' (upd H6 D (.lst (ys++[y])))
   else ∃m',m'<m/\W (i+1) m' H5)
theorem zb9{k:Nat}{ix:List Nat}{wi:TI}{g:TG}{ti:TT}{te:TE}{σ:St}{H:Hp}{Q:VK}(h:wi σ H fun J H1=>∀D,H1 D=none->zt3 J D g ti te (selC k ix σ) H1 Q):zq6 k ix wi g ti te σ H Q:=h
theorem zlb{J:It}{D:Addr}{g:TG}{ti:TT}{te:TE}{σ':St}{H:Hp}{Q:VK}(n:Nat)(Pv:Nat->List V->Hp->Prop)(h0:Pv 0 [] (upd H D (.lst [])))(hgo:∀i ys H,i<n->Pv i ys H->J.go i H)(hst:∀ys H,Pv n ys H->J.stop n H)
  (hs:∀i ys H x H3,i<n->Pv i ys H->J.yld i H x H3->g x σ' H3 fun σ4 H4=>ti σ4 H4 fun b H5=>if b=true then te σ4 H5 fun y H6=>CPut n Pv D i y H6 else zno n Pv i H5)
  (hd:∀ys H,Pv n ys H->Q (.ref D) H):zt3 J D g ti te σ' H Q:=by
 refine⟨CW n Pv,⟨n,rfl,pG _,[],h0⟩,?_⟩;rintro i m H2 ⟨rfl,hi,ys,p⟩
 by_cases hlt:i<n
 ·exact .inr ⟨hgo i ys H2 hlt p,fun x H3 y=>hs i ys H2 x H3 hlt p y⟩
 ·have e:i=n:=by omega
  subst e;exact .inl ⟨hst ys H2 p,hd ys H2 p⟩
theorem zax{K:kJ}{a D:Addr}{xs:List V}{g:TG}{ti:TT}{te:TE}{σ':St}{H:Hp}{Q:VK}(Pv:Nat->List V->Hp->Prop)(h0:Pv 0 [] (upd H D (.lst [])))(hl:∀i ys H,Pv i ys H->SqL K H a xs)
  (hs:∀i ys H x,i<xs.length->xs[i]?=some x->Pv i ys H->g x σ' H fun σ4 H4=>ti σ4 H4 fun b H5=>if b=true then te σ4 H5 fun y H6=>CPut xs.length Pv D i y H6 else zno xs.length Pv i H5)
  (hd:∀ys H,Pv xs.length ys H->Q (.ref D) H):zt3 (Itl K a) D g ti te σ' H Q:=by
 refine zlb xs.length Pv h0 (fun i ys H hi p=>⟨xs,xs[i],hl i ys H p,by simp[hi]⟩) (fun ys H p=>⟨xs,hl _ ys H p,kM _⟩) (fun i ys H x H3 hi p y=>?_) hd
 obtain⟨e,y⟩:=y;subst e;exact hs i ys _ x hi (y xs (hl i ys _ p)) p
theorem comp_tup{K:kJ}{a D:Addr}{xs:List V}{g:TG}{ti:TT}{te:TE}{σ':St}{H:Hp}{Q:VK}(Pv:Nat->List V->Hp->Prop)(h0:Pv 0 [] (upd H D (.lst [])))(hl:∀i ys H,Pv i ys H->SqT K H a xs)
  (hs:∀i ys H x,i<xs.length->xs[i]?=some x->Pv i ys H->g x σ' H fun σ4 H4=>ti σ4 H4 fun b H5=>if b=true then te σ4 H5 fun y H6=>CPut xs.length Pv D i y H6 else zno xs.length Pv i H5)
  (hd:∀ys H,Pv xs.length ys H->Q (.ref D) H):zt3 (Itt K a) D g ti te σ' H Q:=by
 refine zlb xs.length Pv h0 (fun i ys H hi p=>⟨xs,xs[i],hl i ys H p,by simp[hi]⟩) (fun ys H p=>⟨xs,hl _ ys H p,kM _⟩) (fun i ys H x H3 hi p y=>?_) hd
 obtain⟨e,y⟩:=y;subst e;exact hs i ys _ x hi (y xs (hl i ys _ p)) p
theorem zo4{D:Addr}{lo:Int}{n:Nat}{g:TG}{ti:TT}{te:TE}{σ':St}{H:Hp}{Q:VK}(Pv:Nat->List V->Hp->Prop)(h0:Pv 0 [] (upd H D (.lst [])))
  (hs:∀i ys H,i<n->Pv i ys H->g (.int (lo+i)) σ' H fun σ4 H4=>ti σ4 H4 fun b H5=>if b=true then te σ4 H5 fun y H6=>CPut n Pv D i y H6 else zno n Pv i H5)
  (hd:∀ys H,Pv n ys H->Q (.ref D) H):zt3 (Itr lo n) D g ti te σ' H Q:=by
 refine zlb n Pv h0 (fun i ys H hi p=>hi) (fun ys H p=>kM _) (fun i ys H x H3 hi p y=>?_) hd;obtain⟨e,y⟩:=y;subst e y;exact hs i ys _ hi p
mutual
def RdD(K:kJ)(H:Hp):Bk->V->Prop
 |.none,v=>v=.non
 |.bool b,v=>v=.bl b
 |.int i,v=>v=.int i
 |.str x,v=>v=.str x
 |.list ds,v=>∃p xs,v=.ref p/\SqL K H p xs/\RdDs K H ds xs
 |.tuple ds,v=>∃p xs,v=.ref p/\SqT K H p xs/\RdDs K H ds xs
 |.dict _,_=>False
def RdDs(K:kJ)(H:Hp):List Bk->List V->Prop
 |[],xs=>xs=[]
 |d::ds,xs=>∃x r,xs=x::r/\RdD K H d x/\RdDs K H ds r
end
section
variable{X:Cx}{pins:List (Addr×Obj)}{σ:St}{H:Hp}{s:kC}
mutual
theorem zei(I:Inv X pins σ H s):∀(d:Bk)(v:V)(u:kB),RdD X.K H d v->RelV v u->∃as,Reads s.heap u d as
 |.none,v,u,h,r=>by
  rw[RdD] at h;subst h;cases r;exact⟨_,.none⟩
 |.bool b,v,u,h,r=>by
  rw[RdD] at h;subst h;cases r;exact⟨_,.bool b⟩
 |.int i,v,u,h,r=>by
  rw[RdD] at h;subst h;obtain⟨t,rfl⟩:=r;exact⟨_,.int i t⟩
 |.str x,v,u,h,r=>by
  rw[RdD] at h;subst h;obtain⟨t,rfl⟩:=r;exact⟨_,.str x t⟩
 |.list ds,v,u,h,r=>by
  rw[RdD] at h;obtain⟨p,xs,rfl,hq,hs⟩:=h
  cases r;obtain⟨its,rv,pl,hz⟩:=I.list hq;obtain⟨o,ho,hc,n,hd⟩:=pl.isList;obtain⟨as,ra⟩:=zht I ds xs its hs rv;exact⟨_,reads_list_at ho hc hd (by simpa using ra)⟩
 |.tuple ds,v,u,h,r=>by
  rw[RdD] at h;obtain⟨p,xs,rfl,hq,hs⟩:=h
  cases r;obtain⟨its,rv,pl,hz⟩:=I.tuple hq;obtain⟨o,ho,hc,n,hd⟩:=pl;obtain⟨as,ra⟩:=zht I ds xs its hs rv;exact⟨_,reads_tuple_at ho hc hd (by simpa using ra)⟩
 |.dict kvs,v,u,h,r=>by
  rw[RdD] at h;exact h.elim
theorem zht(I:Inv X pins σ H s):∀(ds:List Bk)(xs:List V)(us:List kB),RdDs X.K H ds xs->Vals xs us->∃as,ReadsAll s.heap us ds as
 |[],xs,us,h,r=>by
  rw[RdDs] at h;subst h;cases r;exact⟨_,.nil⟩
 |d::ds,xs,us,h,r=>by
  rw[RdDs] at h;obtain⟨x,xr,rfl,hx,hr⟩:=h
  cases r with
  |cons r1 r2=>
   obtain⟨as,ra⟩:=zei I d _ _ hx r1;obtain⟨bs,rb⟩:=zht I ds _ _ hr r2;exact⟨_,.cons ra rb⟩
end
end
def rEqD(K:kJ):R2:=fun x y H Q=>∃d e,RdD K H d x/\RdD K H e y/\Qt d=true/\Qt e=true/\Q (.bl (Qu d e)) H
def rNeD(K:kJ):R2:=fun x y H Q=>∃d e,RdD K H d x/\RdD K H e y/\Qt d=true/\Qt e=true/\Q (.bl (!PyData.eqv d e)) H
theorem hu64{A:pO}{k:Nat}(hr:Room k A):A.units+64<cLine:=by have:=hr.un;omega
section
variable{X:Cx}
theorem zre(hu:X.A.units+64<cLine):OpR X (Qj .Eq) (rEqD X.K):=by
 intro pins s σ H x y v u Q I rx ry h;obtain⟨d,e,hd,he,sd,se,q⟩:=h;obtain⟨as,ra⟩:=zei I d x v hd rx;obtain⟨bs,rb⟩:=zei I e y u he ry;exact eq_dataH ra rb sd se hu ⟨.bl (Qu d e),H,I,rfl,q⟩
theorem zkx(hu:X.A.units+64<cLine):OpR X (Qj .NotEq) (rNeD X.K):=by
 intro pins s σ H x y v u Q I rx ry h;obtain⟨d,e,hd,he,sd,se,q⟩:=h;obtain⟨as,ra⟩:=zei I d x v hd rx;obtain⟨bs,rb⟩:=zei I e y u he ry;exact ne_dataH ra rb sd se hu ⟨.bl (!PyData.eqv d e),H,I,rfl,q⟩
end
def dPt(x y w:Int):Bk:=.tuple [.int x,.int y,.int w]
theorem zfq{K:kJ}{H:Hp}{p:Addr}{x y w:Int}(h:SqT K H p [.int x,.int y,.int w]):RdD K H (dPt x y w) (.ref p):=by
 unfold dPt;rw[RdD];exact⟨p,_,rfl,h,by simp[RdDs,RdD]⟩
theorem zc3(x y w:Int):Qt (dPt x y w)=true:=by
 simp[dPt,Qt,Qv,uh,Qw,Qg]
theorem zgp(x y w x' y' w':Int):Qu (dPt x y w) (dPt x' y' w')=decide (x=x'/\y=y'/\w=w'):=by
 simp only[dPt,Qu,Ut,EH]
 by_cases h1:x=x'<;>by_cases h2:y=y'<;>by_cases h3:w=w'<;>simp[h1,h2,h3]
section
variable{X:Cx}
theorem IxR.imp{r r':R2}(h:IxR X r)(i:∀x y H Q,r' x y H Q->r x y H Q):IxR X r':=fun value slice pins s σ H x y v u Q I rx ry q hs=>h value slice pins s σ H x y v u Q I rx ry (i x y H Q q) hs
theorem zdk.imp{f:kB}{r r':List V->Hp->VK->Prop}(h:zdk X f r)(i:∀xs H Q,r' xs H Q->r xs H Q):zdk X f r':=fun pins s σ H xs us Q I rv q=>h pins s σ H xs us Q I rv (i xs H Q q)
def rIxTH:R2:=fun x y H Q=>∃p xs i v,x=.ref p/\y=.int i/\H p=some (.tup xs)/\atI xs i=some v/\Q v H
def rIxLH:R2:=fun x y H Q=>∃p xs i v,x=.ref p/\y=.int i/\H p=some (.lst xs)/\atI xs i=some v/\Q v H
theorem za2:IxR X rIxTH:=ix_tup.imp fun x y H Q⟨p,xs,i,v,e1,e2,h,e3,q⟩=>⟨p,xs,i,v,e1,e2,.of h,e3,q⟩
theorem zbl:IxR X rIxLH:=zsu.imp fun x y H Q⟨p,xs,i,v,e1,e2,h,e3,q⟩=>⟨p,xs,i,v,e1,e2,.of h,e3,q⟩
def rLenH:List V->Hp->VK->Prop:=fun xs H Q=>∃p ys,xs=[.ref p]/\(H p=some (.lst ys)∨H p=some (.tup ys))/\Q (.int ys.length) H
theorem zcx:zdk X (.builtin "len") rLenH:=zgt.imp fun xs H Q⟨p,ys,e,h,q⟩=>⟨p,ys,e,h.imp .of .of,q⟩
def tyF(H:Hp)(x:V):Option String:=match x with
 |.non=>some "NoneType"
 |.bl _=>some "bool"
 |.int _=>some "int"
 |.str _=>some "str"
 |.ref p=>match H p with
  |some (.lst _)=>some "list"
  |some (.tup _)=>some "tuple"
  |_=>none
 |_=>none
theorem tyF_tyN{K:kJ}{H:Hp}{x:V}{T:String}(h:tyF H x=some T):tyN K H x T:=by
 cases x with
 |non=>exact(pV h).symm
 |bl b=>exact(pV h).symm
 |int i=>exact(pV h).symm
 |str z=>exact(pV h).symm
 |ref p=>
  unfold tyF at h;dsimp only at h
  cases q:H p with
  |none=>rw[q] at h;cases h
  |some o=>
   rw[q] at h
   cases o with
   |lst xs=>exact .inl ⟨(pV h).symm,xs,.of q⟩
   |tup xs=>exact .inr (.inl ⟨(pV h).symm,xs,.of q⟩)
   |_=>cases h
 |_=>cases h
def rIsiF(T:String):List V->Hp->VK->Prop:=fun xs H Q=>∃x Tx,xs=[x,.ty T]/\tyF H x=some Tx/\Q (.bl (isiB Tx T)) H
theorem isiF{T:String}(h:zdk X (.builtin "isinstance") (rIsi X.K T)):zdk X (.builtin "isinstance") (rIsiF T):=h.imp fun xs H Q⟨x,Tx,e,t,q⟩=>⟨x,Tx,e,tyF_tyN t,q⟩
end
theorem tyF_tup{H:Hp}{p:Addr}{xs:List V}(h:H p=some (.tup xs)):tyF H (.ref p)=some "tuple":=by unfold tyF;dsimp only;rw[h]
theorem tyF_non{H:Hp}:tyF H .non=some "NoneType":=rfl
theorem tyF_bl{H:Hp}{b:Bool}:tyF H (.bl b)=some "bool":=rfl
theorem tyF_int{H:Hp}{i:Int}:tyF H (.int i)=some "int":=rfl
theorem tyF_str{H:Hp}{z:Str}:tyF H (.str z)=some "str":=rfl
theorem at0{α:Type}{x:α}{r:List α}:atI (x::r) 0=some x:=zb6 (j:=0) rfl
theorem at1{α:Type}{x y:α}{r:List α}:atI (x::y::r) 1=some y:=zb6 (j:=1) rfl
theorem at2{α:Type}{x y z:α}{r:List α}:atI (x::y::z::r) 2=some z:=zb6 (j:=2) rfl
theorem at3{α:Type}{x y z t:α}{r:List α}:atI (x::y::z::t::r) 3=some t:=zb6 (j:=3) rfl
theorem at4{α:Type}{x y z t u:α}{r:List α}:atI (x::y::z::t::u::r) 4=some u:=zb6 (j:=4) rfl
theorem at5{α:Type}{x y z t u v:α}{r:List α}:atI (x::y::z::t::u::v::r) 5=some v:=zb6 (j:=5) rfl
theorem at6{α:Type}{x y z t u v w:α}{r:List α}:atI (x::y::z::t::u::v::w::r) 6=some w:=zb6 (j:=6) rfl
theorem at7{α:Type}{x y z t u v w x':α}{r:List α}:atI (x::y::z::t::u::v::w::x'::r) 7=some x':=zb6 (j:=7) rfl
theorem zav{H H':Hp}{D:Addr}{o:HO}(g:Same H H')(h:H D=none):Same H (upd H' D o):=fun b u q=>by
 rw[za8 (za7 q h)];exact g b u q
section
variable{X:Cx}
theorem SlR.imp{r r':V->Option Int->Option Int->Hp->VK->Prop}(h:SlR X r)(i:∀x lo hi H Q,r' x lo hi H Q->r x lo hi H Q):SlR X r':=fun pins s σ H x v vl vu lo hi sl Q I rx hs pl pu q=>h pins s σ H x v vl vu lo hi sl Q I rx hs pl pu (i x lo hi H Q q)
def rSlH:V->Option Int->Option Int->Hp->VK->Prop:=fun x lo hi H Q=>∃a xs,x=.ref a/\H a=some (.lst xs)/\∀p,H p=none->Q (.ref p) (upd H p (.lst (cutV xs lo hi)))
theorem sl_listH:SlR X rSlH:=sl_list.imp fun x lo hi H Q⟨a,xs,e,h,q⟩=>⟨a,xs,e,.of h,q⟩
def rListH:List V->Hp->VK->Prop:=fun xs H Q=>∃p ys,xs=[.ref p]/\(H p=some (.lst ys)∨H p=some (.tup ys))/\∀l,H l=none->Q (.ref l) (upd H l (.lst ys))
theorem zf8:zdk X (.type "list") rListH:=zjx.imp fun xs H Q⟨p,ys,e,h,q⟩=>⟨p,ys,e,h.imp .of .of,q⟩
def rIntB:List V->Hp->VK->Prop:=fun xs H Q=>∃k,xs=[.bl k]/\Q (.int (if k=true then 1 else 0)) H
theorem zl2:zdk X (.type "int") rIntB:=zsn.imp fun xs H Q h=>.inr h
theorem zff{K:kJ}{H:Hp}{p:Addr}{xs:List V}(h:H p=some (.lst xs)):tyV K "list" (.ref p) H:=.inl ⟨rfl,xs,.of h⟩
theorem bt_min:uQ "min"=some (.builtin "min"):=by decide+kernel
theorem bt_max:uQ "max"=some (.builtin "max"):=by decide+kernel
end
def ForW(J:It)(g:TG)(tb:TS)(D:Ends)(σ:St)(H:Hp):Prop:=∃W:Nat->Nat->St->Hp->Prop,(∃m,W 0 m σ H)/\∀i m σ H,W i m σ H->
 (J.stop i H/\D.nx σ H)∨(J.go i H/\∃N:St->Hp->Prop,(∀σ' H',N σ' H'->∃m',m'<m/\W (i+1) m' σ' H')/\∀x H',J.yld i H x H'->g x σ H' fun σ2 H2=>tb {D with nx:=N,ct:=N,bk:=D.nx} σ2 H2)
theorem zbo{wi:TI}{g:TG}{tb:TS}{D:Ends}{σ:St}{H:Hp}(h:wi σ H fun J H1=>ForW J g tb D σ H1):tFor wi g tb D σ H:=h
section
variable{X:Cx}{pos:Pos}
def gTupH(n:Nat)(t:TGs):TG:=fun v σ H Q=>∃a xs,v=.ref a/\H a=some (.tup xs)/\xs.length=n/\t xs σ H Q
theorem zt4{es:List Expr}{k:Nat}{t:TGs}{n:Nat}(hc:X.calm=true)(h:PGs X es t)(hn:(jz es X.env).length=n:=by rfl)(hst:(jz es X.env).findIdx? (·.1)=none:=by rfl):PG X (.Tuple es k pos) (gTupH n t):=
 fun pins s σ H v u Q I r hw=>zk4 hc h hn hst pins s σ H v u Q I r (by
  obtain⟨a,xs,e,q,l,z⟩:=hw;exact⟨a,xs,e,.of q,l,z⟩)
end
section
variable{prog:ko}{w:pN}{A:pO}{E:kB->kC->Prop}{s:kC}
theorem zij{c t:Addr}{i:Nat}{its:Array kB}{v:kB}{R:kB->kC->Prop}(hi:s.heap.IsTupleIter c t i)(ht:s.heap.IsTuple t its)(hv:its[i]?=some v)
  (hR:∀g,g.IsTupleIter c t (i+1)->vJ c s.heap g->R v {s with heap:=g}):wpAny (model prog w) A (uj (.ref c)) R E s:=by
 obtain⟨o,ho,hc,hd⟩:=id hi;obtain⟨o2,ho2,_,n2,hd2⟩:=ht;unfold uj;refine kA (Qk (name:=pQ "__next__") hi.typeIs UX (Ql UX hi.typeIs gZ ?_ (gO _)));show wpAny _ _ (field (.ref c) 0>>=_) _ _ s;refine kA (UK ho hd (x:=.ref t) rfl ?_);show wpAny _ _ (if(pz t==pe)=true then _ else _) _ _ s;rw[if_neg (show ¬((pz t==pe)=true) from pI)];show wpAny _ _ (field (.ref c) 1>>=_) _ _ s;refine kA (UK ho hd (x:=.int i 0) rfl ?_);show wpAny _ _ (Ao (.ref t)>>=_) _ _ s;refine kA (uf ho2 hd2 ?_);simp only[UP,hv];refine kA (gt ho hd (by simp) (kL ⟨v,rfl,kL (hR _ ⟨_,QB _ ho (Ba (jN hd _)),(Ck ..).trans hc,?_⟩ (Qz ..))⟩));rw[jN hd];simp[UR]
theorem zr3{c t:Addr}{i:Nat}{its:Array kB}{R:kB->kC->Prop}(hh:A.handled=none)(hi:s.heap.IsTupleIter c t i)(ht:s.heap.IsTuple t its)(hv:its[i]?=none)
  (hE:∀g e,Eh c s.heap g->(∃o,g.get? e=some o/\o.cls=.type "StopIteration")->E (.ref e) {s with heap:=g}):wpAny (model prog w) A (uj (.ref c)) R E s:=by
 obtain⟨o,ho,hc,hd⟩:=id hi;obtain⟨o2,ho2,_,n2,hd2⟩:=ht;unfold uj;refine kA (Qk (name:=pQ "__next__") hi.typeIs UX (Ql UX hi.typeIs gZ ?_ (gO _)));show wpAny _ _ (field (.ref c) 0>>=_) _ _ s;refine kA (UK ho hd (x:=.ref t) rfl ?_);show wpAny _ _ (if(pz t==pe)=true then _ else _) _ _ s;rw[if_neg (show ¬((pz t==pe)=true) from pI)];show wpAny _ _ (field (.ref c) 1>>=_) _ _ s;refine kA (UK ho hd (x:=.int i 0) rfl ?_);show wpAny _ _ (Ao (.ref t)>>=_) _ _ s;refine kA (uf ho2 hd2 ?_);simp only[UP,hv];refine kA (QM (kA (gt ho hd (by simp) ?_)));show wpAny _ _ (newExc (.type "StopIteration") []>>=_) _ _ _
 refine kA ?_;simp only[newExc,newTuple];refine kA (Uo ?_ (by size_fits))
 refine kA (m:=gu _ _) (DV (a:=pe) (by first|rfl|(simp only[gu];rfl)) ?_);refine Uo ?_ (by size_fits)
 simp only[raiseNew];refine kA (wpAny_handled ?_);first|rw[show A.in1.handled=none from hh]|rw[hh]
 refine kA (kL (wpAny_throw ?_));exact hE _ _ (((Qz ..).extBut.push _).push _) ⟨_,kh _ rfl,rfl⟩
theorem zss{z p q i1 i2 l1 l2:Addr}{k1 k2:Nat}{xs ys:Array kB}{x y a b:kB}{R:Option kB->kC->Prop}(D:ZipApart z p q i1 i2 l1 l2)(hz:IsZip s.heap z p q .none)(hp:je s.heap p (.ref i1) (.ref i2))(hq:je s.heap q a b)
  (h1:s.heap.IsTupleIter i1 l1 k1)(h2:s.heap.IsTupleIter i2 l2 k2)(t1:s.heap.IsTuple l1 xs)(t2:s.heap.IsTuple l2 ys)(hx:xs[k1]?=some x)(hy:ys[k2]?=some y)
  (hR:∀g,IsZip g z p q (UR s.heap.objs.size)->je g q x y->g.IsTupleIter i1 l1 (k1+1)->g.IsTupleIter i2 l2 (k2+1)->je g s.heap.objs.size x y->g.objs.size=s.heap.objs.size+1->
   (∀c o,c≠z->c≠q->c≠i1->c≠i2->s.heap.get? c=some o->g.get? c=some o)->R (some (.ref s.heap.objs.size)) {s with heap:=g}):wpAny (model prog w) A (Ac (.ref z)) R E s:=by
 have hT:s.TypeIs (.ref z) "zip":=⟨_,hz,rfl⟩;unfold Ac;refine kA (vY (Qk (name:=pQ "__next__") hT gP (Ql gP hT DJ ?_ (Cl _))));show wpAny _ _ (field (.ref z) 2>>=_) _ _ s;refine kA (UK hz rfl (x:=.bool false) rfl ?_);show wpAny _ _ (field (.ref z) 3>>=_) _ _ s;refine kA (UK hz rfl (x:=.ref p) rfl (kA (uf hp rfl ?_)));show wpAny _ _ (Qf (.ref z)>>=_) _ _ s;refine kA ?_;unfold Qf;refine kA (UK hz rfl (x:=.none) rfl (kL ?_));simp only[if_true];refine kA (QM (kA (UK hz rfl (x:=.ref q) rfl (kA (vN hz (by simp) fun g1 z1 b1=>?_)))))
 replace z1:IsZip g1 z p q .ellipsis:=z1
 refine kA ?_;simp only[Ap,Dc,jI,gv];refine kA (kA (CN ?_));show wpAny _ _ (uj (.ref i1)>>=_) _ _ _;refine kA (zij (h1.extBut b1.extBut D.i1z) (t1.extBut b1.extBut D.l1z) hx fun g2 j1 b2=>kL ?_);have q2:je g2 q a b:=b2.extBut _ _ D.TOi1 (b1.extBut _ _ D.TOz hq);refine kA (uf q2 rfl (kA (Bl q2 fun g3 q3 b3=>?_)));replace q3:je g3 q x b:=q3;refine kA (vI (kL (kA (kA (CN ?_)))));show wpAny _ _ (uj (.ref i2)>>=_) _ _ _;refine kA (zij (((h2.extBut b1.extBut D.i2z).extBut b2.extBut D.i12.symm).extBut b3.extBut D.TOi2.symm) (((t2.extBut b1.extBut D.l2z).extBut b2.extBut D.l2i1).extBut b3.extBut D.l2TO) hy fun g4 j2 b4=>kL ?_);have q4:je g4 q x b:=b4.extBut _ _ D.TOi2 q3;refine kA (uf q4 rfl (kA (Bl q4 fun g5 q5 b5=>?_)));replace q5:je g5 q x y:=q5;refine kA (vI (kL (kL (kA (uf q5 rfl (kA (Bm ?_)))))));have sz:g5.objs.size=s.heap.objs.size:=by rw[b5.1,b4.1,b3.1,b2.1,b1.1]
 have z5:IsZip g5 z p q .ellipsis:=b5.extBut _ _ D.TOz.symm (b4.extBut _ _ D.i2z.symm (b3.extBut _ _ D.TOz.symm (b2.extBut _ _ D.i1z.symm z1)));have k5:∀c o,c≠z->c≠q->c≠i1->c≠i2->s.heap.get? c=some o->g5.get? c=some o:=fun c o c1 c2 c3 c4 e=>b5.extBut _ _ c2 (b4.extBut _ _ c4 (b3.extBut _ _ c2 (b2.extBut _ _ c3 (b1.extBut _ _ c1 e))));have u1:g5.IsTupleIter i1 l1 (k1+1):=((j1.extBut b3.extBut D.TOi1.symm).extBut b4.extBut D.i12).extBut b5.extBut D.TOi1.symm;have u2:g5.IsTupleIter i2 l2 (k2+1):=j2.extBut b5.extBut D.TOi2.symm;have zl:z<g5.objs.size:=ki z5;show wpAny _ _ (vq (.ref z) (.ref g5.objs.size)>>=_) _ _ _;refine kA ?_;unfold vq;have z6:IsZip (g5.push {cls:=.type "tuple",data:=.seq #[x,y]}) z p q .ellipsis:=kI _ z5;refine kA (vN z6 (by simp) fun g7 z7 b7=>?_);replace z7:IsZip g7 z p q (UR g5.objs.size):=z7
 refine vN z7 (by simp) fun g8 z8 b8=>?_;replace z8:IsZip g8 z p q (UR g5.objs.size):=z8
 have up:∀c o,c≠z->g5.get? c=some o->g8.get? c=some o:=fun c o c1 e=>b8.extBut _ _ c1 (b7.extBut _ _ c1 (kI _ e));have w8:je g8 g5.objs.size x y:=b8.extBut _ _ (jZ zl) (b7.extBut _ _ (jZ zl) (kh _ rfl));have s8:g8.objs.size=g5.objs.size+1:=by rw[b8.1,b7.1,Ux]
 rw[sz] at z8 w8 s8;refine kL ⟨_,rfl,kL ?_⟩;show R (some (.ref g5.objs.size)) _;rw[sz];exact hR g8 z8 (up _ _ D.TOz q5) (u1.at fun o e=>up _ o D.i1z e) (u2.at fun o e=>up _ o D.i2z e) w8 s8 fun c o c1 c2 c3 c4 e=>up c o c1 (k5 c o c1 c2 c3 c4 e)
theorem zipT_end{z p q i1 i2 l1 l2:Addr}{k1:Nat}{xs:Array kB}{a b:kB}{R:Option kB->kC->Prop}(hh:A.handled=none)(D:ZipApart z p q i1 i2 l1 l2)(hz:IsZip s.heap z p q .none)(hp:je s.heap p (.ref i1) (.ref i2))(hq:je s.heap q a b)
  (h1:s.heap.IsTupleIter i1 l1 k1)(t1:s.heap.IsTuple l1 xs)(hx:xs[k1]?=none)
  (hR:∀g,(∀c o,c≠z->c≠q->c≠i1->c≠i2->s.heap.get? c=some o->g.get? c=some o)->R none {s with heap:=g}):wpAny (model prog w) A (Ac (.ref z)) R E s:=by
 have hT:s.TypeIs (.ref z) "zip":=⟨_,hz,rfl⟩;unfold Ac;refine kA (vY (Qk (name:=pQ "__next__") hT gP (Ql gP hT DJ ?_ (Cl _))));show wpAny _ _ (field (.ref z) 2>>=_) _ _ s;refine kA (UK hz rfl (x:=.bool false) rfl ?_);show wpAny _ _ (field (.ref z) 3>>=_) _ _ s;refine kA (UK hz rfl (x:=.ref p) rfl (kA (uf hp rfl ?_)));show wpAny _ _ (Qf (.ref z)>>=_) _ _ s;refine kA ?_;unfold Qf;refine kA (UK hz rfl (x:=.none) rfl (kL ?_));simp only[if_true];refine kA (QM (kA (UK hz rfl (x:=.ref q) rfl (kA (vN hz (by simp) fun g1 z1 b1=>?_)))))
 replace z1:IsZip g1 z p q .ellipsis:=z1
 refine kA ?_;simp only[Ap,Dc,jI,gv];refine kA (kA (CN ?_));show wpAny _ _ (uj (.ref i1)>>=_) _ _ _
 refine kA (zr3 (by first|exact hh|(show A.in1.handled=none;exact hh)) (h1.extBut b1.extBut D.i1z) (t1.extBut b1.extBut D.l1z) hx fun g2 e b2 he=>?_)
 obtain⟨oe,hoe,ce⟩:=he;have z2:IsZip g2 z p q .ellipsis:=b2 _ _ D.i1z.symm z1;have ez:e≠z:=fun y=>by subst y;rw[z2] at hoe;cases hoe;simp at ce
 refine vN z2 (by simp) fun g3 _ b3=>kA (UV (T:="StopIteration") (b:=true) ⟨oe,b3.extBut _ _ ez hoe,ce⟩ isSubtype_stop (kL (hR g3 fun c o c1 _ c3 _ y=>b3.extBut _ _ c1 (b2 _ _ c3 (b1.extBut _ _ c1 y)))))
end
def zh1(h:Heap)(l:Addr):Heap:=h.push {cls:=.type "tuple_iterator",data:=.fields #[.ref l,.int 0 0]}
def zh2(h:Heap)(l m:Addr):Heap:=(zh1 h l).push {cls:=.type "tuple_iterator",data:=.fields #[.ref m,.int 0 0]}
def zh3(h:Heap)(l m:Addr):Heap:=(zh2 h l m).push {cls:=.type "tuple",data:=.seq #[.ref h.objs.size,.ref (zh1 h l).objs.size]}
def zh4(h:Heap)(l m:Addr):Heap:=(zh3 h l m).push {cls:=.type "tuple",data:=.seq #[.none,.none]}
def zh5(h:Heap)(l m:Addr):Heap:=(zh4 h l m).push {cls:=.type "zip",data:=.fields #[.none,.bool false,.bool false,.ref (zh2 h l m).objs.size,.ref (zh3 h l m).objs.size]}
theorem zipT_new(l m:Addr)(xs ys:Array kB):Meets (vn.«zip.__new__» ⟨[.type "zip",.ref l,.ref m],[]⟩) (fun _ R s=>s.heap.IsTuple l xs/\s.heap.IsTuple m ys/\R (.ok (.ret (.ref (zh4 s.heap l m).objs.size))) {s with heap:=zh5 s.heap l m}):=
 .of_wp fun prog w A R s h=>by
  obtain⟨hp,g,d,tk,os⟩:=s;obtain⟨hl1,hl2,h⟩:=h;have hsub:=sub_zip;have L1:ET (Ei ⟨hp,g,d,tk,os⟩) l xs:=hl1;have L2:ET (Ei ⟨hp.push {cls:=.type "tuple_iterator",data:=.fields #[.ref l,.int 0 0]},g,d,tk,os⟩) m ys:=Heap.IsTuple.push hl2 _
  wp_walk using gh L1,gh L2
  exact⟨_,rfl,h⟩
section
variable{prog:ko}{w:pN}{A:pO}{E:kB->kC->Prop}{s:kC}
theorem zpy{l m:Addr}{xs ys:Array kB}{R:kB->kC->Prop}(t1:s.heap.IsTuple l xs)(t2:s.heap.IsTuple m ys)
  (h:∀g,IsZip g (s.heap.objs.size+4) (s.heap.objs.size+2) (s.heap.objs.size+3) .none->je g (s.heap.objs.size+2) (.ref s.heap.objs.size) (.ref (s.heap.objs.size+1))->je g (s.heap.objs.size+3) .none .none->
   g.IsTupleIter s.heap.objs.size l 0->g.IsTupleIter (s.heap.objs.size+1) m 0->(∀c o,s.heap.get? c=some o->g.get? c=some o)->R (.ref (s.heap.objs.size+4)) {s with heap:=g}):wpAny (model prog w) A (call (.type "zip") [.ref l,.ref m]) R E s:=by
 refine callType_new F.called_zip (by decide) (F.typeCall_zip_2 _ _) (F.newCall_zip_2 _ _) (fun obj=>F.args_object_init_3 obj _ _) F.entry_zip_new (zipT_new l m xs ys) ⟨t1,t2,?_⟩
 have s1:(zh1 s.heap l).objs.size=s.heap.objs.size+1:=Ux ..;have s2:(zh2 s.heap l m).objs.size=s.heap.objs.size+2:=by unfold zh2;rw[Ux,s1]
 have s3:(zh3 s.heap l m).objs.size=s.heap.objs.size+3:=by unfold zh3;rw[Ux,s2]
 have s4:(zh4 s.heap l m).objs.size=s.heap.objs.size+4:=by unfold zh4;rw[Ux,s3]
 have up:∀{c o},(zh4 s.heap l m).get? c=some o->(zh5 s.heap l m).get? c=some o:=fun e=>kI _ e;have up3:∀{c o},(zh3 s.heap l m).get? c=some o->(zh5 s.heap l m).get? c=some o:=fun e=>up (kI _ e);have up2:∀{c o},(zh2 s.heap l m).get? c=some o->(zh5 s.heap l m).get? c=some o:=fun e=>up3 (kI _ e);have up1:∀{c o},(zh1 s.heap l).get? c=some o->(zh5 s.heap l m).get? c=some o:=fun e=>up2 (kI _ e);have e5:(zh5 s.heap l m).get? (zh4 s.heap l m).objs.size=some {cls:=.type "zip",data:=.fields #[.none,.bool false,.bool false,.ref (zh2 s.heap l m).objs.size,.ref (zh3 s.heap l m).objs.size]}:=kh _ rfl;have e4:(zh5 s.heap l m).get? (zh3 s.heap l m).objs.size=some {cls:=.type "tuple",data:=.seq #[.none,.none]}:=up (kh _ rfl);have e3:(zh5 s.heap l m).get? (zh2 s.heap l m).objs.size=some {cls:=.type "tuple",data:=.seq #[.ref s.heap.objs.size,.ref (zh1 s.heap l).objs.size]}:=up3 (kh _ rfl);have e2:(zh5 s.heap l m).get? (zh1 s.heap l).objs.size=some {cls:=.type "tuple_iterator",data:=.fields #[.ref m,.int 0 0]}:=up2 (kh _ rfl);have e1:(zh5 s.heap l m).get? s.heap.objs.size=some {cls:=.type "tuple_iterator",data:=.fields #[.ref l,.int 0 0]}:=up1 (kh _ rfl);show _/\_;rw[s2,s3,s4] at e5;rw[s1,s2] at e3;rw[s3] at e4;rw[s1] at e2;rw[s4];exact⟨⟨_,e5,rfl⟩,h _ e5 e3 e4 ⟨_,e1,rfl,rfl⟩ ⟨_,e2,rfl,rfl⟩ fun c o x=>up1 (kI _ x)⟩
end
def Ity(K:kJ)(l1 l2:Addr):It:=
 ⟨fun i H=>∃xs ys x y,SqT K H l1 xs/\SqT K H l2 ys/\xs[i]?=some x/\ys[i]?=some y,
  fun i H v H'=>∃T x y,H T=none/\v=.ref T/\H'=upd H T (.tup [x,y])/\(∀xs,SqT K H l1 xs->xs[i]?=some x)/\(∀ys,SqT K H l2 ys->ys[i]?=some y),
  fun i H=>∃xs,SqT K H l1 xs/\xs.length<=i⟩
def ZipTt(z p q i1 i2 l1 l2:Addr)(i:Nat)(h:Heap):Prop:=∃a b,IsZip h z p q .none/\je h p (.ref i1) (.ref i2)/\je h q a b/\h.IsTupleIter i1 l1 i/\h.IsTupleIter i2 l2 i
theorem Inv.tup_inj{X:Cx}{pins:List (Addr×Obj)}{σ:St}{H:Hp}{s:kC}{a:Addr}{xs ys:List V}(I:Inv X pins σ H s)(h1:SqT X.K H a xs)(h2:SqT X.K H a ys):xs=ys:=I.tuple_inj h1 h2
theorem zt6{P:ko}{w:pN}{K:kJ}{elts:List Expr}{x1:Nat}{pos:Pos}{z p q i1 i2 l1 l2:Addr}(D:ZipApart z p q i1 i2 l1 l2):
  Turn P w K (.Tuple elts x1 pos) (Ity K l1 l2) [z,p,q,i1,i2] z (ZipTt z p q i1 i2 l1 l2) where
 mem:=by simp
 obj:=fun i h st b hb=>by
  obtain⟨a,b',hz,hp,hq,h1,h2⟩:=st;simp only[kr,uV,or_false] at hb;rcases hb with rfl|rfl|rfl|rfl|rfl
  ·exact⟨_,hz,fun v r=>by cases r⟩
  ·exact⟨_,hp,fun v r=>by cases r⟩
  ·exact⟨_,hq,fun v r=>by cases r⟩
  ·obtain⟨o,e,c,d⟩:=h1;exact⟨o,e,fun v r=>by rw[d] at r;cases r⟩
  ·obtain⟨o,e,c,d⟩:=h2;exact⟨o,e,fun v r=>by rw[d] at r;cases r⟩
 keep:=fun i h h' st k=>by
  obtain⟨a,b',hz,hp,hq,h1,h2⟩:=st;exact⟨a,b',k z (by simp) _ hz,k p (by simp) _ hp,k q (by simp) _ hq,h1.at fun o e=>k i1 (by simp) o e,h2.at fun o e=>k i2 (by simp) o e⟩
 item:=by
  intro X hP hw hK hc i pins s σ H E I hf st hg;subst hP hw hK;obtain⟨xs,ys,x,y,hq1,hq2,hx,hy⟩:=hg;obtain⟨a,b',hz,hp,hq,h1,h2⟩:=st;obtain⟨its1,rv1,p1,_⟩:=I.tuple hq1;obtain⟨its2,rv2,p2,_⟩:=I.tuple hq2;obtain⟨u1,hu1,ru1⟩:=rv1.get hx;obtain⟨u2,hu2,ru2⟩:=rv2.get hy;refine zss D hz hp hq h1 h2 p1 p2 (x:=u1) (y:=u2) (by simpa using hu1) (by simpa using hu2) fun g1 z1 t1 j1 j2 pr sz kk=>⟨_,rfl,?_⟩
  refine wpAny_letOwnedTupleGo_zip z1 fun g2 z2 sb=>?_;have lt:∀b∈[z,p,q,i1,i2],b≠s.heap.objs.size:=fun b hb e=>by
   have:∃o,s.heap.get? b=some o:=by
    simp only[kr,uV,or_false] at hb;rcases hb with rfl|rfl|rfl|rfl|rfl
    ·exact⟨_,hz⟩
    ·exact⟨_,hp⟩
    ·exact⟨_,hq⟩
    ·obtain⟨o,e,_⟩:=h1;exact⟨o,e⟩
    ·obtain⟨o,e,_⟩:=h2;exact⟨o,e⟩
   obtain⟨o,r⟩:=this;exact absurd (ki r) (by rw[e];exact UD _)
  have nz:∀{b:Addr},b≠z->∀{o},g1.get? b=some o->g2.get? b=some o:=fun{b} hb{o} e=>(sb.2 b hb).trans e;have zT:s.heap.objs.size≠z:=(lt z (by simp)).symm
  have hnT:H s.heap.objs.size=none:=I.hok.fresh (kM _);have new:zd9 X.prog X.w (upd H s.heap.objs.size (.tup [x,y])) g2 s.heap.objs.size (.tup [x,y]):=⟨by show 2<=sizeLine;decide,[u1,u2],.cons ru1 (.cons ru2 .nil),⟨_,nz zT pr,rfl,_,rfl⟩⟩
  have I1:=Inv.turnedNew (h':=g2) (t':=s.toks) (ch:=[z,p,q,i1,i2]) I hf (fun b o hb e=>nz (by simp at hb;exact hb.1) (kk b o (by simp at hb;exact hb.1) (by simp at hb;exact hb.2.2.1) (by simp at hb;exact hb.2.2.2.1) (by simp at hb;exact hb.2.2.2.2) e)) (kM _) new
  refine⟨.ref s.heap.objs.size,_,I1,rfl,⟨_,x,y,hnT,rfl,rfl,fun zs hy'=>by rw[I.tup_inj hy' hq1];exact hx,fun zs hy'=>by rw[I.tup_inj hy' hq2];exact hy⟩,⟨u1,u2,z2,?_,?_,?_,?_⟩,fun b hb=>by rw[za8 (lt b hb)];exact(hf b hb).1⟩
  ·exact nz D.TIz (kk p _ D.TIz D.TITO D.TIi1 D.TIi2 hp)
  ·exact nz D.TOz t1
  ·exact j1.at fun o e=>nz D.i1z e
  ·exact j2.at fun o e=>nz D.i2z e
 done:=by
  intro X hP hw hK hc i pins s σ H E I hf st hg;subst hP hw hK;obtain⟨xs,hq1,hl⟩:=hg;obtain⟨a,b',hz,hp,hq,h1,h2⟩:=st;obtain⟨its1,rv1,p1,_⟩:=I.tuple hq1;have e1:=rv1.length;refine zipT_end (I.ok.hd hc) D hz hp hq h1 p1 (by simp;omega) fun g1 kk=>⟨rfl,?_⟩
  exact I.turnedL (t':=s.toks) (ch:=[z,p,q,i1,i2]) hf (fun b o hb e=>kk b o (by simp at hb;exact hb.1) (by simp at hb;exact hb.2.2.1) (by simp at hb;exact hb.2.2.2.1) (by simp at hb;exact hb.2.2.2.2) e)
 self:=fun _ _ _ _ _ st h=>by
  obtain⟨a,b',hz,_⟩:=st;exact DL hz h
section
variable{X:Cx}
def iZipU(K:kJ)(ta:TA):TI:=fun σ H R=>ta σ H fun vs H1=>∃l1 l2 xs ys,vs=[.ref l1,.ref l2]/\H1 l1=some (.tup xs)/\H1 l2=some (.tup ys)/\R (Ity K l1 l2) H1
theorem pi_zipT{a b:Expr}{ta:TA}{p pos tpos:Pos}{elts:List Expr}{x1:Nat}(hg:Gl X "zip")(hm:X.mg "zip"=none)(ha:PA X [a,b] ta)(hs:uF [a,b] X.env=[(false,eval a X.env),(false,eval b X.env)]:=by rfl)
  (hs2:uF [b] X.env=[(false,eval b X.env)]:=by rfl):PI X (.Tuple elts x1 tpos) (.Call (.Name "zip" p) [a,b] [] pos) (iZipU X.K ta):=by
 intro pins s σ H R I h;refine Call_ (zfg I hg hm bt_zip (Qp (thn (ha pos pins s σ H _ I h) fun us s1⟨vs,H1,I1,r1,q1⟩=>?_) (by rw[hs,hs2]) (by rw[hs2];rfl)))
 obtain⟨l1,l2,xs,ys,e,e1,e2,r⟩:=q1;subst e;obtain⟨u,w',rfl,ru,rw'⟩:=vals2 r1
 cases ru
 cases rw';obtain⟨its1,rv1,p1,_⟩:=I1.tuple (.of e1);obtain⟨its2,rv2,p2,_⟩:=I1.tuple (.of e2);have lt:∀{t:Addr}{its:Array kB},s1.heap.IsTuple t its->t<s1.heap.objs.size:=fun h=>by obtain⟨o,ho,_⟩:=h;exact ki ho
 refine zpy p1 p2 fun g hz hp hq hi1 hi2 kk=>DL hz ?_;have I2:Inv X pins σ H1 {s1 with heap:=g}:=I1.kept (t':=s1.toks) kk;refine⟨_,_,_,_,H1,rfl,I2,zt6 (zipApart_new (n:=s1.heap.objs.size) (lt p1) (lt p2)),⟨_,_,hz,hp,hq,hi1,hi2⟩,fun b hb=>?_,r⟩;have hb':s1.heap.objs.size<=b:=by
  simp only[kr,uV,or_false] at hb;rcases hb with rfl|rfl|rfl|rfl|rfl<;>omega
 exact I1.fpOk hb' (I1.hok.fresh hb')
end
theorem zq7{K:kJ}{l1 l2:Addr}{xs ys:List V}{g:TG}{tb:TS}{D:Ends}{σ:St}{H:Hp}(Pv:Nat->St->Hp->Prop)(h0:Pv 0 σ H)(hl:∀i σ H,Pv i σ H->H l1=some (.tup xs)/\H l2=some (.tup ys))(he:xs.length=ys.length)
  (hs:∀i x y T σ H,xs[i]?=some x->ys[i]?=some y->Pv i σ H->H T=none->g (.ref T) σ (upd H T (.tup [x,y])) fun σ2 H2=>tb {D with nx:=Pv (i+1),ct:=Pv (i+1),bk:=D.nx} σ2 H2)(hd:∀σ H,Pv xs.length σ H->D.nx σ H):
  ∃W:Nat->Nat->St->Hp->Prop,(∃m,W 0 m σ H)/\∀i m σ H,W i m σ H->
   ((Ity K l1 l2).stop i H/\D.nx σ H)∨((Ity K l1 l2).go i H/\∃N:St->Hp->Prop,(∀σ' H',N σ' H'->∃m',m'<m/\W (i+1) m' σ' H')/\∀x H',(Ity K l1 l2).yld i H x H'->g x σ H' fun σ2 H2=>tb {D with nx:=N,ct:=N,bk:=D.nx} σ2 H2):=by
 refine⟨fun i m σ H=>m=xs.length-i/\i<=xs.length/\Pv i σ H,⟨xs.length,by simp,pG _,h0⟩,?_⟩
 rintro i m σ H ⟨rfl,hi,p⟩;obtain⟨q1,q2⟩:=hl i σ H p
 by_cases hlt:i<xs.length
 ·refine .inr ⟨⟨xs,ys,xs[i],ys[i],.of q1,.of q2,by simp[hlt],by simp[he▸hlt]⟩,Pv (i+1),fun σ' H' p'=>⟨xs.length-(i+1),by omega,rfl,hlt,p'⟩,fun v H' y=>?_⟩
  obtain⟨T,x,y,hT,rfl,rfl,y1,y2⟩:=y;exact hs i x y T σ H (y1 xs (.of q1)) (y2 ys (.of q2)) p hT
 ·have e:i=xs.length:=by omega
  subst e;exact .inl ⟨⟨xs,.of q1,kM _⟩,hd σ H p⟩
open PySem.Builtin PySem.Builtin.Str
open PySem.W (KasT kas_asc kas_desc kas_rev kas_tail3 kas_descPart kas_count kas_place kas_bin kas_sort kas_ask kas_item)
def ansT{α:Type}(ans:Nat->Nat->Bool):KasT α->α
 |.ret a=>a
 |.ask i j k=>ansT ans (k (ans i j))
def Asks{α:Type}(n:Nat)(R:α->Prop):KasT α->Prop
 |.ret a=>R a
 |.ask i j k=>i<n/\j<n/\∀b,Asks n R (k b)
theorem Asks.bind{α β:Type}{n:Nat}{R:α->Prop}{S:β->Prop}{f:α->KasT β}:∀{t:KasT α},Asks n R t->(∀a,R a->Asks n S (f a))->Asks n S (t.bind f)
 |.ret a,h,k=>k a h
 |.ask i j g,h,k=>⟨h.1,h.2.1,fun b=>Asks.bind (h.2.2 b) k⟩
theorem Asks.ends{α:Type}{n:Nat}{R:α->Prop}{ans:Nat->Nat->Bool}:∀{t:KasT α},Asks n R t->R (ansT ans t)
 |.ret _,h=>h
 |.ask i j g,h=>Asks.ends (n:=n) (t:=g (ans i j)) (h.2.2 (ans i j))
theorem Asks.wp{α:Type}{n:Nat}{R:α->Prop}{ans:Nat->Nat->Bool}{cmp:Nat->Nat->(Bool->kC->Prop)->kC->Prop}{s:kC}{Q:α->kC->Prop}(hc:∀i j C,i<n->j<n->C (ans i j) s->cmp i j C s):
  ∀{t:KasT α},Asks n R t->Q (ansT ans t) s->t.kasWp cmp Q s
 |.ret _,_,q=>q
 |.ask i j g,h,q=>hc i j _ h.1 h.2.1 (Asks.wp (n:=n) (t:=g (ans i j)) hc (h.2.2 (ans i j)) q)
def Ord(n:Nat)(p:Array Nat):Prop:=p.toList.Perm (QL n)
theorem Ord.get{n:Nat}{p:Array Nat}(h:Ord n p)(hn:0<n)(i:Nat):p.getD i 0<n:=by
 by_cases hi:i<p.size
 ·have e:p.getD i 0=p[i]:=by simp[vO,hi]
  rw[e];exact Qe.mp (h.mem_iff.mp (by simp))
 ·have e:p.getD i 0=0:=by simp[vO,hi]
  rw[e];exact hn
theorem Ord.of{n:Nat}{p q:Array Nat}(h:Ord n p)(e:q.Perm p):Ord n q:=(gz.mp e).trans h
theorem Ord.rev{n:Nat}{p:Array Nat}(h:Ord n p)(i j:Nat):Ord n (kas_rev p i j):=h.of (Up _ _ _ _)
theorem zjl{n:Nat}{p:Array Nat}(h:Ord n p)(hn:0<n):∀(f m:Nat),Asks n (fun _=>True) (kas_asc p f m)
 |0,_=>trivial
 |f+1,m=>⟨h.get hn _,h.get hn _,fun b=>by
  cases b with
  |true=>dsimp only;rw[if_pos rfl];trivial
  |false=>dsimp only;rw[if_neg (by decide)];exact zjl h hn f (m+1)⟩
theorem zg1{n:Nat}(hn:0<n):∀(f:Nat){p:Array Nat}(m q:Nat),Ord n p->Asks n (fun r=>Ord n r.1) (kas_desc f p m q)
 |0,_,_,_,h=>h
 |f+1,p,m,q,h=>⟨h.get hn _,h.get hn _,fun b=>by
  cases b with
  |true=>
   dsimp only;rw[if_pos rfl]
   by_cases z:q>0
   ·rw[if_pos z];exact zg1 hn f _ _ (h.rev _ _)
   ·rw[if_neg z];exact zg1 hn f _ _ h
  |false=>
   dsimp only;rw[if_neg (by decide)]
   refine⟨h.get hn _,h.get hn _,fun d=>?_⟩
   cases d with
   |true=>dsimp only;rw[if_pos rfl];exact h
   |false=>dsimp only;rw[if_neg (by decide)];exact zg1 hn f _ _ h⟩
theorem zig{n a b:Nat}{p:Array Nat}(hn:0<n)(h:Ord n p):Asks n (fun r=>Ord n r.2) (kas_tail3 a b p):=
 Asks.bind (zjl (h.rev _ _) hn _ _) fun _ _=>h.rev _ _
theorem zfz{n a b:Nat}{p:Array Nat}(hn:0<n)(h:Ord n p):Asks n (fun r=>Ord n r.2) (kas_descPart a b p):=
 Asks.bind (zg1 hn _ _ _ h) fun r hr=>by
  by_cases z:r.2.2>0
  ·rw[if_pos z];exact zig hn (hr.rev _ _)
  ·rw[if_neg z];exact zig hn hr
theorem zie{n b:Nat}{p:Array Nat}(hn:0<n)(h:Ord n p):Asks n (fun r=>Ord n r.2) (kas_count b p):=
 Asks.bind (zjl h hn _ _) fun m _=>by
  by_cases z:(m==b)=true
  ·rw[if_pos z];exact h
  ·rw[if_neg z]
   by_cases y:m>1
   ·rw[if_pos y];refine⟨h.get hn _,h.get hn _,fun c=>?_⟩
    cases c with
    |true=>dsimp only;rw[if_pos rfl];exact h
    |false=>dsimp only;rw[if_neg (by decide)];exact zfz hn (h.rev _ _)
   ·rw[if_neg y];exact zfz hn h
theorem zgo{n:Nat}{p:Array Nat}(hn:0<n)(h:Ord n p)(k:Nat):∀(f l r:Nat),Asks n (fun _=>True) (kas_place p k f l r)
 |0,_,_=>trivial
 |f+1,l,r=>by
  unfold kas_place
  by_cases z:l≥r
  ·rw[if_pos z];trivial
  ·rw[if_neg z];refine⟨h.get hn _,h.get hn _,fun c=>?_⟩
   cases c with
   |true=>dsimp only;rw[if_pos rfl];exact zgo hn h k f _ _
   |false=>dsimp only;rw[if_neg (by decide)];exact zgo hn h k f _ _
theorem zmt{n:Nat}(hn:0<n):∀(f:Nat){p:Array Nat}(k:Nat),Ord n p->Asks n (Ord n) (kas_bin f p k)
 |0,_,_,h=>h
 |f+1,p,k,h=>Asks.bind (zgo hn h k _ _ _) fun l _=>zmt hn f (k+1) (h.of (DW _ _ _))
theorem zkf{n:Nat}(hn:0<n):Asks n (Ord n) (kas_sort n):=
 Asks.bind (zie hn (by unfold Ord;simp)) fun r hr=>by
  by_cases z:r.1<n
  ·rw[if_pos z];exact zmt hn _ _ hr
  ·rw[if_neg z];exact hr
def Keeps(g h:Heap):Prop:=∀b o,g.get? b=some o->h.get? b=some o
theorem Keeps.push{g h:Heap}(k:Keeps g h)(o:Obj):Keeps g (h.push o):=fun b x e=>kI _ (k b x e)
theorem Keeps.upd{g h:Heap}{a:Addr}{f:Obj->Obj}(k:Keeps g h)(ha:g.objs.size<=a):Keeps g (h.update a f):=fun b x e=>by
 rw[pg _ _ _ _ (pL (ku (ki e) ha))];exact k b x e
theorem znx(vs:List kB):((QL vs.length).map fun i=>vs.getD i pe)=vs:=by
 refine DM (by simp) fun i h1 h2=>?_
 have hi:i<vs.length:=h2
 simp[hi]
open PySem.W (KasT kas_sort kas_ask)
section
open PySem.SeqAt
open PySem.AutoSeq1 (wpAny_loadPart')
open PySem.MeetsSeq PySem.MeetsSeq2 PySem.MeetsSeq3
theorem ltRc{A:pO}{s:kC}{a c:Int}{t u:Tok}(prog:ko)(w:pN)(E:kB->kC->Prop)(Q:kB->kC->Prop)(h:Q (.bool (decide (a<c))) s):wpAny (model prog w) A (Bn .Lt (.int a t) (.int c u)) Q E s:=
 (CF h:wpAny (model prog w) A (Qj .Lt (.int a t) (.int c u)) Q E s)
theorem tupleLt(l b:Addr)(items items2:Array kB)(n n2:Nat)(dd dd2:Option Addr)(sl sl2:Array (Option kB))(ns ms:List Int)(hlen:ns.length=ms.length)(hi:Ua items.toList ns)(hj:Ua items2.toList ms):
  Meets (vn.«tuple.__lt__» ⟨[.ref l,.ref b],[]⟩)
   (fun _ R s=>s.heap.get? l=some {cls:=.type "tuple",dict:=dd,data:=.seq items n,slots:=sl}/\s.heap.get? b=some {cls:=.type "tuple",dict:=dd2,data:=.seq items2 n2,slots:=sl2}/\R (.ok (.ret (.bool (HT.lexLt ns ms)))) s):=
 .of_wp fun prog w A R s h=>by
  obtain⟨hp,g,d,tk,os⟩:=s;obtain⟨hl,hb,h⟩:=h;have f2:=Ae;have z1:items.size=ns.length:=by rw[←hi.length];simp
  have z2:items2.size=ms.length:=by rw[←hj.length];simp
  wp_walk using UA hl,UA hb,Uy _ (fun rest b s'=>b.1=none/\s'=⟨hp,g,d,tk,os⟩/\∃(vs ws:List kB)(ns' ms':List Int),rest=vs.zip ws/\Ua vs ns'/\Ua ws ms'/\ns'.length=ms'.length/\R (.ok (.ret (.bool (HT.lexLt ns' ms')))) ⟨hp,g,d,tk,os⟩) _
  case turn=>
   rintro⟨y,x⟩ rest b s' ⟨hb',rfl,vs,ws,ns',ms',hz,hvi,hwi,hln,hR⟩
   cases hvi with
   |nil=>rw[Cm] at hz;cases hz
   |cons a t hv=>
    cases hwi with
    |nil=>rw[CT] at hz;cases hz
    |cons c u hw=>
     rw[vP] at hz
     injection hz with q1 q2
     injection q1 with q3 q4
     subst q3 q4;rw[HT.lexLt_cons] at hR;simp only[uA] at hln;obtain⟨e,he,hiff⟩:=HT.eqAt_int A.in1 ⟨hp,g,d,tk,os⟩ a t c u;refine kA (he prog w _ _ ?_)
     cases e with
     |true=>
      rw[if_pos (hiff.mp rfl)] at hR
      wp_walk
      exact⟨rfl,rfl,_,_,_,_,q2,hv,hw,by omega,hR⟩
     |false=>
      rw[if_neg (fun q=>absurd (hiff.mpr q) pI)] at hR;have hri:=ltRc (A:=A.in1) (s:=⟨hp,g,d,tk,os⟩) (a:=a) (c:=c) (t:=t) (u:=u) prog w
      wp_walk using hri
      exact⟨_,rfl,by simpa using hR⟩
  case fin=>
   rintro⟨b1,b2⟩ s' ⟨hb',rfl,vs,ws,ns',ms',hz,hvi,hwi,hln,hR⟩
   simp only at hb'
   subst hb';have hv:HT.lexLt ns' ms'=decide (items.size<items2.size):=by
    rw[decide_eq_false (by omega)]
    cases hvi with
    |nil=>
     cases hwi with
     |nil=>rfl
     |cons c u hw=>cases hln
    |cons a t hv=>
     cases hwi with
     |nil=>cases hln
     |cons c u hw=>rw[vP] at hz;cases hz
   rw[hv] at hR
   wp_walk
   exact⟨_,rfl,by simpa[jt] using hR⟩
  case h=>
   exact⟨rfl,rfl,items.toList,items2.toList,ns,ms,rfl,hi,hj,hlen,h⟩
end
def TupI(h:Heap)(v:kB)(ns:List Int):Prop:=∃(a:Addr)(its:Array kB)(n:Nat)(dd:Option Addr)(sl:Array (Option kB)),v=.ref a/\h.get? a=some {cls:=.type "tuple",dict:=dd,data:=.seq its n,slots:=sl}/\Ua its.toList ns
def TupP(h:Heap)(v:kB)(ns ms:List Int):Prop:=∃(a:Addr)(x y:kB)(n:Nat)(dd:Option Addr)(sl:Array (Option kB)),v=.ref a/\h.get? a=some {cls:=.type "tuple",dict:=dd,data:=.seq #[x,y] n,slots:=sl}/\TupI h x ns/\TupI h y ms
theorem zii{h:Heap}:∀{us:List kB}{ns:List Int},Ua us ns->∃as,ReadsAll h us (ns.map vQ) as
 |_,_,.nil=>⟨_,.nil⟩
 |_,_,.cons n t r=>let⟨_,q⟩:=zii r;⟨_,.cons (.int n t) q⟩
theorem TupI.reads{h:Heap}{v:kB}{ns:List Int}(t:TupI h v ns):∃as,Reads h v (.tuple (ns.map vQ)) as:=by
 obtain⟨a,its,n,dd,sl,rfl,o,i⟩:=t;obtain⟨as,r⟩:=zii (h:=h) i;exact⟨_,reads_tuple_at o rfl rfl (by simpa using r)⟩
theorem zmz:∀ns:List Int,uh (ns.map vQ)=true
 |[]=>rfl
 |n::ns=>by simp only[pC,uh,zmz ns,Qv,Bool.and_self]
theorem zr6(ns:List Int):Qv (.tuple (ns.map vQ))=true:=by
 simp only[Qv,zmz ns]
theorem zn0:∀ns:List Int,Qg (ns.map vQ)<=1
 |[]=>by simp[Qg]
 |n::ns=>by
  have:=zn0 ns;simp only[pC,Qg,Qw];omega
theorem zmd:∀{ns ms:List Int},Ut (ns.map vQ) (ms.map vQ)=decide (ns=ms)
 |[],[]=>rfl
 |[],m::ms=>rfl
 |n::ns,[]=>rfl
 |n::ns,m::ms=>by
  simp only[pC,Ut,Qu,zmd]
  by_cases h1:n=m<;>by_cases h2:ns=ms<;>simp[h1,h2]
section
variable{prog:ko}{w:pN}{A:pO}{E:kB->kC->Prop}{s:kC}{C:Bool->kC->Prop}
theorem eq_tupI{x y:kB}{ns ms:List Int}(hx:TupI s.heap x ns)(hy:TupI s.heap y ms)(hu:A.units+64<cLine)(q:C (decide (ns=ms)) s):wpAny (model prog w) A (eqBool x y) C E s:=by
 obtain⟨as,ra⟩:=hx.reads;obtain⟨bs,rb⟩:=hy.reads;refine AA prog w A E s x y _ _ as bs C ra rb (zr6 ns) (zr6 ms) ?_ ?_
 ·have:=zn0 ns;have:(Cn (ns.map vQ)).depth<=2:=by simp only[Qw];omega
  have:=BP (Cn (ns.map vQ)).depth (Cn (ms.map vQ)).depth;omega
 ·simp only[Qu];rw[zmd];exact q
end
open PySem.W (KatTups) in
theorem ktups{h:Heap}:∀vs:List kB,(∀v,v∈vs->∃a b,a≠[]/\TupP h v a b)->∃fs,fs.length=vs.length/\KatTups h vs fs/\∀f,f∈fs->∃ns,TupI h f ns
 |[],_=>⟨[],rfl,.nil,fun f hf=>by cases hf⟩
 |v::vs,hv=>by
  obtain⟨fs,l,t,r⟩:=ktups vs fun u hu=>hv u (pB _ hu);obtain⟨a,b,ne,p,x,y,n,dd,sl,rfl,o,i,j⟩:=hv v (pD ..);refine⟨x::fs,by simp[l],.cons o rfl rfl rfl t,fun f hf=>?_⟩
  rcases kr.mp hf with rfl|hf
  ·exact⟨_,i⟩
  ·exact r f hf
theorem zi3:∀{xs:List V}{us:List kB},Vals xs us->∀i,i<xs.length->RelV (xs.getD i .non) (us.getD i pe)
 |_,_,.nil,i,h=>by cases h
 |_,_,.cons r t,0,_=>r
 |_,_,.cons r t,i+1,h=>zi3 t i (Nat.lt_of_succ_lt_succ h)
theorem zni{f:Nat->V}{g:Nat->kB}:∀l:List Nat,(∀i,i∈l->RelV (f i) (g i))->Vals (l.map f) (l.map g)
 |[],_=>.nil
 |i::l,h=>.cons (h i (pD ..)) (zni l fun j hj=>h j (pB _ hj))
section
variable{X:Cx}{pins:List (Addr×Obj)}{σ:St}{H:Hp}{s:kC}
theorem zow(I:Inv X pins σ H s){a:Addr}{ns:List Int}(h:H a=some (.tup (ns.map V.int))):TupI s.heap (.ref a) ns:=by
 obtain⟨its,r,⟨⟨cls,dd,data,sl⟩,ho,hc,n,hd⟩,_⟩:=I.tuple (.of h)
 simp only at hc hd
 subst hc hd;exact⟨a,_,n,dd,sl,rfl,ho,ze9 r⟩
theorem zg9:uQ "sorted"=some (.builtin "sorted"):=by decide+kernel
theorem hu100{A:pO}{k:Nat}(hr:Room k A):A.units+100<cLine:=by have:=hr.un;omega
end
structure OnlyT(ts:List Addr)(H:Hp):Prop where
 only:∀b,H b=none∨(∃o xs,H b=some (.frz o (.lst xs)))∨(b∈ts/\H b=some (.tbl #[]))
 tabs:∀b,b∈ts->H b=some (.tbl #[])
theorem zry{P:ko}{w:pN}{K:kJ}{mg mb:Str->Option kB}{CX:CXT}{k:Nat}{fa a:Addr}{fd:UU}{x:Str}{sp:Sp}{s₁:kC}{vs:List kB}{ns:List Int}{ts:List Addr}
  (KX:K.In s₁.heap)(hns:s₁.heap.Ns kR mg)(hb:s₁.heap.Ns BA mb)(hbb:∀x:Str,x≠"__name__"->mb x=uQ x)(hlim:s₁.heap.NoLimit)(hg:s₁.gens=#[])
  (ha:s₁.heap.get? a=some {cls:=.type "list",data:=.seq vs.toArray})(hi:Ua vs ns)(hl:ns.length<=sizeLine)(hr:Room k CC)
  (hT:∀b,b∈ts->s₁.heap.get? b=some (PySem.W.tabObj #[])/\K.lookup b=none/\isCodeTable s₁.heap b)
  (hbm:∃bm ob,mg "__builtins__"=some (.ref bm)/\bm≠BA/\s₁.heap.get? bm=some ob/\ob.cls=.type "module"/\ob.dict=some BA/\ob.data=.plain)
  (F:∀base:Heap,K.In base->base.Ns kR mg->(∀b,b∈ts->base.BuiltinsAt mg b)->FnOk P w K mg base CX k fa fd [x] sp) (hbind:∀(s:kC)(u:kB),Ch s fd ⟨[u],[]⟩ [(x,u)])
  (hsp:∀H:Hp,OnlyT ts H->SqL K H a (ns.map V.int)->sp [.ref a] H (fun v _=>v=.bl true) fun _ _ _=>False)
  (hCX:∀H e s',CX [] H s₁ (fun _ _ _=>False) e s'->False):
  jH (model P w) CC (.call (.ref fa) ⟨[.ref a],[]⟩) (fun r s'=>r=.ok (.ret (.bool true))/\OldK s₁.heap s'.heap/\s'.os=s₁.os/\AU s'.gens) s₁:=by
 have rv:=zhz hi;have lenV:=hi.length;have naT:a∉ts:=fun z=>by
  have e:=(hT a z).1;rw[ha] at e
  cases e
 have core:∀H:Hp,OnlyT ts H->SqL K H a (ns.map V.int)->HOk P w H s₁.heap->(∀b,H b≠none->b=a∨b∈ts)->(H a≠none->K.lookup a=none)->
   jH (model P w) CC (.call (.ref fa) ⟨[.ref a],[]⟩) (fun r s'=>r=.ok (.ret (.bool true))/\OldK s₁.heap s'.heap/\s'.os=s₁.os/\AU s'.gens) s₁:=by
  intro H hO hS hok hA hK;have base_of:∀{b:Addr}{o:Obj},s₁.heap.get? b=some o->H b=none->(hidT s₁.heap H).get? b=some o:=fun e n=>hidT_get e n;have noD:∀{b:Addr}{o:Obj},s₁.heap.get? b=some o->o.cls≠.none->o.cls≠.type "list"->H b=none:=fun{b o} e d1 d2=>by
   cases q:H b with
   |none=>rfl
   |some u=>
    rcases hA b (by rw[q];simp) with e'|e'
    ·subst e';rw[ha] at e;cases e;exact absurd rfl d2
    ·rw[(hT b e').1] at e;cases e;exact absurd rfl d1
  have noA:∀{b:Addr}{o:Obj}{es:Array jV}{ep:Nat},s₁.heap.get? b=some o->o.data=.dict es ep->H b=none:=fun{b o es ep} e d=>by
   cases q:H b with
   |none=>rfl
   |some u=>
    rcases hA b (by rw[q];simp) with e'|e'
    ·subst e';rw[ha] at e;cases e;have d':Ej vs.toArray _=Data.dict es ep:=d
     cases d'
    ·rw[(hT b e').1] at e;cases e;have d':DU #[]=Data.dict es ep:=d
     cases d'
  have nsK:∀{b:Addr}{m:Str->Option kB},s₁.heap.Ns b m->(hidT s₁.heap H).Ns b m:=fun{b m}⟨o,es,ep,e,d,r⟩=>⟨o,es,ep,base_of e (noA e d),d,r⟩;have hKb:K.In (hidT s₁.heap H):=fun b o e=>base_of (KX b o e) (by
   cases q:H b with
   |none=>rfl
   |some u=>
    rcases hA b (by rw[q];simp) with e'|e'
    ·subst e';rw[hK (by rw[q];simp)] at e;cases e
    ·rw[(hT b e').2.1] at e;cases e)
  have hM:Mod K mg (hidT s₁.heap H):=⟨hKb,nsK hns,⟨mb,nsK hb,hbb⟩,let⟨mc,h1,h2⟩:=hlim;⟨mc,nsK h1,h2⟩⟩;have hB:∀b,b∈ts->(hidT s₁.heap H).BuiltinsAt mg b:=fun b hb'=>by
   obtain⟨bm,ob,b1,b2,b3,b4,b5,b6⟩:=hbm;refine⟨bm,ob,b1,b2,fun q=>?_,fun q=>?_,base_of b3 (noD b3 (by rw[b4];simp) (by rw[b4];simp)),b4,b5,b6⟩
   ·obtain⟨o,es,ep,e,d,_⟩:=hns;rw[←q,b3] at e;cases e;rw[b6] at d;cases d
   ·rw[q,(hT b hb').1] at b3;cases b3;cases b4
  have e0:Env0 P w K mg (hidT s₁.heap H) CC [] s₁ H:=⟨rfl,hM,fun b o e=>of_hidT e,UF (zst _ _),trivial,fun b hb=>absurd (show b∈([]:List Addr) from hb) (by simp),hok,.of_eq hg⟩
  refine jd ((F _ hKb (nsK hns) hB).run CC [] s₁ H ⟨[.ref a],[]⟩ [.ref a] [.ref a] _ _ hr e0 (hbind s₁ (.ref a)) (.cons rfl .nil) (hsp H hO hS)) fun r s' h=>?_
  cases r with
  |error e=>exact(hCX H e s' h).elim
  |ok fl=>
   cases fl with
   |next=>exact uz h
   |brk=>exact uz h
   |cont=>exact uz h
   |ret u=>
    obtain⟨v,H',os,bare,un,hok',r',q⟩:=h;have q':v=.bl true:=q;subst q';obtain rfl:u=Ep true:=r';have at':∀b o,s₁.heap.get? b=some o->asItWas s₁.heap s'.heap b o:=fun b o e=>by
     cases q:H b with
     |none=>exact .inl (un.keep b o e q (by intro z;exact absurd (show b∈([]:List Addr) from z) (by simp)) (by simp))
     |some u=>
      rcases hO.only b with z|⟨ob,xs,z⟩|⟨hbt,z⟩
      ·rw[q] at z;cases z
      ·have z2:=un.frzs b ob _ z;obtain⟨e1,_⟩:=hok b _ z;obtain⟨e2,_⟩:=hok' b _ z2;rw[e] at e1;cases e1;exact .inl e2
      ·obtain⟨more,z2⟩:=un.tbls b _ z;have e2:s'.heap.get? b=some {cls:=.none,data:=.fields (#[]++more)}:=hok' b _ z2;have e1:=(hT b hbt).1;rw[e] at e1;cases e1;exact .inr (.inl ⟨(hT b hbt).2.2,rfl,#[],more,rfl,e2⟩)
    exact⟨rfl,⟨at',fun b o e=>un.there b o e (by simp)⟩,os,bare⟩
 cases hk:K.lookup a with
 |some o=>
  have e:=KX a o hk;rw[ha] at e
  cases e;refine core (fun b=>if b∈ts then some (.tbl #[]) else none) ⟨fun b=>?_,fun b hb'=>if_pos hb'⟩ (.inr ⟨_,vs.toArray,_,hk,rfl,rfl,rfl,by rw[kt,lenV];exact hl,by simpa using rv⟩) (fun b u z=>?_) (fun b z=>?_) fun z=>absurd (if_neg naT) z
  ·by_cases hbt:b∈ts
   ·exact .inr (.inr ⟨hbt,if_pos hbt⟩)
   ·exact .inl (if_neg hbt)
  ·by_cases hbt:b∈ts
   ·have z':=(if_pos hbt).symm.trans z
    cases z';exact(hT b hbt).1
   ·have z':=(if_neg hbt).symm.trans z
    cases z'
  ·by_cases hbt:b∈ts
   ·exact .inr hbt
   ·exact absurd (if_neg hbt) z
 |none=>
  refine core (fun b=>if b=a then some (.frz {cls:=.type "list",data:=.seq vs.toArray} (.lst (ns.map V.int))) else if b∈ts then some (.tbl #[]) else none) ⟨fun b=>?_,fun b hb'=>?_⟩ (.inl (.inr ⟨{cls:=.type "list",data:=.seq vs.toArray},if_pos rfl⟩)) (fun b u z=>?_) (fun b z=>?_) fun _=>hk
  ·by_cases hb:b=a
   ·exact .inr (.inl ⟨_,_,if_pos hb⟩)
   ·by_cases hbt:b∈ts
    ·exact .inr (.inr ⟨hbt,(if_neg hb).trans (if_pos hbt)⟩)
    ·exact .inl ((if_neg hb).trans (if_neg hbt))
  ·have hb:¬b=a:=fun z=>naT (z▸hb');exact(if_neg hb).trans (if_pos hb')
  ·by_cases hb:b=a
   ·have z':=(if_pos hb).symm.trans z
    cases z';subst hb;exact⟨ha,by rw[kP];exact hl,vs,_,rv,ha⟩
   ·by_cases hbt:b∈ts
    ·have z':=((if_neg hb).trans (if_pos hbt)).symm.trans z
     cases z';exact(hT b hbt).1
    ·have z':=((if_neg hb).trans (if_neg hbt)).symm.trans z
     cases z'
  ·by_cases hb:b=a
   ·exact .inl hb
   ·by_cases hbt:b∈ts
    ·exact .inr hbt
    ·exact absurd ((if_neg hb).trans (if_neg hbt)) z
theorem walk_ofT{l:BQ}{n k:Nat}{q:ko}{loose:List Str}{XP:(Str->Option kB)->Heap->Prop}{YP:pN->Heap->Prop}{d:DefRec}{K:Params->kJ}{CX:pN->CXT}{sp:pN->List Addr->Sp}{x:Str}{ds:List Str}
  (hn:l.most=some n)(hn2:n<=sizeLine)(hdf:d.params.defaults=[])(hr:Room k CC)
  (hY:∀(w:pN)(h:Heap),YP w h->(K w.params).In h)
  (hD:∀y,y∈ds->∃e,(recsOf q).find? (fun e=>e.name==y)=some e)
  (F:∀(w:pN)(mg:Str->Option kB)(fa:Addr)(h:Heap),(K w.params).In h->h.Ns kR mg->mg d.name=some (.ref fa)->
   ∃(fd:UU)(ts:List Addr),(∀b,b∈ts->(K w.params).lookup b=none/\∃y c,y∈ds/\vz (K w.params) y=some (c,b))/\(∀(s:kC)(u:kB),Ch s fd ⟨[u],[]⟩ [(x,u)])/\
    ∀base:Heap,(K w.params).In base->base.Ns kR mg->(∀b,b∈ts->base.BuiltinsAt mg b)->FnOk l.prog w (K w.params) mg base (CX w) k fa fd [x] (sp w ts))
  (hsp:∀(w:pN)(H:Hp)(a:Addr)(ns:List Int)(ts:List Addr),ns.length<=n->OnlyT ts H->SqL (K w.params) H a (ns.map V.int)->sp w ts [.ref a] H (fun v _=>v=.bl true) fun _ _ _=>False)
  (hCX:∀(w:pN)(H:Hp)(s:kC)(e:kB)(s':kC),CX w [] H s (fun _ _ _=>False) e s'->False):
  EI q loose XP YP l.row.toRowW d [] (fun f vs=>Dw f vs):=by
 refine Att.attach_call hn hdf fun w s₀ s₁ mg mb fa o pm cd doc a vs ns G Y ho hd hcd hmg hobj hints hlen hg=>?_;have KX:=hY w _ Y;obtain⟨fd,ts,ht,hb,hF⟩:=F w mg fa _ KX G.T.g hmg;refine zry (ts:=ts) KX G.T.g G.T.b G.T.builtins G.T.nolimit hg hobj hints (pP hlen hn2) hr (fun b hb'=>?_) G.T.bmain hF hb (fun H hO hS=>hsp w H a ns ts hlen hO hS) fun H e s'=>hCX w H s₁ e s';obtain⟨hk,y,c,hy,e⟩:=ht b hb';obtain⟨r,hr'⟩:=hD y hy;obtain⟨C,hP⟩:=PySem.W.tab_of G.T KX hr' e;exact⟨hP,hk,(C.tab hP).isCodeTable⟩
open PySem.W (kla_fn kla_obj envX tabObj CodeHd)
structure zh7(x y:Str)(sc:Scope):Prop where
 kind:sc.kind=.function
 co:sc.isCoroutine=false
 gen:sc.isGenerator=false
 par:sc.names.lookup x=some .local
 cap:sc.names.lookup y=some .free
 nocell:∀z,z∈sc.names->z.2≠.cell
 free:∀z,z∈sc.names->z.2=.free->z.1=y
def zpz(P:ko)(w:pN)(K:kJ)(mg:Str->Option kB)(base:Heap)(x y:Str)(qual:Str)(sc:Scope)(f:Addr)(cd:kB)(c:Addr)(A:pO)(outer:List Env)(s:kC)(H:Hp):Cx where
 prog:=P
 w:=w
 K:=K
 mg:=mg
 base:=base
 A:=A.deeper (envX qual sc s.heap.objs.size f cd [(y,c)])
 N:=[x,y]
 s₀:=s
 H₀:=H
 env:=envX qual sc s.heap.objs.size f cd [(y,c)]
 outer:=outer
 stack:=envX qual sc s.heap.objs.size f cd [(y,c)]::outer
 ex:=[]
 calm:=true
 fn:=fun _=>false
 pn:=[]
 xe:=fun _ _=>False
theorem zf6{y z:Str}{c d:Addr}(h:([(y,c)]:List (Str×Addr)).lookup z=some d):z=y/\d=c:=by
 rw[uH] at h
 by_cases e:z=y
 ·subst e;rw[beq_self_eq_true] at h
  cases h;exact⟨rfl,rfl⟩
 ·rw[beq_eq_false_iff_ne.mpr e] at h
  cases h
theorem zhr(y:Str)(c:Addr):([(y,c)]:List (Str×Addr)).lookup y=some c:=by rw[uH,beq_self_eq_true]
theorem inv_lam{P:ko}{w:pN}{K:kJ}{mg:Str->Option kB}{base:Heap}{x y qual:Str}{sc:Scope}{f c:Addr}{cd:kB}{A:pO}{outer:List Env}{s:kC}{H:Hp}{u uy:kB}{v vy:V}{h₁:Heap}{tk:Nat}
  (S:zh7 x y sc)(hd:A.handled=none)(e0:Env0 P w K mg base A outer s H)(ru:RelV v u)(ry:RelV vy uy)(hc:s.heap.IsCell c (some uy))(hcn:H c=none)
  (hns:h₁.Ns s.heap.objs.size (fun z=>([(x,u)]:List (Str×kB)).reverse.lookup z))(hk:∀b o,s.heap.get? b=some o->h₁.get? b=some o):
  Inv (zpz P w K mg base x y qual sc f cd c A outer s H) [] [some v,some vy] H {s with heap:=h₁,toks:=tk}:=by
 have noA:∀b:Addr,b∉(zpz P w K mg base x y qual sc f cd c A outer s H).ex:=fun b z=>absurd (show b∈([]:List Addr) from z) (by simp)
 refine⟨⟨e0.mod,S.kind,rfl,rfl,kM _,fun y1 z1 d h1 h2=>?_,fun z hz=>?_,fun z d hf _=>?_,fun _=>hd,gE e0.frames,.inr ⟨rfl,rfl⟩,fun b z=>absurd z (noA b),e0.bs,e0.bsz,fun b _ _=>noA b,fun b z=>absurd z (noA b),e0.funs,e0.frf⟩,
  rfl,e0.bare,Un.kept hk,⟨_,hns,fun i z v' h1 h2 h3=>?_⟩,fun z d h=>?_,e0.hok.fresh (kM _),fun z d h=>?_,fun p hp=>absurd (show p∈([]:List (Addr×Obj)) from hp) (by simp),e0.hok.kept hk,rfl⟩
 ·exact(zf6 h1).1.trans (zf6 h2).1.symm
 ·have hz:sc.names.lookup z=some .cell∨sc.names.lookup z=some .free:=hz;rcases hz with hz|hz
  ·exact absurd rfl (S.nocell _ (uE hz))
  ·have e:=S.free _ (uE hz) rfl;have e:z=y:=e;subst e;exact⟨c,zhr _ _⟩
 ·cases hf
 ·match i,h1,h2 with
  |0,h1,h2=>
   cases h1
   cases h2;refine⟨u,ru,.inl ⟨S.par,?_⟩⟩;show([(x,u)]:List (Str×kB)).reverse.lookup x=some u
   simp
  |1,h1,h2=>
   cases h1
   cases h2;obtain⟨o,ho,hd'⟩:=hc;exact⟨uy,ry,.inr ⟨.inr S.cap,c,zhr _ _,o,hk _ _ ho,hd'⟩⟩
 ·obtain⟨_,rfl⟩:=zf6 h;obtain⟨o,ho,hd'⟩:=hc;exact⟨_,o,hk _ _ ho,hd'⟩
 ·obtain⟨_,rfl⟩:=zf6 h;exact hcn
section
variable{X:Cx}{pins:List (Addr×Obj)}{σ:St}{H:Hp}{s:kC}
theorem lam_run{A:pO}{k:Nat}{x y name qual:Str}{params:jS}{body:Expr}{sc:Scope}{fa c c':Addr}{pm ctv u uy:kB}{v vy:V}{te:TE}{Q:VK}(I:Inv X pins σ H s)
  (e0:Env0 X.prog X.w X.K X.mg X.base A X.stack s H)(hr:Room k A)(S:zh7 x y sc)(ho:s.heap.get? fa=some (kla_obj name qual params body sc [(y,c)] pm c' ctv))(hcd:s.heap.CodeRec (.ref c') qual)
  (hb:gq (kla_fn name qual params body sc [(y,c)] pm (.ref c') ctv) ⟨[u],[]⟩=pure [(x,u)])(ru:RelV v u)(ry:RelV vy uy)(hc:s.heap.IsCell c (some uy))(hcn:H c=none)
  (hbody:PE (zpz X.prog X.w X.K X.mg X.base x y qual sc fa (.ref c') c A X.stack s H) body te)(q:te [some v,some vy] H Q):
  wpAny (model X.prog X.w) A (call (.ref fa) [u]) (EP X pins σ Q) (fun _ _=>False) s:=by
 refine Dt (jd (R:=CR CX0 X.stack X.prog X.w H s Q E0) ?_ fun r s' hq=>?_)
 ·refine Bo hr.depth ho rfl S.co S.gen rfl hcd ?_;rw[hb];refine kL (gG S.nocell (fun z hz=>?_) (fun h₁ hns hsb=>⟨I.nolimit.fresh _ hsb,?_⟩) S.kind)
  ·rw[kf] at hz;rw[hz];exact S.par
  ·show jH _ _ (.expr body (envX qual sc s.heap.objs.size fa (.ref c') [(y,c)])) _ _
   have kp:∀d u,s.heap.get? d=some u->h₁.get? d=some u:=fun d u z=>hsb.extBut d u (pL (ki z)) (kI _ z);have J:=inv_lam (tk:=s.toks+1) (f:=fa) (qual:=qual) (cd:=.ref c') S hr.hd e0 ru ry hc hcn hns kp;refine Bp (uS (hbody [] _ _ H Q J q) (fun r s' hs=>?_) fun e s' hs=>hs.elim);obtain⟨v',H',J',r',q'⟩:=hs;exact⟨v',H',J'.os,J'.bare,J'.base,J'.hok,r',q'⟩
 ·cases r with
  |error e=>exact hq.elim
  |ok fl=>
   cases fl with
   |ret u=>exact I.after hq
   |next=>exact uz hq
   |brk=>exact uz hq
   |cont=>exact uz hq
end
open PySem.W (kla_fn kla_obj envX tabObj CodeHd)
def zh0(c:Addr)(q:Str):HO:=.ext fun h=>h.CodeRec (.ref c) q
def zah(H:Hp)(P:Addr)(pos:Pos)(q:Str):Prop:=∃ps,H P=some (.tbl ps)/\TriplesOk ps.toList/\(codeAmong pos ps.toList=none∨∃c,codeAmong pos ps.toList=some (.ref c)/\H c=some (zh0 c q))
def zdc(P:Addr)(H H':Hp):Prop:=∀b o,b≠P->H b=some o->H' b=some o
theorem zdc.refl(P:Addr)(H:Hp):zdc P H H:=fun _ _ _ h=>h
theorem zah.same{H H':Hp}{P:Addr}{pos:Pos}{q:Str}(h:zah H P pos q)(g:Same H H'):zah H' P pos q:=by
 obtain⟨ps,e,t,z⟩:=h;refine⟨ps,g _ _ e,t,?_⟩;rcases z with z|⟨c,z,y⟩
 ·exact .inl z
 ·exact .inr ⟨c,z,g _ _ y⟩
section
variable{X:Cx}{pins:List (Addr×Obj)}{σ:St}{H:Hp}{s:kC}
theorem zms{params:jS}{body:Expr}{sc:Scope}{pos:Pos}{c0 P:Addr}{clos:List (Str×Addr)}{Q:kB->kC->Prop}(I:Inv X pins σ H s)(hcode:X.env.code=.ref c0)(C:CodeHd X.base c0 P)(hB:X.base.BuiltinsAt X.mg P)
  (hcl:BF sc X.env=pure clos)(hdef:Dx params X.env=([],[]))(ht:zah H P pos (X.env.qual++"<lambda>"))
  (q:∀(fa c':Addr)(ctv:kB)(H':Hp)(s':kC),Inv X pins σ H' s'->zdc P H H'->zah H' P pos (X.env.qual++"<lambda>")->s'.heap.get? fa=some (kla_obj "<lambda>" (X.env.qual++"<lambda>") params body sc clos ((X.mg "__name__").getD .none) c' ctv)->
   H' c'=some (zh0 c' (X.env.qual++"<lambda>"))->FpOk X pins H' fa->Q (.ref fa) s'):
  wpAny (model X.prog X.w) X.A (eval (.Lambda params body sc pos) X.env) Q X.xe s:=by
 obtain⟨ps,hP,tr,alt⟩:=ht;have hPh:s.heap.get? P=some (tabObj ps):=I.hok P _ hP;have kb:=I.bk;have hg:s.heap.Ns kR X.mg:=I.ok.mod.glob.keeps kb;have Cs:=C.keeps kb;have Bs:s.heap.BuiltinsAt X.mg P:=by
  obtain⟨bm,o,b1,b2,b3,b4,b5,b6⟩:=hB;exact⟨bm,o,b1,b2,b3,b4,kb _ _ b5,b6⟩
 have neG:kR≠P:=fun z=>by
  obtain⟨o,es,ep,e,hd,_⟩:=hg;rw[z,hPh] at e;cases e;cases hd
 refine PySem.W.kla_eval hdef ?_;rcases alt with hn|⟨c',hf,hc'⟩
 ·refine PySem.W.kla_makeFunction hcl I.ok.glob hg hcode Cs hPh tr hn neG Bs fun c' ctv h' tk hx hge hlt hrec htb=>?_;have neC:∀b u,H b=some u->b≠c':=fun b u e z=>by
   rw[z,I.hok.fresh hge] at e;cases e
  have nP:∀b,H b=none->b≠P:=fun b n z=>by rw[z,hP] at n;cases n
  have cP:c'≠P:=fun z=>by rw[←z,I.hok.fresh hge] at hP;cases hP
  have keep:∀b o,b≠P->s.heap.get? b=some o->(h'.push (kla_obj "<lambda>" (X.env.qual++"<lambda>") params body sc clos ((X.mg "__name__").getD .none) c' ctv)).get? b=some o:=fun b o n e=>kI _ (hx b o n e);have hP':=kI (kla_obj "<lambda>" (X.env.qual++"<lambda>") params body sc clos ((X.mg "__name__").getD .none) c' ctv) htb;have upP:∀b u,b≠P->H b=some u->upd (upd H P (.tbl (ps++#[UR pos.line,UR pos.col,.ref c']))) c' (zh0 c' (X.env.qual++"<lambda>")) b=some u:=fun b u n e=>by rw[za8 (neC b u e),za8 n];exact e
  have up0:upd (upd H P (.tbl (ps++#[UR pos.line,UR pos.col,.ref c']))) c' (zh0 c' (X.env.qual++"<lambda>")) P=some (.tbl (ps++#[UR pos.line,UR pos.col,.ref c'])):=by rw[za8 cP.symm,upd_same]
  have J:Inv X pins σ (upd (upd H P (.tbl (ps++#[UR pos.line,UR pos.col,.ref c']))) c' (zh0 c' (X.env.qual++"<lambda>"))) {s with heap:=h'.push (kla_obj "<lambda>" (X.env.qual++"<lambda>") params body sc clos ((X.mg "__name__").getD .none) c' ctv),toks:=tk}:=by
   refine I.step (g':=s.gens) (d':=s.drawn) (ch:=[]) (fun _ z=>nomatch z) (fun b o _ _ _ e n=>keep b o (nP b n) e) (fun b o _ _ _ e n=>⟨o.slots,keep b o (nP b n) e⟩) (fun b o _ e n=>?_) (fun b o _ e=>?_) (fun b xs e=>?_) (fun b o u e=>?_) (fun b qs e=>?_) (fun m hm=>?_) (fun b u e=>?_) I.bare
   ·rw[za8 (pL (ku (ki e) hge)),za8 (nP b n)];exact n
   ·by_cases z:b=P
    ·exact⟨_,z▸hP'⟩
    ·exact⟨o,keep b o z e⟩
   ·exact upP b _ (fun z=>by rw[z,hP] at e;cases e) e
   ·exact upP b _ (fun z=>by rw[z,hP] at e;cases e) e
   ·by_cases z:b=P
    ·subst z;rw[hP] at e
     cases e;exact⟨_,up0⟩
    ·exact⟨#[],by rw[upP b _ z e];simp⟩
   ·obtain⟨o,es,ep,ho,r⟩:=hm;exact⟨o,es,ep,keep _ o (nP _ I.free) ho,r⟩
   ·by_cases z:b=c'
    ·subst z;rw[upd_same] at e
     cases e;have hr2:=hrec.push (kla_obj "<lambda>" (X.env.qual++"<lambda>") params body sc clos ((X.mg "__name__").getD .none) b ctv);obtain⟨c2,oc,vs,t,e2,hoc,hd,hv⟩:=id hr2
     cases e2;refine⟨hr2,⟨oc,hoc⟩,fun h1 h2 ph k=>?_⟩;obtain⟨c3,oc3,vs3,t3,e3,hoc3,hd3,hv3⟩:=ph
     cases e3;exact⟨_,oc3,vs3,t3,rfl,k _ hoc3,hd3,hv3⟩
    ·rw[za8 z] at e
     by_cases y:b=P
     ·subst y;rw[upd_same] at e
      cases e;exact hP'
     ·rw[za8 y] at e;refine(I.hok b u e).stay (fun d v hd hv=>keep d v ?_ hv) (fun d hd=>?_) fun d xs hd=>?_
      ·rcases hd with rfl|hd
       ·exact y
       ·intro z';rw[z',hP] at hd;cases hd
      ·exact upP d _ (fun z'=>by rw[z',hP] at hd;cases hd) hd
      ·exact upP d _ (fun z'=>by rw[z',hP] at hd;cases hd) hd
  refine q h'.objs.size c' ctv _ _ J (fun b o n e=>upP b o n e) ⟨_,up0,?_,.inr ⟨c',?_,upd_same⟩⟩ (kh _ rfl) upd_same ?_
  ·rw[kq];exact TriplesOk_snoc _ _ _ _ tr
  ·rw[kq];exact codeAmong_snoc _ tr hn
  ·have hsz:s.heap.objs.size<=h'.objs.size:=pP hge (ud hlt);have nf:upd (upd H P (.tbl (ps++#[UR pos.line,UR pos.col,.ref c']))) c' (zh0 c' (X.env.qual++"<lambda>")) h'.objs.size=none:=by
    rw[za8 (jZ hlt),za8]
    ·exact I.hok.fresh hsz
    ·intro z;rw[←z,I.hok.fresh hsz] at hP
     cases hP
   exact I.fpOk hsz nf
 ·have hrec:s.heap.CodeRec (.ref c') (X.env.qual++"<lambda>"):=(I.hok c' _ hc').1;refine PySem.W.kla_makeFunctionHit hcl I.ok.glob hg hcode Cs hPh tr hf Bs fun ctv h' tk hk hsz=>?_;have J:Inv X pins σ H {s with heap:=h'.push {cls:=.type "function",data:=.func (kla_fn "<lambda>" (X.env.qual++"<lambda>") params body sc clos ((X.mg "__name__").getD .none) (.ref c') ctv)},toks:=tk}:=I.kept fun b o e=>kI _ (hk b o e);exact q h'.objs.size c' ctv H _ J (.refl P H) ⟨ps,hP,tr,.inr ⟨c',hf,hc'⟩⟩ (kh _ rfl) hc' (I.fpOk hsz (I.hok.fresh hsz))
end
open PySem.W (KasT kas_sort kas_ask kas_item)
section
variable{prog:ko}{w:pN}{A:pO}{E:kB->kC->Prop}{s:kC}{vs ks:List kB}{g:Heap}{a kS:Addr}{e e1:Nat}{f:kB}
def KeyFin(prog:ko)(w:pN)(A:pO)(a kS:Addr)(e1:Nat)(vs ks:List kB)(P:UQ->kC->Prop)(s:kC):Prop:=
 s.heap.get? a=some (kz "list" #[] e1)/\∃(κ:QJ)(ans:Nat->Nat->Bool),
  (2<=vs.length->∀Q':QJ->kC->Prop,Q' κ s->wpAny (model prog w) A (Co ks.toArray) Q' (fun _ _=>False) s)/\
  (2<=vs.length->∀i j C,i<vs.length->j<vs.length->C (ans i j) s->kas_ask prog w A κ ks i j C s)/\
  ∀p:Array Nat,Ord vs.length p->(2<=vs.length->p=ansT ans (kas_sort vs.length))->P (.done (.ret .none)) {s with heap:=(s.heap.update kS (kx fun _=>(#[]:Array kB))).update a (kx fun _=>ur (p.toList.map fun i=>vs.getD i pe))}
theorem zir{st:uO}{p:Array Nat}{P:UQ->kC->Prop}(hs:(arrOf st).map (·.2)=ur (p.toList.map fun i=>vs.getD i pe))(hf:jA st=none)(hz:p.size=vs.length)(h64:vs.length<64)(hkl:ks.length<64)(nak:a≠kS)
  (hk:s.heap.get? kS=some (kz "list" ks.toArray e))(ha:s.heap.get? a=some (kz "list" #[] e1))
  (q:P (.done (.ret .none)) {s with heap:=(s.heap.update kS (kx fun _=>(#[]:Array kB))).update a (kx fun _=>ur (p.toList.map fun i=>vs.getD i pe))}):
  wpAny (model prog w) A (Dy a false e1 (.ref kS) st) P E s:=by
 have ha2:(s.heap.update kS (kx fun _=>(#[]:Array kB))).get? a=some (kz "list" #[] e1):=by rw[pg _ _ _ _ nak];exact ha
 have hsz:(ur (p.toList.map fun i=>vs.getD i pe)).size=vs.length:=by simp[hz]
 unfold Dy;dsimp only;rw[hs];refine kA (Uu hk rfl ?_ (by rw[kt,AV];omega) (pG _))
 refine kA (vI ?_);refine kA (Bq ha2 rfl ?_);refine kA (Uu ha2 rfl ?_ (pG _) (by simp only[pJ,if_false];rw[hsz,AV];omega))
 rw[hf];simp only[bne_self_eq_false,pJ,if_false];exact kL q
theorem zq0{P:UQ->kC->Prop}(hl:ks.length=vs.length)(h64:vs.length<64)(nak:a≠kS)(hk:s.heap.get? kS=some (kz "list" ks.toArray e))(h:KeyFin prog w A a kS e1 vs ks P s):
  wpAny (model prog w) A (EU a false vs.toArray e1 (.ref kS) ks.toArray) P E s:=by
 obtain⟨ha,κ,ans,hkind,hask,q⟩:=h;have z0:vs.toArray.size=vs.length:=rfl;unfold EU;dsimp only;simp only[pJ,if_false]
 by_cases h2:vs.length<2
 ·rw[z0,if_pos h2,if_pos h2,EQ];rw[Dd];refine kA (kL ?_);refine zir (p:=ur (QL vs.length)) ?_ rfl (by simp) h64 (by omega) nak hk ha (q _ (by unfold Ord;simp) fun z=>absurd h2 (Nat.not_lt.mpr z))
  show(ks.toArray.zip vs.toArray).map (·.2)=_
  rw[show(ur (QL vs.length)).toList=QL vs.length from rfl,znx]
  apply hV.mp
  simp[List.map_snd_zip,hl]
 ·have h2':2<=vs.length:=by omega
  rw[z0,if_neg h2,if_neg h2];refine kA (uS (hkind h2' (fun κ' s'=>κ'=κ/\s'=s) ⟨rfl,rfl⟩) (fun κ' s' hs=>?_) fun _ _ z=>z.elim);obtain⟨rfl,rfl⟩:=hs;have run:=Asks.wp (R:=Ord vs.length) (Q:=fun p s''=>s''=s'/\Ord vs.length p/\p=ansT ans (kas_sort vs.length)) (fun i j C hi hj=>hask h2' i j C hi hj) (zkf (by omega)) ⟨rfl,Asks.ends (zkf (by omega)),rfl⟩
  refine kA (uS (PySem.W.kat_run (E:=E) (ks:=ks) (vs:=vs) (Q:=fun st s''=>∃p:Array Nat,p.size=vs.length/\arrOf st=p.map (kas_item (ks.toArray.zip vs.toArray))/\jA st=none/\s''=s'/\Ord vs.length p/\p=ansT ans (kas_sort vs.length)) hl h2' h64 (fun p st s'' b1 b2 b3 b4=>⟨p,b1,b2,b3,b4⟩) run) ?_ fun _ _ z=>z);rintro⟨⟨⟩,st⟩ s'' ⟨p,hp,har,hf,rfl,or,ep⟩;exact zir (PySem.W.kat_snds hl har) hf hp h64 (by omega) nak hk ha (q p or fun _=>ep)
structure zn9(prog:ko)(w:pN)(A:pO)(a kS:Addr)(e1:Nat)(f:kB)(vs:List kB)(P:UQ->kC->Prop)(J:Nat->List kB->Nat->kC->Prop):Prop where
 store:∀i ks e s,J i ks e s->s.heap.get? kS=some (kz "list" ks.toArray e)/\ks.length=i
 turn:∀i x ks e s,vs[i]?=some x->J i ks e s->wpAny (model prog w) A (call f [x]) (fun k s'=>s'.heap.get? kS=some (kz "list" ks.toArray e)/\
  ∀c,(s'.heap.update kS (kx (·.push k))).get? kS=some (kz "list" (ks++[k]).toArray c)->J (i+1) (ks++[k]) c {s' with heap:=s'.heap.update kS (kx (·.push k))}) (fun _ _=>False) s
 fin:∀ks e s,J vs.length ks e s->KeyFin prog w A a kS e1 vs ks P s
theorem ziw{P:UQ->kC->Prop}{J:Nat->List kB->Nat->kC->Prop}{body:kB->PUnit->Sem (ForInStep PUnit)}(R:zn9 prog w A a kS e1 f vs P J)
  (hb:∀i x ks e(s:kC),vs[i]?=some x->J i ks e s->wpAny (model prog w) A (body x ⟨⟩) (fun r s'=>r=.yield ⟨⟩/\∃k c,J (i+1) (ks++[k]) c s') E s):
  ∀(r:List kB)(i:Nat)(ks:List kB)(e:Nat)(s:kC),i<=vs.length->vs.drop i=r->J i ks e s->wpAny (model prog w) A (forIn r Er body) (fun _ s'=>∃ks e,J vs.length ks e s') E s
 |[],i,ks,e,s,hi,hr,h=>by
  rw[gv];have e0:i=vs.length:=BU hi (gH.mp hr);subst e0;exact kL ⟨ks,e,h⟩
 |x::r,i,ks,e,s,hi,hr,h=>by
  rw[jI];have hx:vs[i]?=some x:=by
   have z:=congrArg (fun l=>l[0]?) hr
   simpa[AB] using z
  have hr2:vs.drop (i+1)=r:=by
   have z:=congrArg (List.drop 1) hr
   simpa[UL,EV] using z
  refine kA (uS (hb i x ks e s hx h) (fun q s' hq=>?_) fun _ _ z=>z);obtain⟨rfl,k,c,h2⟩:=hq;exact ziw R hb r (i+1) (ks++[k]) c s' (kF.mp hx).1 hr2 h2
theorem zoh{P:UQ->kC->Prop}{J:Nat->List kB->Nat->kC->Prop}(R:zn9 prog w A a kS e1 f vs P J)(h64:vs.length<64)(nak:a≠kS)(h0:J 0 [] 0 s):
  wpAny (model prog w) A (Dz a f false vs.toArray e1 (.ref kS)) P E s:=by
 unfold Dz;refine kA (QM ?_);rw[CU];refine kA (uS (ziw R (fun i x ks e s' hx hJ=>?_) vs 0 [] 0 s (pG _) vk h0) (fun _ s' hd=>?_) fun _ _ z=>z)
 ·have hi:=(kF.mp hx).1;have hl:=(R.store i ks e s' hJ).2;refine kA (vY (uS (R.turn i x ks e s' hx hJ) (fun k s'' hk=>?_) fun _ _ hF=>hF.elim));obtain⟨hk1,hk2⟩:=hk;have pk:(ur ks).push k=ur (ks++[k]):=by rw[Cp]
  obtain⟨c2,hc2⟩:∃c2,(s''.heap.update kS (kx (·.push k))).get? kS=some (kz "list" (ur (ks++[k])) c2):=⟨_,by rw[←pk];exact US hk1 (·.push k)⟩
  try dsimp only
  refine kA (Uu hk1 rfl ?_ (by rw[kt,AV];omega) (pP (UF (De ..)) (by rw[kt,AV];omega)))
  exact kL ⟨rfl,k,c2,hk2 c2 hc2⟩
 ·obtain⟨ks,e,hJ⟩:=hd;obtain⟨hk,hl⟩:=R.store _ _ _ _ hJ
  try dsimp only
  refine kA (QQ hk rfl ?_);exact zq0 hl h64 nak hk (R.fin ks e s' hJ)
theorem zol{n:Nat}{P:UQ->kC->Prop}(hg:Keeps g s.heap)(ga:g.objs.size<=a)(ho:s.heap.get? a=some (kz "list" vs.toArray n))(h64:vs.length<64)
  (h:∀kS e1 h',Keeps g h'->a<kS->h'.get? a=some (kz "list" #[] e1)->h'.get? kS=some (kz "list" #[] 0)->∃J,zn9 prog w A a kS e1 f vs P J/\J 0 [] 0 {s with heap:=h'}):
  wpAny (model prog w) A (EA a f false) P E s:=by
 have zl:vs.length<=sizeLine:=pP (ud h64) (by decide)
 have k1:Keeps g (s.heap.update a (kx fun _=>(#[]:Array kB))):=hg.upd ga;obtain⟨c1,o1⟩:∃c1,(s.heap.update a (kx fun _=>(#[]:Array kB))).get? a=some (kz "list" #[] c1):=⟨_,US ho _⟩;have k3:=(k1.push (kz "tuple" vs.toArray 0)).push (kz "list" #[] 0);have o3:=kI (kz "list" #[] 0) (kI (kz "tuple" vs.toArray 0) o1);have lt:a<((s.heap.update a (kx fun _=>(#[]:Array kB))).push (kz "tuple" vs.toArray 0)).objs.size:=ki (kI _ o1);obtain⟨J,R,h0⟩:=h _ c1 _ k3 lt o3 (kh _ rfl);unfold EA;refine kA (QQ ho rfl (kA (Uu ho rfl (kA (Bq o1 rfl (kA (Bm (kA (jB (UG ?_) (pG _))) zl)))) zl (pG _))));exact zoh (s:={s with heap:=((s.heap.update a (kx fun _=>(#[]:Array kB))).push (kz "tuple" vs.toArray 0)).push (kz "list" #[] 0)}) R h64 (pL lt) h0
end
open PySem.W (kla_fn kla_obj envX tabObj CodeHd KasT kas_sort kas_ask)
def ltK(a b:Int×Int):Bool:=if a.1=b.1 then(if a.2=b.2 then false else decide (a.2<b.2)) else decide (a.1<b.1)
section
variable{prog:ko}{w:pN}{A:pO}{E:kB->kC->Prop}{s:kC}{C:Bool->kC->Prop}
theorem eq_ii{a b:Int}{t u:Tok}(hu:A.units+64<cLine)(q:C (decide (a=b)) s):wpAny (model prog w) A (eqBool (.int a t) (.int b u)) C E s:=by
 refine AA prog w A E s _ _ (.int a) (.int b) _ _ C (.int a t) (.int b u) rfl rfl ?_ ?_
 ·have:Qw (.int a)<=1:=by simp[Qw]
  have:=BP (Qw (.int a)) (Qw (.int b));omega
 ·simp only[Qu]
  by_cases h:a=b
  ·rw[decide_eq_true h] at q
   simpa[h] using q
  ·rw[decide_eq_false h] at q;have:(a==b)=false:=beq_eq_false_iff_ne.mpr h;rw[this];exact q
theorem lt_pairI{x y:kB}{a b:Int×Int}(hx:TupI s.heap x [a.1,a.2])(hy:TupI s.heap y [b.1,b.2])(hu:A.units+64<cLine)(q:C (ltK a b) s):wpAny (model prog w) A (keyLt' (tuples' true) x y) C E s:=by
 obtain⟨p,its,n,dd,sl,rfl,o,i⟩:=hx;obtain⟨p',its',n',dd',sl',rfl,o',i'⟩:=hy;obtain⟨u1,u2,e,t1,t2⟩:∃u1 u2,its.toList=[u1,u2]/\(∃t,u1=.int a.1 t)/\∃t,u2=.int a.2 t:=by
  revert i
  generalize its.toList=l;intro i
  cases i with
  |cons k t r=>
   cases r with
   |cons k2 t2 r2=>
    cases r2;exact⟨_,_,rfl,⟨_,rfl⟩,⟨_,rfl⟩⟩
 obtain⟨u1',u2',e',t1',t2'⟩:∃u1 u2,its'.toList=[u1,u2]/\(∃t,u1=.int b.1 t)/\∃t,u2=.int b.2 t:=by
  revert i'
  generalize its'.toList=l;intro i
  cases i with
  |cons k t r=>
   cases r with
   |cons k2 t2 r2=>
    cases r2;exact⟨_,_,rfl,⟨_,rfl⟩,⟨_,rfl⟩⟩
 obtain⟨t1,rfl⟩:=t1;obtain⟨t2,rfl⟩:=t2;obtain⟨t1',rfl⟩:=t1';obtain⟨t2',rfl⟩:=t2';have z:its.size=2:=by rw[←kT,e];rfl
 have z':its'.size=2:=by rw[←kT,e'];rfl
 refine PySem.W.kat_lt o rfl o' rfl ?_;rw[e,e',z,z',decide_eq_false (by omega)]
 unfold ltK at q;refine DN (eq_ii hu ?_)
 by_cases c:a.1=b.1
 ·rw[if_pos c] at q;rw[decide_eq_true c];refine Df (DN (eq_ii hu ?_))
  by_cases c2:a.2=b.2
  ·rw[if_pos c2] at q;rw[decide_eq_true c2];exact Df (PySem.W.kat_nil q)
  ·rw[if_neg c2] at q;rw[decide_eq_false c2];exact EB (PySem.W.kat_one _ _ (CF q))
 ·rw[if_neg c] at q;rw[decide_eq_false c];exact EB (oneLt_int q)
end
open PySem.W (KatTups) in
theorem ktupsI{h:Heap}:∀vs:List kB,(∀v,v∈vs->∃a:Int×Int,TupI h v [a.1,a.2])->∃fs,fs.length=vs.length/\KatTups h vs fs/\∀f,f∈fs->∃n t,f=.int n t
 |[],_=>⟨[],rfl,.nil,fun f hf=>by cases hf⟩
 |v::vs,hv=>by
  obtain⟨fs,l,t,r⟩:=ktupsI vs fun u hu=>hv u (pB _ hu);obtain⟨a,p,its,n,dd,sl,rfl,o,i⟩:=hv v (pD ..);obtain⟨u1,t1,e⟩:∃u1 t,its[0]?=some u1/\u1=.int a.1 t:=by
   rw[←pW]
   revert i
   generalize its.toList=l;intro i
   cases i with
   |cons k t r=>exact⟨_,t,rfl,rfl⟩
  refine⟨u1::fs,by simp[l],.cons o rfl rfl e.1 t,fun f hf=>?_⟩
  rcases kr.mp hf with rfl|hf
  ·exact⟨_,t1,e.2⟩
  ·exact r f hf
theorem zq1{M:Model}{A:pO}{E:kB->kC->Prop}{s:kC}{vs:List kB}{Q:QJ->kC->Prop}(hn:0<vs.length)(hv:∀v,v∈vs->∃a:Int×Int,TupI s.heap v [a.1,a.2])(q:Q (tuples' true) s):wpAny M A (Co vs.toArray) Q E s:=by
 obtain⟨fs,l,t,r⟩:=ktupsI vs hv;refine PySem.W.kat_kind (T:=.type "int") t (by omega) (fun f hf=>?_) (by decide) ?_
 ·obtain⟨n,t,rfl⟩:=r f hf;exact .now
 ·rw[show(Us "int"!=Us "tuple")=true from by decide]
  exact q
section
variable{X:Cx}{pins:List (Addr×Obj)}{σ:St}{H:Hp}{s:kC}
theorem Inv.track{D:Addr}{h':Heap}{xs:List V}{its:List kB}{n:Nat}{t':Nat}(I:Inv X pins σ H s)(hf:FpOk X pins H D)(k:∀b o,b≠D->s.heap.get? b=some o->h'.get? b=some o)
  (hz:xs.length<=sizeLine)(r:Vals xs its)(ho:h'.get? D=some {cls:=.type "list",data:=.seq its.toArray n}):Inv X pins σ (upd H D (.lst xs)) {s with heap:=h',toks:=t'}:=by
 obtain⟨f0,f1,f2,f3,f4,f5⟩:=hf;have nD:∀b u,H b=some u->b≠D:=fun b u e z=>by rw[z,f0] at e;cases e
 refine I.step (g':=s.gens) (d':=s.drawn) (ch:=[D]) (fun b hb=>?_) (fun b o _ _ hc e _=>k b o (fun z=>hc (by simp[z])) e) (fun b o _ _ hc e _=>⟨o.slots,k b o (fun z=>hc (by simp[z])) e⟩) (fun b o hc _ n=>by rw[za8 fun z=>hc (by simp[z])];exact n)
  (fun b o hc e=>⟨o,k b o (fun z=>hc (by simp[z])) e⟩) (fun b xs e=>by rw[za8 (nD b _ e)];exact e) (fun b o u e=>by rw[za8 (nD b _ e)];exact e) (fun b ps e=>⟨#[],by rw[za8 (nD b _ e),e];simp⟩) (fun m hm=>?_) (fun b u e=>?_) I.bare
 ·have e:b=D:=by simpa using hb
  subst e;exact⟨f3,f1,f4,f5⟩
 ·obtain⟨o,es,ep,ho,r⟩:=hm;exact⟨o,es,ep,k _ o f1.symm ho,r⟩
 ·by_cases z:b=D
  ·subst z;rw[upd_same] at e
   cases e;exact⟨hz,its,n,r,ho⟩
  ·rw[za8 z] at e;refine(I.hok b u e).stay (fun c v hc q=>k c v ?_ q) (fun c q=>by rw[za8 (nD c _ q)];exact q) fun c xs q=>by rw[za8 (nD c _ q)];exact q
   rcases hc with rfl|hc
   ·exact z
   ·exact nD c _ hc
theorem zpw{y:Str}{c:Addr}{i:Nat}{vy:V}(I:Inv X pins σ H s)(hN:X.N[i]?=some y)(hσ:σ[i]?=some (some vy))(hk:X.env.scope.names.lookup y=some .cell)(hc:X.env.cells.lookup y=some c):∃u,RelV vy u/\s.heap.IsCell c (some u):=by
 obtain⟨m,hn,hl⟩:=I.loc;obtain⟨u,r,l⟩:=hl i y vy hN hσ (.inr (.inl hk));refine⟨u,r,?_⟩;rcases l with⟨l,_⟩|⟨_,c',e,z⟩
 ·have l:X.env.scope.names.lookup y=some .local:=l;rw[hk] at l
  cases l
 ·rw[hc] at e
  cases e;exact z
end
open PySem.W (kla_fn kla_obj envX tabObj CodeHd KasT kas_sort kas_ask)
def KOk(H:Hp)(zs:List V)(kp:Nat->Int×Int):Prop:=∀i,i<zs.length->∃q,zs[i]?=some (.ref q)/\H q=some (.tup [.int (kp i).1,.int (kp i).2])
abbrev KPT:=Hp->List V->(Nat->Nat->Bool)->Prop
def zlj(X:Cx)(KP:KPT):Prop:=∀(pins:List (Addr×Obj))(σ:St)(H:Hp)(s:kC)(zs:List V)(ks:List kB)(ans:Nat->Nat->Bool),Inv X pins σ H s->Vals zs ks->KP H zs ans->∃κ:QJ,
 (2<=ks.length->∀Q':QJ->kC->Prop,Q' κ s->wpAny (model X.prog X.w) X.A.in1.in1 (Co ks.toArray) Q' (fun _ _=>False) s)/\(2<=ks.length->∀i j C,i<ks.length->j<ks.length->C (ans i j) s->kas_ask X.prog X.w X.A.in1.in1 κ ks i j C s)
def KPp:KPT:=fun H zs ans=>∃kp,KOk H zs kp/\ans=fun i j=>ltK (kp i) (kp j)
section
variable{X:Cx}{pins:List (Addr×Obj)}{σ:St}{H:Hp}{s:kC}
theorem vals_get?{xs:List V}{us:List kB}(r:Vals xs us){i:Nat}{u:kB}(h:us[i]?=some u):∃v,xs[i]?=some v/\RelV v u:=by
 have hi:i<us.length:=(kF.mp h).1;have hx:i<xs.length:=by rw[r.length];exact hi
 refine⟨xs[i],kK hx,?_⟩;have z:=zi3 r i hx;have e1:xs.getD i .non=xs[i]:=by simp[hx]
 have e2:us.getD i pe=u:=by rw[kD,h];rfl
 rw[e1,e2] at z;exact z
theorem zgd:∀{xs:List V}{us:List kB}{v:V}{u:kB},Vals xs us->RelV v u->Vals (xs++[v]) (us++[u])
 |_,_,_,_,.nil,r=>.cons r .nil
 |_,_,_,_,.cons a t,r=>.cons a (zgd t r)
theorem zlo(hu:X.A.units+66<cLine):zlj X KPp:=by
 intro pins σ H s zs ks ans I r h;obtain⟨kp,ok,rfl⟩:=h;have len:=r.length;have tup:∀i,i<ks.length->TupI s.heap (ks.getD i pe) [(kp i).1,(kp i).2]:=fun i hi=>by
  obtain⟨a,ea,ha⟩:=ok i (by omega)
  have z:=zi3 r i (by omega)
  rw[kD,ea] at z;have z:RelV (.ref a) (ks.getD i pe):=z
  have e:ks.getD i pe=.ref a:=by cases h:ks.getD i pe<;>rw[h] at z<;>first|(cases z;rfl)|cases z
  rw[e];exact zow I (ns:=[(kp i).1,(kp i).2]) ha
 refine⟨tuples' true,fun h2 Q' q'=>zq1 (by omega) (fun v hv=>?_) q',fun h2 i j C hi hj cc=>lt_pairI (tup i hi) (tup j hj) (by show X.A.units+1+1+64<_;omega) cc⟩
 obtain⟨i,hi,e⟩:=uB.mp hv;refine⟨kp i,?_⟩;have t:=tup i hi;have e':ks.getD i pe=v:=by simp[hi,e]
 rw[e'] at t;exact t
end
open PySem.W (kla_fn kla_obj envX tabObj CodeHd KasT kas_sort kas_ask)
section
variable{κ:Type}[DecidableEq κ]
def valV(kvs:List (κ×V))(k:κ):Option V:=(kvs.find? fun kv=>decide (kv.1=k)).map (·.2)
def putK(kvs:List (κ×V))(k:κ)(v:V):List (κ×V):=
 if(kvs.any fun kv=>decide (kv.1=k))=true then kvs.map (fun kv=>if kv.1=k then(kv.1,v) else kv) else kvs++[(k,v)]
theorem zcz{p:κ×V}{r:List (κ×V)}{k:κ}(e:p.1=k):valV (p::r) k=some p.2:=by simp[valV,Qh,e]
theorem zd4{p:κ×V}{r:List (κ×V)}{k:κ}(e:¬p.1=k):valV (p::r) k=valV r k:=by simp[valV,Qh,e]
theorem zdu(k:κ):∀kvs:List (κ×V),(kvs.any fun kv=>decide (kv.1=k))=(valV kvs k).isSome
 |[]=>rfl
 |p::r=>by
  rw[Af]
  by_cases e:p.1=k
  ·simp only[zcz e,decide_eq_true e,Bool.true_or,Option.isSome_some]
  ·rw[zd4 e,decide_eq_false e,EJ];exact zdu k r
theorem zmq(k j:κ)(y:V):∀kvs:List (κ×V),valV (kvs.map fun kv=>if kv.1=k then(kv.1,y) else kv) j=(valV kvs j).map fun x=>if j=k then y else x
 |[]=>rfl
 |p::r=>by
  have ih:=zmq k j y r;rw[pC]
  by_cases h:p.1=k
  ·rw[if_pos h]
   by_cases e:p.1=j
   ·rw[zcz (p:=(p.1,y)) e,zcz e,uU,if_pos (e.symm.trans h)]
   ·rw[zd4 (p:=(p.1,y)) e,zd4 e,ih]
  ·rw[if_neg h]
   by_cases e:p.1=j
   ·rw[zcz (p:=p) e,zcz e,uU,if_neg (fun z=>h (e.trans z))]
   ·rw[zd4 (p:=p) e,zd4 e,ih]
theorem zl1(k j:κ)(y:V):∀kvs:List (κ×V),valV kvs k=none->valV (kvs++[(k,y)]) j=if j=k then some y else valV kvs j
 |[],_=>by
  by_cases e:k=j
  ·rw[if_pos e.symm];exact zcz (p:=(k,y)) e
  ·rw[if_neg (fun z=>e z.symm)];exact zd4 (p:=(k,y)) e
 |p::r,hn=>by
  rw[vo];have hk:¬p.1=k:=fun z=>by rw[zcz z] at hn;cases hn
  rw[zd4 hk] at hn;have ih:=zl1 k j y r hn
  by_cases e:p.1=j
  ·rw[zcz e,zcz e,if_neg (fun z=>hk (e.trans z))]
  ·rw[zd4 e,zd4 e,ih]
theorem zej(kvs:List (κ×V))(k j:κ)(y:V):valV (putK kvs k y) j=if j=k then some y else valV kvs j:=by
 unfold putK
 by_cases a:(kvs.any fun kv=>decide (kv.1=k))=true
 ·rw[if_pos a,zmq];rw[zdu] at a
  by_cases e:j=k
  ·obtain⟨x,hx⟩:=vx.mp a;rw[if_pos e,e,hx,uU,if_pos rfl]
  ·rw[if_neg e]
   cases valV kvs j with
   |none=>rfl
   |some x=>rw[uU,if_neg e]
 ·rw[if_neg a];refine zl1 k j y kvs ?_;rw[zdu] at a
  cases q:valV kvs k with
  |none=>rfl
  |some x=>rw[q] at a;exact(a rfl).elim
theorem zci(kvs:List (κ×V))(k:κ)(v:V):(putK kvs k v).length<=kvs.length+1:=by
 unfold putK
 split
 ·rw[kP];omega
 ·rw[kO,uA,jJ];omega
theorem zha{kvs:List (κ×V)}{k:κ}(v:V)(h:valV kvs k=none):putK kvs k v=kvs++[(k,v)]:=by
 unfold putK;rw[zdu,h];exact if_neg (by decide)
theorem RelO.isSome_eq{o:Option V}{u:Option kB}(r:RelO o u):o.isSome=u.isSome:=by
 cases o with
 |none=>cases u with
  |none=>rfl
  |some _=>exact(show False from r).elim
 |some _=>cases u with
  |none=>exact(show False from r).elim
  |some _=>rfl
theorem KV.val{kvs:List (κ×V)}{vs:List (κ×kB)}(r:KV kvs vs)(k:κ):RelO (valV kvs k) (CD vs k):=by
 unfold KV at r
 induction r with
 |nil=>exact AC
 |@cons p q ps qs h t ih=>
  obtain⟨h1,h2⟩:=h
  by_cases e:p.1=k
  ·have e':q.1=k:=h1.symm.trans e;have b:CD (q::qs) k=some q.2:=by simp[CD,Qh,e']
   rw[zcz e,b];exact h2
  ·have e':¬q.1=k:=fun z=>e (h1.trans z);have b:CD (q::qs) k=CD qs k:=by simp[CD,Qh,e']
   rw[zd4 e,b];exact ih
theorem KV.any{kvs:List (κ×V)}{vs:List (κ×kB)}(r:KV kvs vs)(k:κ):(kvs.any fun kv=>decide (kv.1=k))=vs.any fun kv=>decide (kv.1=k):=by
 unfold KV at r
 induction r with
 |nil=>rfl
 |cons h t ih=>rw[Af,Af,ih,h.1]
theorem KV.repl{kvs:List (κ×V)}{vs:List (κ×kB)}(r:KV kvs vs)(k:κ){y:V}{u:kB}(ry:RelV y u):
  KV (kvs.map fun kv=>if kv.1=k then(kv.1,y) else kv) (vs.map fun kv=>if kv.1=k then(kv.1,u) else kv):=by
 unfold KV at r⊢
 induction r with
 |nil=>exact .nil
 |@cons p q ps qs h t ih=>
  rw[pC,pC];refine .cons ?_ ih;obtain⟨h1,h2⟩:=h
  by_cases e:p.1=k
  ·rw[if_pos e,if_pos (h1.symm.trans e)];exact⟨h1,ry⟩
  ·rw[if_neg e,if_neg (fun z=>e (h1.trans z))];exact⟨h1,h2⟩
theorem KV.put{kvs:List (κ×V)}{vs:List (κ×kB)}(r:KV kvs vs)(k:κ){y:V}{u:kB}(ry:RelV y u):KV (putK kvs k y) (stored vs k u):=by
 unfold putK stored;rw[r.any k]
 by_cases e:(vs.any fun kv=>decide (kv.1=k))=true
 ·rw[if_pos e,if_pos e];exact r.repl k ry
 ·rw[if_neg e,if_neg e];exact DX r ⟨rfl,ry⟩
theorem KV.length{kvs:List (κ×V)}{vs:List (κ×kB)}(r:KV kvs vs):kvs.length=vs.length:=gA r
end
theorem kV_is{P:ko}{w:pN}{k:Key}{u:kB}(r:RelV (kV k) u):(zbq P w).is k u=true:=by
 cases k with
 |inl i=>obtain⟨t,e⟩:=(show ∃t,u=DD i t from r);subst e;exact zly P w i t
 |inr x=>obtain⟨t,e⟩:=(show ∃t,u=EN x t from r);subst e;exact zli P w x t
theorem zki{P:ko}{w:pN}:∀{ks:List Key}{us:List kB},Vals (ks.map kV) us->ItemsAre (zbq P w) ks us
 |[],_,r=>by rw[vL] at r;cases r;exact .nil
 |k::ks,_,r=>by
  rw[pC] at r
  cases r with
  |cons h t=>exact .cons (kV_is h) (zki t)
abbrev KT(H:Hp):List (List Key×V)->List (List Key×Addr×kB)->Prop:=Az fun p q=>p.1=q.1/\H q.2.1=some (.tup (p.1.map kV))/\RelV p.2 q.2.2
theorem KT.val{H:Hp}{kvs:List (List Key×V)}{xs:List (List Key×Addr×kB)}(r:KT H kvs xs)(k:List Key):RelO (valV kvs k) ((atKey xs k).map (·.2)):=by
 induction r with
 |nil=>exact AC
 |@cons p q ps qs h t ih=>
  obtain⟨h1,_,h2⟩:=h
  by_cases e:p.1=k
  ·have e':q.1=k:=h1.symm.trans e;have b:atKey (q::qs) k=some q.2:=by simp[atKey,Qh,e']
   rw[zcz e,b];exact h2
  ·have e':¬q.1=k:=fun z=>e (h1.trans z);have b:atKey (q::qs) k=atKey qs k:=by simp[atKey,Qh,e']
   rw[zd4 e,b];exact ih
theorem KT.repl{H:Hp}{kvs:List (List Key×V)}{xs:List (List Key×Addr×kB)}(r:KT H kvs xs)(k:List Key){y:V}{u:kB}(ry:RelV y u):
  KT H (kvs.map fun kv=>if kv.1=k then(kv.1,y) else kv) (xs.map (putAt k u)):=by
 induction r with
 |nil=>exact .nil
 |@cons p q ps qs h t ih=>
  rw[pC,pC];refine .cons ?_ ih;obtain⟨h1,h2,h3⟩:=h;unfold putAt
  by_cases e:p.1=k
  ·rw[if_pos e,if_pos (h1.symm.trans e)];exact⟨h1,h2,ry⟩
  ·rw[if_neg e,if_neg (fun z=>e (h1.trans z))];exact⟨h1,h2,h3⟩
theorem KT.put{H:Hp}{kvs:List (List Key×V)}{xs:List (List Key×Addr×kB)}(r:KT H kvs xs)(k:List Key){b:Addr}{y:V}{u:kB}(hb:H b=some (.tup (k.map kV)))(ry:RelV y u):
  KT H (putK kvs k y) (Cq xs k b u):=by
 have e:(kvs.any fun kv=>decide (kv.1=k))=(atKey xs k).isSome:=by
  rw[zdu,(r.val k).isSome_eq,AY]
 unfold putK Cq;rw[e]
 by_cases q:(atKey xs k).isSome=true
 ·rw[if_pos q,if_pos q];exact r.repl k ry
 ·rw[if_neg q,if_neg q];exact DX r ⟨rfl,hb,ry⟩
theorem KT.keeps{H H':Hp}{kvs:List (List Key×V)}{xs:List (List Key×Addr×kB)}(r:KT H kvs xs)(ht:∀b ys,H b=some (.tup ys)->H' b=some (.tup ys)):KT H' kvs xs:=
 Paired.mapP r fun _ _ z=>⟨z.1,ht _ _ z.2.1,z.2.2⟩
section
variable{P:ko}{w:pN}{H:Hp}{h:Heap}{a:Addr}
theorem rd_of{u:HO}(ok:HOk P w H h)(e:Rd H a u):zd9 P w H h a u:=e.ok ok
theorem dk_rd{kvs:List (Key×V)}(ok:HOk P w H h)(e:Rd H a (.dK kvs)):kvs.length<=sizeLine/\(a==ul)=false/\∃vs,KV kvs vs/\h.DictOf (zbq P w) a vs:=
 show zd9 P w H h a (.dK kvs) from rd_of ok e
theorem dk_of{kvs:List (Key×V)}(ok:HOk P w H h)(e:H a=some (.dK kvs)):kvs.length<=sizeLine/\(a==ul)=false/\∃vs,KV kvs vs/\h.DictOf (zbq P w) a vs:=dk_rd ok (.inl e)
theorem zkq{ks:List Key}(ok:HOk P w H h)(e:H a=some (.tup (ks.map kV))):(jQ (zbq P w)).is h ks a:=by
 obtain⟨_,its,r,o,h1,h2,n,h3⟩:=(show zd9 P w H h a (.tup (ks.map kV)) from ok a _ e);exact⟨o,its.toArray,n,h1,h2,h3,by simpa using zki r⟩
theorem dt_rd{kvs:List (List Key×V)}(ok:HOk P w H h)(e:Rd H a (.dT kvs)):kvs.length<=sizeLine/\(a==ul)=false/\
  ∃xs,KT H kvs xs/\h.DictOfH (jQ (zbq P w)) a xs:=by
 obtain⟨z,y,xs,r,o,es,ep,h1,h2,h3,h4,h5⟩:=(show zd9 P w H h a (.dT kvs) from rd_of ok e);refine⟨z,y,xs,r,o,es,ep,h1,h2,h3,h4,fun x hx=>?_,h5⟩;have all:∀{l:List (List Key×V)}{m:List (List Key×Addr×kB)},KT H l m->∀x∈m,(jQ (zbq P w)).is h x.1 x.2.1:=by
  intro l m q
  induction q with
  |nil=>intro x hx;exact nomatch hx
  |@cons p q ps qs hq t ih=>
   intro x hx;rcases kr.mp hx with e|hx
   ·subst e;exact zkq ok (by rw[←hq.1];exact hq.2.1)
   ·exact ih x hx
 exact all r x hx
theorem dt_of{kvs:List (List Key×V)}(ok:HOk P w H h)(e:H a=some (.dT kvs)):kvs.length<=sizeLine/\(a==ul)=false/\
  ∃xs,KT H kvs xs/\h.DictOfH (jQ (zbq P w)) a xs:=dt_rd ok (.inl e)
end
def DGet(H:Hp)(a:Addr)(y:V)(r:Option V):Prop:=
 (∃kvs k,Rd H a (.dK kvs)/\y=kV k/\r=valV kvs k)∨∃kvs k b,Rd H a (.dT kvs)/\y=.ref b/\H b=some (.tup (k.map kV))/\r=valV kvs k
def DPut(H:Hp)(a:Addr)(y v:V)(H':Hp):Prop:=
 (∃kvs k,H a=some (.dK kvs)/\y=kV k/\kvs.length<sizeLine/\H'=upd H a (.dK (putK kvs k v)))∨
 ∃kvs k b,H a=some (.dT kvs)/\y=.ref b/\H b=some (.tup (k.map kV))/\kvs.length<sizeLine/\H'=upd H a (.dT (putK kvs k v))
theorem DGet.k{H:Hp}{a:Addr}{kvs:List (Key×V)}{k:Key}(e:H a=some (.dK kvs)):DGet H a (kV k) (valV kvs k):=.inl ⟨kvs,k,.inl e,rfl,rfl⟩
theorem DGet.t{H:Hp}{a b:Addr}{kvs:List (List Key×V)}{k:List Key}(e:H a=some (.dT kvs))(eb:H b=some (.tup (k.map kV))):DGet H a (.ref b) (valV kvs k):=.inr ⟨kvs,k,b,.inl e,rfl,eb,rfl⟩
theorem DPut.k{H:Hp}{a:Addr}{kvs:List (Key×V)}{k:Key}{v:V}(e:H a=some (.dK kvs))(hl:kvs.length<sizeLine):DPut H a (kV k) v (upd H a (.dK (putK kvs k v))):=.inl ⟨kvs,k,e,rfl,hl,rfl⟩
theorem DPut.t{H:Hp}{a b:Addr}{kvs:List (List Key×V)}{k:List Key}{v:V}(e:H a=some (.dT kvs))(eb:H b=some (.tup (k.map kV)))(hl:kvs.length<sizeLine):
  DPut H a (.ref b) v (upd H a (.dT (putK kvs k v))):=.inr ⟨kvs,k,b,e,rfl,eb,hl,rfl⟩
section
variable{X:Cx}{pins:List (Addr×Obj)}{σ:St}{H:Hp}{s:kC}{a:Addr}{y v:V}{u r:kB}{o:Option V}{A:pO}{E:kB->kC->Prop}
theorem Inv.big(I:Inv X pins σ H s):ul<s.heap.objs.size:=by
 have h:kR<s.heap.objs.size:=(I.mod.glob.keeps I.bk).lt;exact Cr (by decide) h
theorem zrn{Q:kB->kC->Prop}(hu:A.units+1<cLine)(I:Inv X pins σ H s)(g:DGet H a y (some v))(ry:RelV y u)(h:∀w' s',Inv X pins σ H s'->RelV v w'->Q w' s'):
  wpAny (model X.prog X.w) A (Ci (.ref a) u) Q E s:=by
 rcases g with⟨kvs,k,e,ey,l⟩|⟨kvs,k,b,e,ey,eb,l⟩
 ·subst ey;obtain⟨z,hd,vs,rel,dd⟩:=dk_rd I.hok e;obtain⟨w',hw,rw'⟩:=RelO.some_of (v:=v) (o:=CD vs k) (by rw[l];exact rel.val k)
  exact wpAny_getItem_of (kV_is ry) dd.mapOf hw (h w' _ (I.tok _) rw')
 ·subst ey
  cases(show u=pz b from ry);obtain⟨z,hd,xs,rel,dd⟩:=dt_rd I.hok e;obtain⟨w',hw,rw'⟩:=RelO.some_of (v:=v) (o:=(atKey xs k).map (·.2)) (by rw[l];exact rel.val k)
  obtain⟨p,hp,hp2⟩:=ut.mp hw;refine CV (vR hu) (zkq I.hok eb) dd hp ?_;rw[hp2];exact h w' _ (I.tok _) rw'
theorem d_notIn{Q:kB->kC->Prop}(hu:A.units+1<cLine)(I:Inv X pins σ H s)(g:DGet H a y o)(ry:RelV y u)(h:∀s',Inv X pins σ H s'->Q (.bool (!o.isSome)) s'):
  wpAny (model X.prog X.w) A (Qj .NotIn u (.ref a)) Q E s:=by
 rcases g with⟨kvs,k,e,ey,l⟩|⟨kvs,k,b,e,ey,eb,l⟩
 ·subst ey;obtain⟨z,hd,vs,rel,dd⟩:=dk_rd I.hok e;refine wpAny_notIn_of (kV_is ry) hd dd.mapOf ?_;rw[←(rel.val k).isSome_eq,←l];exact h _ (I.tok _)
 ·subst ey
  cases(show u=pz b from ry);obtain⟨z,hd,xs,rel,dd⟩:=dt_rd I.hok e;refine wpAny_notIn_heap (vR hu) (zkq I.hok eb) hd dd ?_;have q:=(rel.val k).isSome_eq;rw[AY] at q;rw[←q,←l];exact h _ (I.tok _)
theorem zl5{h':Heap}{t':Nat}{ob:HO}(I:Inv X pins σ H s)(mu:Mut (H a))(hs:vJ a s.heap h')(he:∃q,h'.get? a=some q)(new:zd9 X.prog X.w (upd H a ob) h' a ob):
  Inv X pins σ (upd H a ob) {s with heap:=h',toks:=t'}:=
 I.write (x:=a) (e:=a) mu (.inl rfl) (fun b q hb z=>(hs.2 b hb).trans z) he new
theorem dk_new{P:ko}{w:pN}{H':Hp}{h':Heap}{kvs:List (Key×V)}{vs:List (Key×kB)}(z:kvs.length<=sizeLine)(hd:(a==ul)=false)(rel:KV kvs vs)(dd:h'.DictOf (zbq P w) a vs):
  zd9 P w H' h' a (.dK kvs):=⟨z,hd,vs,rel,dd⟩
theorem zq3{H':Hp}{Q:Unit->kC->Prop}(hu:A.units+1<cLine)(I:Inv X pins σ H s)(g:DPut H a y v H')(ry:RelV y u)(rv:RelV v r)(h:∀s',Inv X pins σ H' s'->Q () s'):
  wpAny (model X.prog X.w) A (setItem (.ref a) u r) Q E s:=by
 rcases g with⟨kvs,k,e,ey,l,eH⟩|⟨kvs,k,b,e,ey,eb,l,eH⟩
 ·subst ey eH;obtain⟨z,hd,vs,rel,dd⟩:=dk_of I.hok e;have hz:vs.length<=sizeLine:=by rw[←rel.length];exact z
  have hl:(putK kvs k v).length<=sizeLine:=by have:=zci kvs k v;omega
  refine wpAny_setItem_pairs (hsz:=hz) (kV_is ry) dd fun h' dd' hs=>h _ ?_;have he:∃q,h'.get? a=some q:=let⟨q,_,_,hq,_⟩:=dd';⟨q,hq⟩;exact zl5 I (by rw[e];exact AC) hs he (dk_new hl hd (rel.put k rv) dd')
 ·subst ey eH
  cases(show u=pz b from ry);obtain⟨z,hd,xs,rel,dd⟩:=dt_of I.hok e;have hz:xs.length<=sizeLine:=by rw[←gA rel];exact z
  have hl:(putK kvs k v).length<=sizeLine:=by have:=zci kvs k v;omega
  refine wpAny_setItem_heap (hsz:=hz) (vR hu) (zkq I.hok eb) dd fun h' dd' hs=>h _ ?_;obtain⟨q,es,ep,hq,h2,h3,h4,_,h5⟩:=dd';refine zl5 I (by rw[e];exact AC) hs ⟨q,hq⟩ ⟨hl,hd,_,(rel.put k eb rv).keeps fun c ys ec=>?_,q,es,ep,hq,h2,h3,h4,h5⟩
  rw[za8 (ne_of ec e fun z=>nomatch z)];exact ec
end
def NoSl(i:Expr):Prop:=∀ov iv,subscripted i false ov iv=operate [ov,iv] (Ci ov iv)
theorem zpd{prog:ko}{w:pN}{A:pO}{E:kB->kC->Prop}{s:kC}{env:Env}{value slice:Expr}{pos:Pos}{T id:String}{Q:kB->kC->Prop}
  (hl:typeLookup (.type T) "__getitem__"=pure (some (.builtin id)))(hs:NoSl slice)
  (h:wpAny (model prog w) A (eval value env) (fun o s₁=>wpAny (model prog w) A (eval slice env) (fun i s₂=>s₂.TypeIs o T/\wpAny (model prog w) A (Ci o i) Q E s₂) E s₁) E s):
  wpAny (model prog w) A (eval (.Subscript value slice pos) env) Q E s:=by
 refine Du (uS h (fun o s₁ h₁=>uS h₁ (fun i s₂ h₂=>?_) fun _ _ x=>x) fun _ _ x=>x);obtain⟨hT,h₂⟩:=h₂;unfold CL;refine kA ?_;rw[getitemInPython_of_ne hT.not_modules];refine kA (vW hT hl ?_);have fin:wpAny (model prog w) A (subscripted slice false o i) (fun r s₃=>wpAny (model prog w) A (letTemporaryGo value o r>>=fun _=>pure r) Q E s₃) E s₂:=by
  rw[hs o i];exact wpAny_operating (uS h₂ (fun r s₃ h₃=>kA (wpAny_letTemporaryGo (kL h₃))) fun _ _ x=>x)
 first
  |exact kL (kA fin)
  |exact kA (kL (kA fin))
  |exact kA fin
theorem zm9{X:Cx}{pins:List (Addr×Obj)}{σ:St}{H:Hp}{s:kC}{a:Addr}{y:V}{o:Option V}(I:Inv X pins σ H s)(g:DGet H a y o):s.TypeIs (.ref a) "dict":=by
 rcases g with⟨kvs,k,e,_,_⟩|⟨kvs,k,b,e,_,_,_⟩
 ·obtain⟨_,_,vs,_,dd⟩:=dk_rd I.hok e;exact dd.typeIs
 ·obtain⟨_,_,xs,_,dd⟩:=dt_rd I.hok e;exact dd.typeIs
def zhn(td ty:TE):TE:=fun σ H Q=>td σ H fun x H1=>ty σ H1 fun y H2=>∃a v,x=.ref a/\DGet H2 a y (some v)/\Q v H2
def zl4(ty td:TE):TE:=fun σ H Q=>ty σ H fun y H1=>td σ H1 fun x H2=>∃a o,x=.ref a/\DGet H2 a y o/\Q (.bl (!o.isSome)) H2
def sDPut(td ty tv:TE):TS:=fun D σ H=>tv σ H fun v H1=>td σ H1 fun x H2=>ty σ H2 fun y H3=>∃a H4,x=.ref a/\DPut H3 a y v H4/\D.nx σ H4
section
variable{X:Cx}{o i e value:Expr}{pos pos' tpos:Pos}{td ty tv:TE}
theorem zgk(hu:X.A.units+1<cLine)(ho:PE X o td)(hi:PE X i ty)(hs:NoSl i):PE X (.Subscript o i pos) (zhn td ty):=by
 intro pins s σ H Q I h;refine zpd AO.lookup hs (thn (ho pins s σ H _ I h) fun u s1⟨x,H1,I1,rx,q1⟩=>thn (hi pins s1 σ H1 _ I1 q1) fun iv s2⟨y,H2,I2,ry,a,v,ex,g,q2⟩=>?_);subst ex;obtain rfl:u=pz a:=rx;exact⟨zm9 I2 g,zrn hu I2 g ry fun w' s3 I3 rw'=>⟨v,H2,I3,rw',q2⟩⟩
theorem zkd(hu:X.A.units+1<cLine)(hi:PE X i ty)(ho:PE X o td):PC X .NotIn i o (zl4 ty td):=by
 intro pins s σ H Q I h;refine thn (hi pins s σ H _ I h) fun iv s1⟨y,H1,I1,ry,q1⟩=>thn (ho pins s1 σ H1 _ I1 q1) fun u s2⟨x,H2,I2,rx,a,ov,ex,g,q2⟩=>?_;subst ex;obtain rfl:u=pz a:=rx;exact d_notIn hu I2 g ry fun s3 I3=>⟨.bl (!ov.isSome),H2,I3,rfl,q2⟩
theorem zm4(hu:X.A.units+1<cLine)(ho:PE X o td)(hi:PE X i ty)(hv:PE X value tv)(hs:DF value (some (.Subscript o i pos')) pos.line X.env=pure false):
  PS X (.Assign [.Subscript o i pos'] value pos) (sDPut td ty tv):=by
 intro pins s σ H D I h;refine wpAny_Assign_Subscript (thn (hv pins s σ H _ I h) fun r s1⟨v,H1,I1,rv,q1⟩=>thn (ho pins s1 σ H1 _ I1 q1) fun u s2⟨x,H2,I2,rx,q2⟩=>thn (hi pins s2 σ H2 _ I2 q2) fun iv s3⟨y,H3,I3,ry,a,H4,ex,g,q3⟩=>?_) hs;subst ex;obtain rfl:u=pz a:=rx;exact zq3 hu I3 g ry rv fun s4 I4=>⟨σ,H4,I4,q3⟩
end
theorem dk_empty{P:ko}{w:pN}{H:Hp}(h:Heap)(hb:ul<h.objs.size):zd9 P w H (h.push {cls:=.type "dict",data:=.dict #[]}) h.objs.size (.dK []):=
 ⟨pG _,beq_eq_false_iff_ne.mpr (Ul (pL hb)),[],.nil,Heap.DictOf.new h⟩
theorem dt_empty{P:ko}{w:pN}{H:Hp}(h:Heap)(hb:ul<h.objs.size):zd9 P w H (h.push {cls:=.type "dict",data:=.dict #[]}) h.objs.size (.dT []):=
 ⟨pG _,beq_eq_false_iff_ne.mpr (Ul (pL hb)),[],.nil,_,#[],0,kh _ rfl,⟨rfl,rfl,rfl⟩,rfl,rfl,AD⟩
def zpb:TE:=fun _ H Q=>∀p,H p=none->Q (.ref p) (upd H p (.dK []))
def tDNewT:TE:=fun _ H Q=>∀p,H p=none->Q (.ref p) (upd H p (.dT []))
section
variable{X:Cx}{pos:Pos}
theorem zmh:PE X (.Dict [] [] pos) zpb:=fun pins s σ H Q I h=>
 Aq ⟨.ref s.heap.objs.size,_,I.laid (a:=s.heap.objs.size) (o:=.dK []) (t':=s.toks) (fun _ _ q=>kI _ q) (kM _) (dk_empty s.heap I.big),rfl,h _ (I.hok.fresh (kM _))⟩
theorem zna:PE X (.Dict [] [] pos) tDNewT:=fun pins s σ H Q I h=>
 Aq ⟨.ref s.heap.objs.size,_,I.laid (a:=s.heap.objs.size) (o:=.dT []) (t':=s.toks) (fun _ _ q=>kI _ q) (kM _) (dt_empty s.heap I.big),rfl,h _ (I.hok.fresh (kM _))⟩
end
structure M2(X:Cx)(o:Expr)(m:Str)(apos:Pos)(e f:Expr)(cpos:Pos):Prop where
 base:attributeBase o m X.env (eval o X.env)=eval o X.env
 few:((va cpos (uF [e,f] X.env)).all (fun x=> !x.1)&&(Al cpos (jR [] X.env)).all (fun x=>x.1.isSome)
  &&decide (([e,f]:List Expr).length+([]:List CB).length+(if([]:List CB).isEmpty then 0 else 1)<30))=true
 line:(apos.endLine==cpos.line)=true
 trees:va cpos (uF [e,f] X.env)=[(false,eval e X.env),(false,eval f X.env)]
section
variable{κ:Type}[DecidableEq κ]
theorem valV_not{kvs:List (κ×V)}{k:κ}(h:valV kvs k=none):¬k∈kvs.map (·.1):=by
 intro m;obtain⟨p,hp,e⟩:=pd.mp m;have q:(kvs.any fun kv=>decide (kv.1=k))=true:=List.any_eq_true.mpr ⟨p,hp,decide_eq_true e⟩;rw[zdu,h] at q;exact absurd q (by simp)
theorem zs4{kvs:List (κ×V)}{k:κ}{v:V}(h:valV kvs k=some v):k∈kvs.map (·.1):=by
 have q:(kvs.any fun kv=>decide (kv.1=k))=true:=by
  rw[zdu,h]
  all_goals rfl
 obtain⟨p,hp,e⟩:=List.any_eq_true.mp q;exact pd.mpr ⟨p,hp,of_decide_eq_true e⟩
theorem zlp:∀{l:List κ}{k:κ},l.Nodup->¬k∈l->(l++[k]).Nodup
 |[],k,_,_=>by simp
 |a::r,k,h,hk=>by
  obtain⟨h1,h2⟩:=vV.mp h;show(a::(r++[k])).Nodup;refine List.nodup_cons.mpr ⟨fun m=>?_,zlp h2 fun m=>hk (kr.mpr (vM m))⟩;rcases kY.mp m with q|q
  ·exact h1 q
  ·exact hk (kr.mpr (km (kf.mp q).symm))
end
section
variable{X:Cx}{x:Str}{p pos:Pos}{e:Expr}{es:List Expr}{kws:List CB}{ks:List Str}{t tk:TA}{id:String}{r:List V->List V->Hp->VK->Prop}
def CallKR(X:Cx)(f:kB)(ks:List Str)(r:List V->List V->Hp->VK->Prop):Prop:=
 ∀(pins:List (Addr×Obj))(s:kC)(σ:St)(H:Hp)(xs zs:List V)(us ws:List kB)(Q:VK),Inv X pins σ H s->Vals xs us->Vals zs ws->r xs zs H Q->wpAny (model X.prog X.w) X.A (call f us (ks.zip ws)) (EP X pins σ Q) X.xe s
def tCBK(r:List V->List V->Hp->VK->Prop)(t tk:TA):TE:=fun σ H Q=>t σ H fun xs H1=>tk σ H1 fun zs H2=>r xs zs H2 Q
theorem zps(hc:CallKR X (.builtin id) ks r)(hg:Gl X x)(hm:X.mg x=none)(hv:uQ x=some (.builtin id))(ha:PA X (e::es) t)(hkw:PK X kws tk)(hks:(Al pos (jR kws X.env)).filterMap (·.1)=ks:=by rfl)
  (hn:x≠"__name__":=by decide) (hdb:(x==("__debug__":Str))=false:=by decide) (he:va pos (uF (e::es) X.env)=(false,eval e X.env)::va pos (uF es X.env):=by rfl) (hpl:(va pos (uF (e::es) X.env)).any (·.1)=false:=by rfl)
  (hall:(Al pos (jR kws X.env)).all (·.1.isSome)=true:=by rfl) (hno:(Al pos (jR kws X.env)).any (·.1.isNone)=false:=by rfl):PE X (.Call (.Name x p) (e::es) kws pos) (tCBK r t tk):=by
 intro pins s σ H Q I h;refine UW (zfg I hg hm hv ?_ hn hdb);refine DY (thn (ha pos pins s σ H _ I h) fun us s1⟨vs,H1,I1,r1,q1⟩=>thn (hkw pos pins s1 σ H1 _ I1 q1) fun ws s2⟨zs,H2,I2,r2,q2⟩=>?_) he hpl hall hno;rw[hks];exact hc pins s2 σ H2 vs zs us ws Q I2 r1 r2 q2
end
section
variable{prog:ko}{w:pN}{A:pO}{R:Ds->kC->Prop}{I:Addr}{fp wr:List Addr}{n:Nat}{P:Nat->kB->Prop}{St:Nat->Heap->Prop}
theorem maxD_on(W:Walks prog w A.in1 I fp wr n P St)(bt:Nat->Nat->Bool)(hc:CmpOf prog w A.in1 .Gt P bt)(S:Addr)(nS:S∉fp)(kw:List (Str×kB)):∀(k j:Nat)(s:kC)(vb:kB)(c:Nat),n-(j+1)=k->j+1<=n->St (j+1) s.heap->P (jf bt j) vb->
  s.heap.get? S=some {cls:=.type "list",dict:=none,data:=.seq #[vb,vb] c,slots:=#[]}->(∀v h' tk,P (jf bt (n-1)) v->(∀b o,b∉wr->b≠S->s.heap.get? b=some o->h'.get? b=some o)->R (.ok (.ret v)) {s with heap:=h',toks:=tk})->
  jH (model prog w) A (.builtin "max.loop" ⟨[.ref I,.none,.ref S],kw⟩) R s:=by
 have nw:S∉wr:=fun z=>nS (W.sub _ z);have nm:(Br "max"++Br ".loop":String)="max.loop":=by decide
 intro k
 induction k with
 |zero=>
  intro j s vb c hk hj st hb oS q;have ej:j+1=n:=by omega
  refine Uh Ar ?_;rw[UM Uz _];refine kA (m:=Ao (.ref S)) (uf oS rfl (kA (jg (W.done s _ _ (ej▸st) fun h' tk kp=>?_))));refine kA (Ui (kp S _ nw oS) rfl (kA (vI (kL ?_))));exact q vb _ tk (by rw[←ej];exact hb) fun b o b1 b2 e=>(uW _ _ (Ul b2)).trans (kp b o b1 e)
 |succ k ih=>
  intro j s vb c hk hj st hb oS q;refine Uh Ar ?_;rw[UM Uz _];refine kA (m:=Ao (.ref S)) (uf oS rfl (kA (jg (W.item (j+1) s _ _ (by omega) st fun v h' tk hP st' kp=>?_))))
  have oS':=kp S _ nw oS;refine kA (kL ?_);refine kA (m:=tryCatch (holding [v,v] (Bn CmpOp.Gt v vb>>=_)) _) (jg (UG (kA (hc (j+1) (jf bt j) v vb _ _ _ hP hb (kA (UG (Qs (kA (vI (kL ?_))))))))))
  cases bb:bt (j+1) (jf bt j) with
  |true=>
   simp only[if_true];refine kA (Ui oS' rfl (kA (vI ?_)));rw[nm];refine kL ⟨vZ Uz _,ih (j+1) _ v _ (by omega) (by omega) (W.frame _ _ _ st' fun b hf o e=>(uW _ _ (fun z:S=b=>nS (by rw[z];exact hf))).trans e) (by simp only[jf,bb,if_true];exact hP) (QB _ oS' rfl) fun v' h'' tk'' hP' kp'=>?_⟩
   exact q v' h'' tk'' hP' fun b o b1 b2 e=>kp' b o b1 b2 ((uW _ _ (Ul b2)).trans (kp b o b1 e))
  |false=>
   simp only[pJ,if_false];refine kA (vI ?_);rw[nm];exact kL ⟨vZ Uz _,ih (j+1) _ vb c (by omega) (by omega) st' (by simp only[jf,bb,pJ,if_false];exact hb) oS' fun v' h'' tk'' hP' kp'=>q v' h'' tk'' hP' fun b o b1 b2 e=>kp' b o b1 b2 (kp b o b1 e)⟩
theorem zoe(W:Walks prog w A.in1 I fp wr n P St)(bt:Nat->Nat->Bool)(hc:CmpOf prog w A.in1 .Gt P bt)(S:Addr)(nS:S∉fp){k:Str}{d:kB}{s:kC}{c:Nat}(st:St 0 s.heap)
  (oS:s.heap.get? S=some {cls:=.type "list",dict:=none,data:=.seq #[] c,slots:=#[]})
  (q:∀v h' tk,((0<n/\P (jf bt (n-1)) v)∨(n=0/\v=d))->(∀b o,b∉wr->b≠S->s.heap.get? b=some o->h'.get? b=some o)->R (.ok (.ret v)) {s with heap:=h',toks:=tk}):
  jH (model prog w) A (.builtin "max.loop" ⟨[.ref I,.none,.ref S],[(k,d)]⟩) R s:=by
 have nw:S∉wr:=fun z=>nS (W.sub _ z);have nm:(Br "max"++Br ".loop":String)="max.loop":=by decide
 refine Uh Ar ?_;rw[UM Uz _]
 by_cases h0:n=0
 ·subst h0;refine kA (m:=Ao (.ref S)) (uf oS rfl (kA (jg (W.done s _ _ st fun h' tk kp=>?_))));exact kA (QM (kL (q d h' tk (.inr ⟨rfl,rfl⟩) fun b o b1 _ e=>kp b o b1 e)))
 ·refine kA (m:=Ao (.ref S)) (uf oS rfl (kA (jg (W.item 0 s _ _ (by omega) st fun v h' tk hP st' kp=>?_))))
  refine kA (kL ?_);refine kA (Ui (kp S _ nw oS) rfl ?_);rw[nm];refine kL ⟨vZ Uz _,maxD_on W bt hc S nS _ _ 0 _ v _ rfl (by omega) (W.frame _ _ _ st' fun b hf o e=>(uW _ _ (fun z:S=b=>nS (by rw[z];exact hf))).trans e) hP (QB _ (kp S _ nw oS) rfl) fun v' h'' tk'' hP' kp'=>?_⟩
  exact q v' h'' tk'' (.inl ⟨by omega,hP'⟩) fun b o b1 b2 e=>kp' b o b1 b2 ((uW _ _ (Ul b2)).trans (kp b o b1 e))
end
theorem zsq(a v:kB):argsOk "max" ⟨[a],[(pQ "default",v)]⟩:=by unfold argsOk;kernel_rfl
theorem zmx(val:Nat->Int):∀k,jf (fun i j=>decide (val i>val j)) k<=k/\∀i,i<=k->val i<=val (jf (fun i j=>decide (val i>val j)) k)
 |0=>⟨kM _,fun i hi=>by rw[Ek.mp hi];exact El _⟩
 |k+1=>by
  obtain⟨h1,h2⟩:=zmx val k;unfold jf
  by_cases c:val (k+1)>val (jf (fun i j=>decide (val i>val j)) k)
  ·rw[if_pos (decide_eq_true c)];refine⟨kM _,fun i hi=>?_⟩
   by_cases e:i=k+1
   ·rw[e];exact El _
   ·have:=h2 i (by omega)
    omega
  ·rw[if_neg (by rw[decide_eq_false c];decide)]
   refine⟨by omega,fun i hi=>?_⟩
   by_cases e:i=k+1
   ·rw[e];omega
   ·exact h2 i (by omega)
def rMaxD:List V->List V->Hp->VK->Prop:=fun xs zs H Q=>∃p ns d,xs=[.ref p]/\zs=[.int d]/\H p=some (.lst (ns.map V.int))/\∀g,(∀n,n∈ns->n<=g)->(g∈ns∨(ns=[]/\g=d))->Q (.int g) H
section
variable{X:Cx}
theorem zs9(hc:X.calm=true):CallKR X (.builtin "max") [pQ "default"] rMaxD:=by
 intro pins s σ H xs zs us ws Q I r rz h;obtain⟨p,ns,d,rfl,rfl,hp,q⟩:=h;obtain⟨u,rfl,ru⟩:=vals1 r;obtain⟨u',rfl,t,rfl⟩:=vals1 rz
 cases ru;obtain⟨its,rv,pl,hz⟩:=I.list (.of hp);have ia:Ua its ns:=by
  have:=ze9 rv
  simpa using this
 have len:=ia.length;have ne:p≠s.heap.objs.size:=pL pl.lt;have nm:(Br "max"++Br ".loop":String)="max.loop":=by decide
 refine kmk_tree PySem.F.kind_max PySem.F.plain_max PySem.F.entry_max (zsq _ _) ?_;refine kA (m:=gc "max" ["key","default"] 0 ⟨[],[(pQ "default",.int d t)]⟩) (DV (show gc "max" ["key","default"] 0 ⟨[],[(pQ "default",.int d t)]⟩=pure [none,some (.int d t)] from rfl) (kA (kL (kA (Cg pl.isList (kA (jB ?_ (pG _))))))));rw[nm];have W:=Walks.list (prog:=X.prog) (w:=X.w) (A:=X.A.in1) (show X.A.in1.handled=none from I.ok.hd hc) s.heap.objs.size p ne its.toArray;have it:∀i v,its.toArray[i]?=some v->∃t,v=DD (ns.getD i 0) t:=fun i v hv=>IntsAre.int_at ia i v (by simpa using hv)
 have sz:(s.heap.push {cls:=.type "list_iterator",data:=.fields #[.ref p,.int 0 0]}).objs.size=s.heap.objs.size+1:=by rw[Ux]
 refine kL ⟨vZ PySem.F.plain_max_loop _,zoe W (fun i j=>decide (ns.getD i 0>ns.getD j 0)) (CmpOf.ints_gt (fun i=>ns.getD i 0) it) _ (fun z=>?_) (st:=W.frame 0 _ _ ⟨⟨_,kh _ rfl,rfl,rfl⟩,pl.isList.push _⟩ fun b _ o e=>kI _ e) (kh _ rfl) fun v h' tk hv kp=>?_⟩
 ·rw[sz] at z;have l2:p<s.heap.objs.size:=pl.lt;rcases kr.mp z with z|z
  ·exact absurd z (jZ (Nat.lt_succ_self _))
  ·exact absurd (kf.mp z) (jZ (Ct l2))
 ·have keep:∀b o,s.heap.get? b=some o->h'.get? b=some o:=fun b o e=>by
   have lt:=ki e;refine kp b o (fun z=>?_) (fun z=>?_) (kI _ (kI _ e))
   ·exact absurd (show b=s.heap.objs.size by simpa using z) (pL lt)
   ·rw[sz] at z;exact absurd z (pL (Ct lt))
  obtain⟨b1,b2⟩:=zmx (fun i=>ns.getD i 0) (its.toArray.size-1);have J:Inv X pins σ H {s with heap:=h',toks:=tk}:=I.kept keep;rcases hv with⟨h0,hv⟩|⟨h0,rfl⟩
  ·obtain⟨t',rfl⟩:=it _ _ hv;have h0:0<its.length:=by simpa using h0
   have zi:its.toArray.size=its.length:=rfl;rw[zi] at b1 b2⊢;refine⟨.int _,H,J,⟨t',rfl⟩,q _ (fun n hn=>?_) (.inl ?_)⟩
   ·obtain⟨i,hi,e⟩:=uB.mp hn;have:=b2 i (by omega)
    have e':ns.getD i 0=n:=by simp[hi,e]
    rw[e'] at this;exact this
   ·have hb:jf (fun i j=>decide (ns.getD i 0>ns.getD j 0)) (its.length-1)<ns.length:=by omega
    rw[kD,kK hb];exact vA _
  ·have h0:its.length=0:=by simpa using h0
   have n0:ns=[]:=gI (by omega)
   exact⟨.int d,H,J,⟨t,rfl⟩,q d (fun n hn=>by rw[n0] at hn;cases hn) (.inr ⟨n0,rfl⟩)⟩
end
section
variable{prog:ko}{w:pN}{A:pO}{E:kB->kC->Prop}{s:kC}
theorem zpa{d:Addr}{od:Obj}{es:Array jV}{ep:Nat}{Q:kB->kC->Prop}(hd:(d==ul)=false)(ho:s.heap.get? d=some od)(hc:od.cls=.type "dict")(hdat:od.data=.dict es ep)
  (q:Q (.ref s.heap.objs.size) {s with heap:=s.heap.push {cls:=.type "dict_keyiterator",data:=.fields #[.ref d,.int 0 0,.int es.size 0,.int ep 0]}}):wpAny (model prog w) A (pyIter (.ref d)) Q E s:=by
 have ty:s.TypeIs (.ref d) "dict":=⟨od,ho,hc⟩;refine wpAny_pyIter_slot ty BG (Ql BG ty PySem.F.entry_dict_iter ?_ (PySem.F.args_dict_iter_1 _));unfold vn.«dict.__iter__»;refine kA ?_;unfold Builtin.Dict.dictSlotNone;refine kA (Bb ty (kL ?_));refine kA (m:=Bc d) ?_;unfold Bc;rw[if_neg (by rw[hd];decide)]
 refine kL (kA (jh ho hdat (kA (BV ho hdat (kA (Uo (kL ⟨_,rfl,"dict_keyiterator",_,⟨_,kh _ rfl,rfl⟩,PySem.F.slot_dict_keyiterator_next.lookup,?_⟩)))))))
 simpa[UR] using q
theorem zo7{it d:Addr}{i ep:Nat}{od:Obj}{es:Array jV}{Q:Option kB->kC->Prop}(hit:s.heap.IsKeyIter it d i es.size ep)(ho:s.heap.get? d=some od)(hdat:od.data=.dict es ep)(hi:i<es.size)
  (q:∀h',h'.IsKeyIter it d (i+1) es.size ep->vJ it s.heap h'->Q (some es[i].key) {s with heap:=h'}):wpAny (model prog w) A (Ac (.ref it)) Q E s:=by
 obtain⟨o,hoi,hci,hdi⟩:=id hit;have own:gQ "dict_keyiterator"=false:=by decide
 unfold Ac;refine kA (vY (Qk (name:=pQ "__next__") hit.typeIs Qi (Ql Qi hit.typeIs jC (kA (kL (kA (kA ?_)))) (vt _))))
 first|refine kA (UN hit.typeIs (kL (kA (AE hoi hdi ?_))))|refine kA (Uv hit.typeIs (kL (kA (AE hoi hdi ?_))))
 simp only[own,pJ,if_false];show wpAny _ _ (if(pz d==pe)=true then _ else _) _ _ s;have nv:¬((pz d==pe)=true):=pI;rw[if_neg nv];refine kA (kL (kA (jh ho hdat ?_)));rw[if_neg (by simp)]
 refine kA (kL (kA (BV ho hdat ?_)));rw[if_neg (by simp)]
 refine kL ?_;simp only[show ¬((i:Int)<0) from by omega,if_false,UP,pK hi]
 refine kA ?_
 first|refine kA (UN hit.typeIs (kL (kA (jx hit.typeIs ?_))))|refine kA (Uv hit.typeIs (kL (kA (jx hit.typeIs ?_))))
 refine kA (m:=setField (.ref it) 1 (UR ((i:Int)+1))) (gt hoi hdi (by simp) ?_)
 have st:(s.heap.update it (EK (·.setIfInBounds 1 (UR ((i:Int)+1))))).IsKeyIter it d (i+1) es.size ep:=⟨_,QB _ hoi (Ba (jN hdi _)),(Ck ..).trans hci,by rw[jN hdi];simp[UR]⟩
 refine kA (UG (kA (jx (s:={s with heap:=s.heap.update it (EK (·.setIfInBounds 1 (UR ((i:Int)+1))))}) st.typeIs ?_)));exact kL (kL ⟨_,rfl,kL (q _ st (Qz ..))⟩)
theorem zsf{it d:Addr}{i ep:Nat}{od:Obj}{es:Array jV}{Q:Option kB->kC->Prop}(hh:A.handled=none)(hit:s.heap.IsKeyIter it d i es.size ep)(ho:s.heap.get? d=some od)(hdat:od.data=.dict es ep)(hi:es.size<=i)
  (q:∀h',Eh it s.heap h'->Q none {s with heap:=h'}):wpAny (model prog w) A (Ac (.ref it)) Q E s:=by
 obtain⟨o,hoi,hci,hdi⟩:=id hit;have own:gQ "dict_keyiterator"=false:=by decide
 unfold Ac;refine kA (vY (Qk (name:=pQ "__next__") hit.typeIs Qi (Ql Qi hit.typeIs jC (kA (kL (kA (kA ?_)))) (vt _))))
 first|refine kA (UN hit.typeIs (kL (kA (AE hoi hdi ?_))))|refine kA (Uv hit.typeIs (kL (kA (AE hoi hdi ?_))))
 simp only[own,pJ,if_false];show wpAny _ _ (if(pz d==pe)=true then _ else _) _ _ s;have nv:¬((pz d==pe)=true):=pI;rw[if_neg nv];refine kA (kL (kA (jh ho hdat ?_)));rw[if_neg (by simp)]
 refine kA (kL (kA (BV ho hdat ?_)));rw[if_neg (by simp)]
 refine kL ?_;simp only[show ¬((i:Int)<0) from by omega,if_false,UP,QU hi]
 refine kA ?_
 first|refine kA (UN hit.typeIs (kL ?_))|refine kA (Uv hit.typeIs (kL ?_))
 refine kA (m:=setField (.ref it) 0 .none) (gt hoi hdi (by simp) ?_)
 refine kA (m:=newExc (.type "StopIteration") []) ?_;simp only[newExc,newTuple]
 refine kA (Uo (kA (m:=gu _ _) (DV (a:=pe) (by first|rfl|(simp only[gu];rfl)) (Uo ?_ (by size_fits)))) (by size_fits))
 simp only[raiseNew];refine kA (wpAny_handled ?_);rw[show A.in1.handled=none from hh];refine kA (kL (wpAny_throw ?_));refine kA (UV (T:="StopIteration") (b:=true) ⟨_,kh _ rfl,rfl⟩ isSubtype_stop (kL ?_));exact q _ (((Qz ..).extBut.push _).push _)
end
section
variable{X:Cx}{tg:Expr}{pins:List (Addr×Obj)}{σ:St}{H:Hp}{s:kC}
theorem zks{kvs:List (List Key×V)}{xs:List (List Key×Addr×kB)}{H:Hp}:Az (fun(p:List Key×V)(q:List Key×Addr×kB)=>p.1=q.1/\H q.2.1=some (.tup (p.1.map kV))/\RelV p.2 q.2.2) kvs xs->∀(j:Nat)(b:Addr)(kv:List Key×V),(xs.map fun q=>q.2.1)[j]?=some b->kvs[j]?=some kv->H b=some (.tup (kv.1.map kV))
 |.nil,j,b,kv,h,_=>by cases h
 |.cons r t,0,b,kv,h,h'=>by cases h;cases h';exact r.2.1
 |.cons r t,j+1,b,kv,h,h'=>zks t j b kv h h'
end
section
open PySem.SeqAt
open PySem.AutoSeq1 (wpAny_loadPart')
open PySem.MeetsSeq PySem.MeetsSeq2 PySem.MeetsSeq3
theorem extendT(l b:Addr)(items items2:Array kB)(n n2:Nat)(dd:Option Addr)(sl:Array (Option kB))(hs0:¬(!items.isEmpty&&UE (items.size+items2.size))=true)(hs1:items.size<=sizeLine)(hs2:items.size+items2.size<=sizeLine+1):
  Meets (vn.«list.extend» ⟨[.ref l,.ref b],[]⟩)
   (fun _ R s=>s.heap.get? l=some {cls:=.type "list",dict:=none,data:=.seq items n,slots:=#[]}/\s.heap.get? b=some {cls:=.type "tuple",dict:=dd,data:=.seq items2 n2,slots:=sl}/\R (.ok (.ret pe)) {s with heap:=s.heap.update l (kx fun x=>x++items2),toks:=s.toks}):=
 .of_wp fun prog w A R s h=>by
  obtain⟨hp,g,d,tk,os⟩:=s;obtain⟨hl,hb,h⟩:=h;have f5:=AutoSeq1.sub_list_tuple;have f3:=BI;have zz:(items++items2).size<=sizeLine+1:=by rw[Array.size_append];exact hs2
  wp_walk using(Ui hl rfl (hz:=hs1) (_hz':=zz)),UA hl,UA hb
  exact⟨_,rfl,h⟩
end
section
variable{X:Cx}
def rExtT:V->List V->Hp->VK->Prop:=fun x vs H Q=>∃l b xs zs,x=.ref l/\vs=[.ref b]/\H l=some (.lst xs)/\H b=some (.tup zs)/\xs.length+zs.length<=sizeLine/\Q .non (upd H l (.lst (xs++zs)))
theorem zqf:MtM X "list.extend" rExtT:=by
 intro pins s σ H x vs v us Q I rx rv h;obtain⟨l,b,xs,zs,rfl,rfl,hH,hB,hz,q⟩:=h
 cases rx;obtain⟨u,rfl,ru⟩:=rv.one
 cases ru;obtain⟨z,its,n,r,hl,e⟩:=I.lstM hH;obtain⟨its2,r2,⟨⟨cls,dd,data,sl⟩,e2,hc,n2,hd⟩,_⟩:=I.tuple (.of hB)
 simp only at hc hd
 subst hc hd;have l2:=r2.length;have hsz:its.toArray.size+its2.toArray.size<=sizeLine:=by rw[kt,kt];omega
 have hlong:¬(!its.toArray.isEmpty&&UE (its.toArray.size+its2.toArray.size))=true:=by rw[zmv hsz,Dv];decide
 refine CS Uw ⟨_,e,rfl⟩ PySem.F.entry_list_extend (PySem.F.args_list_extend_2 _ _) (extendT l b its.toArray its2.toArray n n2 dd sl hlong (by rw[kt];omega) (by omega)) ⟨e,e2,.non,_,I.lset (its':=its++its2) hH e (by simp) (r.append r2) (by rw[kO];omega),rfl,q⟩
end
open PySem.W (kas_sort kas_ask)
def ltL:List (Int×Int)->List (Int×Int)->Bool
 |[],ys=>decide (0<ys.length)
 |_::_,[]=>false
 |x::xs,y::ys=>if x=y then ltL xs ys else HT.lexLt [x.1,x.2] [y.1,y.2]
def LstI(h:Heap)(v:kB)(ns:List (Int×Int)):Prop:=∃(a:Addr)(its:List kB)(n:Nat),v=.ref a/\h.get? a=some (kz "list" its.toArray n)/\its.length=ns.length/\∀(i:Nat)(u:kB)(k:Int×Int),its[i]?=some u->ns[i]?=some k->TupI h u [k.1,k.2]
section
variable{prog:ko}{w:pN}{A:pO}{E:kB->kC->Prop}{s:kC}{R:Ds->kC->Prop}
theorem rc_pair{x y:kB}{k l:Int×Int}{Q:kB->kC->Prop}(hx:TupI s.heap x [k.1,k.2])(hy:TupI s.heap y [l.1,l.2])(hu:A.units+64<cLine)(q:Q (.bool (HT.lexLt [k.1,k.2] [l.1,l.2])) s):wpAny (model prog w) A (Bn .Lt x y) Q E s:=by
 obtain⟨a,its,n,dd,sl,rfl,o,i⟩:=hx;obtain⟨b,its2,n2,dd2,sl2,rfl,o2,i2⟩:=hy;exact BJ (op:=.Lt) ⟨_,o,rfl⟩ ⟨_,o2,rfl⟩ PySem.F.slot_tuple_lt PySem.F.entry_tuple_lt (PySem.F.args_tuple_lt_2 _ _) (tupleLt a b its its2 n n2 dd dd2 sl sl2 [k.1,k.2] [l.1,l.2] rfl i i2) ⟨o,o2,(fun z=>nomatch z),q⟩ (by omega)
theorem ll_loop{a b:Addr}{xs ys:List kB}{n m:Nat}{ns ms:List (Int×Int)}(hu:A.units+70<cLine)(ha:s.heap.get? a=some (kz "list" xs.toArray n))(hb:s.heap.get? b=some (kz "list" ys.toArray m))(lx:xs.length=ns.length)(ly:ys.length=ms.length)
  (tx:∀(i:Nat)(u:kB)(k:Int×Int),xs[i]?=some u->ns[i]?=some k->TupI s.heap u [k.1,k.2])(ty:∀(i:Nat)(u:kB)(k:Int×Int),ys[i]?=some u->ms[i]?=some k->TupI s.heap u [k.1,k.2]):
  ∀(f i:Nat),ns.length-i=f->i<=ns.length->i<=ms.length->R (.ok (.ret (.bool (ltL (ns.drop i) (ms.drop i))))) s->jH (model prog w) A (.builtin "list.__eq__.loop" ⟨[.ref a,.ref b,UR (i:Int),UR 0],[]⟩) R s:=by
 have fin:∀i:Nat,i<=ns.length->i<=ms.length->(ns.length=i∨ms.length=i)->ltL (ns.drop i) (ms.drop i)=decide (xs.length<ys.length):=fun i h1 h2 h3=>by
  rcases h3 with h3|h3
  ·rw[jj (by omega),ltL,pU]
   exact decide_eq_decide.mpr (by omega)
  ·rw[jj (l:=ms) (by omega)]
   cases e:ns.drop i with
   |nil=>
    have:=gH.mp e;rw[ltL];exact decide_eq_decide.mpr (by simp;omega)
   |cons k r=>
    rw[ltL];have:i<ns.length:=by
     rcases Cu i ns.length with z|z
     ·exact z
     ·rw[jj z] at e;cases e
    exact(decide_eq_false (by omega)).symm
 intro f
 induction f with
 |zero=>
  intro i hf h1 h2 q;have e:ns.length=i:=by omega
  refine Uh As ?_;rw[UM vC _];rw[fin i h1 h2 (.inl e)] at q;have gx:xs[i]?=none:=QD (by omega)
  refine kA (QQ ha rfl (kA (QQ hb rfl ?_)));simp only[UR,UP,vc,gx];exact kA (QQ ha rfl (kA (QQ hb rfl (kL q))))
 |succ f ih=>
  intro i hf h1 h2 q;refine Uh As ?_;rw[UM vC _];have li:i<xs.length:=by omega
  have gx:xs[i]?=some xs[i]:=kK li;refine kA (QQ ha rfl (kA (QQ hb rfl ?_)))
  by_cases hy:ms.length=i
  ·rw[fin i h1 h2 (.inr hy)] at q;have gy:ys[i]?=none:=QD (by omega)
   simp only[UR,UP,vc,gx,gy];exact kA (QQ ha rfl (kA (QQ hb rfl (kL q))))
  ·have lj:i<ys.length:=by omega
   have gy:ys[i]?=some ys[i]:=kK lj;have gn:ns[i]?=some ns[i]:=kK (by omega)
   have gm:ms[i]?=some ms[i]:=kK (by omega)
   have dx:ns.drop i=ns[i]::ns.drop (i+1):=uk (by omega)
   have dy:ms.drop i=ms[i]::ms.drop (i+1):=uk (by omega)
   rw[dx,dy,ltL] at q;have t1:=tx i _ _ gx gn;have t2:=ty i _ _ gy gm;simp only[UR,UP,vc,gx,gy];refine kA (eq_tupI t1 t2 (by show A.units+1+64<_;omega) ?_)
   by_cases e:ns[i]=ms[i]
   ·rw[if_pos e] at q;rw[decide_eq_true (by rw[e])]
    simp only[if_true];have z:=ih (i+1) (by omega) (by omega) (by omega) q
    exact kL ⟨vZ vC _,by simpa[UR] using z⟩
   ·rw[if_neg e] at q;have ne:¬[ns[i].1,ns[i].2]=[ms[i].1,ms[i].2]:=fun z=>by
     simp only[jK,and_true] at z;exact e (EC z.1 z.2)
    rw[decide_eq_false ne];simp only[pJ,if_false];refine kA (QQ ha rfl (kA (QQ hb rfl ?_)));simp only[vc,gx,gy];exact kA (rc_pair t1 t2 (by show A.units+1+64<_;omega) (kL q))
end
open PySem.W (kas_sort kas_ask)
theorem listLt(a b:Addr):Meets (vn.«list.__lt__» ⟨[.ref a,.ref b],[]⟩) (fun A R s=>A.units+70<cLine/\∃(xs ys:List kB)(n m:Nat)(ns ms:List (Int×Int)),s.heap.get? a=some (kz "list" xs.toArray n)/\s.heap.get? b=some (kz "list" ys.toArray m)/\xs.length=ns.length/\ys.length=ms.length/\
  (∀(i:Nat)(u:kB)(k:Int×Int),xs[i]?=some u->ns[i]?=some k->TupI s.heap u [k.1,k.2])/\(∀(i:Nat)(u:kB)(k:Int×Int),ys[i]?=some u->ms[i]?=some k->TupI s.heap u [k.1,k.2])/\R (.ok (.ret (.bool (ltL ns ms)))) s):=by
 intro prog w A R s h;obtain⟨hu,xs,ys,n,m,ns,ms,ha,hb,lx,ly,tx,ty,q⟩:=h;refine kA (m:=CY (.ref b) (.type "list")) (UV (T:="list") (b:=true) ⟨_,hb,rfl⟩ BI ?_);exact kL ⟨vZ vC _,ll_loop (i:=0) hu ha hb lx ly tx ty _ rfl (pG _) (pG _) q⟩
section
variable{prog:ko}{w:pN}{A:pO}{E:kB->kC->Prop}{s:kC}{C:Bool->kC->Prop}
theorem lt_lst{x y:kB}{ns ms:List (Int×Int)}(hx:LstI s.heap x ns)(hy:LstI s.heap y ms)(hu:A.units+70<cLine)(q:C (ltL ns ms) s):wpAny (model prog w) A (keyLt' oneType' x y) C E s:=by
 obtain⟨a,xs,n,rfl,ha,lx,tx⟩:=hx;obtain⟨b,ys,m,rfl,hb,ly,ty⟩:=hy;rw[keyLt'_oneType,oneLt'_eq];simp only[if_true];refine kA (wpAny_cRoomFor (by omega) (kA (wpAny_callSpecialIfBound?_slot ⟨_,ha,rfl⟩ Bt (CS Bt ⟨_,ha,rfl⟩ PySem.F.entry_list_lt (PySem.F.args_list_lt_2 _ _) (listLt a b) ⟨hu,xs,ys,n,m,ns,ms,ha,hb,lx,ly,tx,ty,?_⟩))))
 exact Qs q
theorem zr0{M:Model}{vs:List kB}{Q:QJ->kC->Prop}(h2:2<=vs.length)(hv:∀v,v∈vs->∃ns,LstI s.heap v ns)(q:Q oneType' s):wpAny M A (Co vs.toArray) Q E s:=by
 refine PySem.W.kas_kind (T:=.type "list") h2 (fun v h=>?_) (by decide) (by decide) q
 obtain⟨ns,a,its,n,rfl,o,_⟩:=hv v h;exact(PySem.W.Looks.ld o).andThen .now
end
open PySem.W (KasT kas_asc kas_desc kas_rev kas_tail3 kas_descPart kas_count kas_place kas_bin kas_sort)
theorem ze6{α β:Type}{ans:Nat->Nat->Bool}{f:α->KasT β}:∀t:KasT α,ansT ans (t.bind f)=ansT ans (f (ansT ans t))
 |.ret _=>rfl
 |.ask i j k=>ze6 (k (ans i j))
section
variable{n:Nat}{ans:Nat->Nat->Bool}
theorem zga{p:Array Nat}{m:Nat}(hm:m<=p.size){k:Nat}(hk:k<m):(kas_rev p 0 m).getD k 0=p.getD (m-1-k) 0:=by
 have e:(kas_rev p 0 m)[k]?=p[m-1-k]?:=by
  unfold kas_rev;rw[vv hm,if_pos (by omega)]
  congr 1
  omega
 rw[ke,ke,e]
theorem zmp{p:Array Nat}{k l:Nat}(hk:k<p.size)(hl:l<=k)(i:Nat):(bubble p k (k-l)).getD i 0=if i=l then p.getD k 0 else if l<i/\i<=k then p.getD (i-1) 0 else p.getD i 0:=by
 have e:=BW hk (k-l) (by omega) i
 have x:k-(k-l)=l:=by omega
 rw[x] at e;rw[ke,e]
 by_cases c1:i=l
 ·rw[if_pos c1,if_pos c1,ke]
 ·rw[if_neg c1,if_neg c1]
  by_cases c2:l<i/\i<=k
  ·rw[if_pos c2,if_pos c2,ke]
  ·rw[if_neg c2,if_neg c2,ke]
end
open PySem.W (kas_sort kas_ask)
def LsI(H:Hp)(v:V)(ns:List (Int×Int)):Prop:=∃(q:Addr)(qs:List V),v=.ref q/\H q=some (.lst qs)/\qs.length=ns.length/\∀(j:Nat)(k:Int×Int),ns[j]?=some k->∃b,qs[j]?=some (.ref b)/\H b=some (.tup [.int k.1,.int k.2])
def KPl:KPT:=fun H zs ans=>∃kp:Nat->List (Int×Int),(∀i,i<zs.length->LsI H (zs.getD i .non) (kp i))/\ans=fun i j=>ltL (kp i) (kp j)
section
variable{X:Cx}{pins:List (Addr×Obj)}{σ:St}{H:Hp}{s:kC}
theorem lstI_of(I:Inv X pins σ H s){v:V}{u:kB}{ns:List (Int×Int)}(h:LsI H v ns)(r:RelV v u):LstI s.heap u ns:=by
 obtain⟨q,qs,rfl,hq,hl,he⟩:=h
 cases(show u=pz q from r);obtain⟨z,its,n,rv,hlen,e⟩:=I.lstM hq;refine⟨q,its,n,rfl,e,by rw[←rv.length];exact hl,fun i u k hu hk=>?_⟩
 obtain⟨b,hb,hH⟩:=he i k hk;obtain⟨v,hv,rr⟩:=vals_get? rv hu;rw[hb] at hv
 cases hv
 cases(show u=pz b from rr);exact zow I (ns:=[k.1,k.2]) hH
theorem zoj(hu:X.A.units+80<cLine):zlj X KPl:=by
 intro pins σ H s zs ks ans I r h;obtain⟨kp,ok,rfl⟩:=h;have len:=r.length;have lst:∀i,i<ks.length->LstI s.heap (ks.getD i pe) (kp i):=fun i hi=>lstI_of I (ok i (by omega)) (zi3 r i (by omega))
 refine⟨oneType',fun h2 Q' q'=>zr0 h2 (fun v hv=>?_) q',fun h2 i j C hi hj cc=>lt_lst (lst i hi) (lst j hj) (by show X.A.units+1+1+70<_;omega) cc⟩
 obtain⟨i,hi,e⟩:=uB.mp hv;refine⟨kp i,?_⟩;have t:=lst i hi;have e':ks.getD i pe=v:=by simp[hi,e]
 rw[e'] at t;exact t
end
def TupR(h:Heap)(v:kB)(ns ms:List Int)(l r:Bool):Prop:=∃(a:Addr)(x y:kB)(n:Nat)(dd:Option Addr)(sl:Array (Option kB)),v=.ref a/\h.get? a=some {cls:=.type "tuple",dict:=dd,data:=.seq #[x,y,.bool l,.bool r] n,slots:=sl}/\TupI h x ns/\TupI h y ms
open PySem.W (KatTups) in
theorem ktupsR{h:Heap}:∀vs:List kB,(∀v,v∈vs->∃a b l r,a≠[]/\TupR h v a b l r)->∃fs,fs.length=vs.length/\KatTups h vs fs/\∀f,f∈fs->∃ns,TupI h f ns
 |[],_=>⟨[],rfl,.nil,fun f hf=>by cases hf⟩
 |v::vs,hv=>by
  obtain⟨fs,l,t,r⟩:=ktupsR vs fun u hu=>hv u (pB _ hu);obtain⟨a,b,l',r',ne,p,x,y,n,dd,sl,rfl,o,i,j⟩:=hv v (pD ..);refine⟨x::fs,by simp[l],.cons o rfl rfl rfl t,fun f hf=>?_⟩
  rcases kr.mp hf with rfl|hf
  ·exact⟨_,i⟩
  ·exact r f hf
open PySem.W (CodeHd codeHdIn tabIn)
structure FunC(K:kJ)(x qual:Str)(st:Stmt)(f:Addr)(fd:UU)(c P:Addr):Prop where
 ex:∃(oc:kB)(od:Option Addr)(kV doc pm:kB)(an:Option Addr)(ct:kB)(osl:Array (Option kB)),
  fd=kE x qual (za6 st) (za5 st) (za0 st) .none kV doc pm an (.ref c) ct/\K.lookup f=some ⟨oc,od,.func fd,osl⟩/\kU K (.ref c) qual=true
 hd:codeHdIn K c P=true
section
variable{P:ko}{w:pN}{K:kJ}{mg:Str->Option kB}{base:Heap}
theorem FunC.ok{x qual:Str}{st:Stmt}{f c tb:Addr}{fd:UU}{N ps:List Str}{k:Nat}{sp:Sp}(F:FunC K x qual st f fd c tb)(S:zab N ps (za0 st))(len:∀vs H Q E,sp vs H Q E->vs.length=ps.length)
  (hbody:∀(A:pO)(outer:List Env)(s:kC)(H:Hp)(vs:List V)(Q:VK)(E:XK),Room k (A.deeper (Uf qual (za0 st) s.heap.objs.size f (.ref c)))->sp vs H Q E->
   ∃t,PSs (cxOf CX0 P w K mg base N qual (za0 st) f (.ref c) A outer s H E).nox (za5 st) t/\t {nx:=fun _ H'=>Q .non H',rt:=Q} (start N vs) H):FnOk P w K mg base CX0 (k+1) f fd ps sp:=by
 obtain⟨oc,od,kV,doc,pm,an,ct,osl,rfl,lk,hcd⟩:=F.ex;refine fn_of lk hcd S len fun A outer s H vs Q E hr hsp=>?_;obtain⟨t,h,q⟩:=hbody A outer s H vs Q E hr hsp;exact⟨t,h.nox,q⟩
end
theorem zah.ne{H:Hp}{P:Addr}{pos:Pos}{q:Str}(t:zah H P pos q){a:Addr}{o:HO}(h:H a=some o)(n:∀ps,o≠.tbl ps):a≠P:=fun z=>by
 obtain⟨ps,e,_⟩:=t;rw[z,e] at h
 cases h;exact n ps rfl
theorem zdc.tup{P:Addr}{pos:Pos}{q:Str}{H H':Hp}(g:zdc P H H')(t:zah H P pos q){a:Addr}{xs:List V}(h:H a=some (.tup xs)):H' a=some (.tup xs):=g a _ (t.ne h fun _ z=>nomatch z) h
theorem zdc.lst{P:Addr}{pos:Pos}{q:Str}{H H':Hp}(g:zdc P H H')(t:zah H P pos q){a:Addr}{xs:List V}(h:H a=some (.lst xs)):H' a=some (.lst xs):=g a _ (t.ne h fun _ z=>nomatch z) h
open PySem.W (kas_sort)
structure STO{α:Type}(lt:α->α->Bool):Prop where
 irr:∀a,lt a a=false
 tr:∀a b c,lt a b=true->lt b c=true->lt a c=true
 tot:∀a b,a≠b->lt a b=true∨lt b a=true
def lexB{α β:Type}[DecidableEq α](r:α->α->Bool)(s:β->β->Bool)(a b:α×β):Bool:=if a.1=b.1 then s a.2 b.2 else r a.1 b.1
theorem STO.lex{α β:Type}[DecidableEq α]{r:α->α->Bool}{s:β->β->Bool}(R:STO r)(S:STO s):STO (lexB r s) where
 irr a:=by unfold lexB;rw[if_pos rfl];exact S.irr _
 tr a b c h1 h2:=by
  unfold lexB at*
  by_cases e1:a.1=b.1
  ·rw[if_pos e1] at h1
   by_cases e2:b.1=c.1
   ·rw[if_pos e2] at h2;rw[if_pos (e1.trans e2)];exact S.tr _ _ _ h1 h2
   ·rw[if_neg e2] at h2;rw[if_neg (fun z=>e2 (e1.symm.trans z)),e1];exact h2
  ·rw[if_neg e1] at h1
   by_cases e2:b.1=c.1
   ·rw[if_neg (fun z=>e1 (z.trans e2.symm)),←e2];exact h1
   ·rw[if_neg e2] at h2;have n:a.1≠c.1:=fun z=>by
     rw[←z] at h2;have:=R.tr _ _ _ h1 h2;rw[R.irr] at this
     cases this
    rw[if_neg n];exact R.tr _ _ _ h1 h2
 tot a b h:=by
  unfold lexB
  by_cases e:a.1=b.1
  ·rw[if_pos e,if_pos e.symm];exact S.tot _ _ fun z=>h (EC e z)
  ·rw[if_neg e,if_neg fun z=>e z.symm];exact R.tot _ _ e
theorem STO.int:STO (fun a b:Int=>decide (a<b)) where
 irr a:=decide_eq_false (by omega)
 tr a b c h1 h2:=decide_eq_true (by have:=of_decide_eq_true h1;have:=of_decide_eq_true h2;omega)
 tot a b h:=by
  rcases Int.lt_or_gt_of_ne h with h|h
  ·exact .inl (decide_eq_true h)
  ·exact .inr (decide_eq_true h)
abbrev lt2:Int×Int->Int×Int->Bool:=lexB (fun a b=>decide (a<b)) (fun a b=>decide (a<b))
theorem sto2:STO lt2:=STO.int.lex STO.int
theorem lex1(a b:Int):HT.lexLt [a] [b]=decide (a<b):=by
 rw[HT.lexLt_cons,HT.lexLt_nil_nil]
 by_cases e:a=b
 ·rw[if_pos e];exact(decide_eq_false (by omega)).symm
 ·rw[if_neg e]
theorem lex2(a b c d:Int):HT.lexLt [a,b] [c,d]=lt2 (a,b) (c,d):=by
 rw[HT.lexLt_cons,lex1];rfl
end L2
namespace L2
open PySem
theorem hu80{A:pO}{k:Nat}(hr:Room k A):A.units+80<cLine:=by have:=hu100 hr;omega
def lamAt(st:Stmt):Scope×Pos:=match(za5 st).getLast? with
 |some (.Return (some (.Call _ _ (⟨_,.Lambda _ _ sc lp,_⟩::_) _)) _)=>(sc,lp)
 |_=>(za0 st,⟨0,0,0,0⟩)
theorem pi_tupK{X:Cx}{tg l:Expr}{tl:TE}{K':kJ}(hK:X.K=K')(hl:PE X l tl):PI X tg l (iTup K' tl):=by
 subst hK;exact pi_tup hl
end L2
namespace L2
open PySem PySem.Spec PyProof.Rows
def cnt(mask:Nat)(owner:Array (Option Nat)):Nat:=((QL (mask+1)).filter fun j=>(owner.getD j none).isSome).length
section
variable{prog:ko}{w:pN}{A:pO}{E:kB->kC->Prop}{s:kC}{R:Ds->kC->Prop}
theorem zok(hh:A.handled=none)(I d:Addr)(hne:d≠I){od:Obj}{es:Array jV}{ep:Nat}(hdat:od.data=.dict es ep):
  Walks prog w A I [I,d] [I] es.size (fun i v=>∃e,es[i]?=some e/\v=e.key) (fun i h=>h.IsKeyIter I d i es.size ep/\h.get? d=some od) where
 sub:=fun b hb=>by simp at hb;simp[hb]
 frame:=fun _ _ _ st hk=>⟨st.1.at fun o e=>hk I (by simp) o e,hk d (by simp) _ st.2⟩
 item:=fun i s Q E hi st hQ=>by
  refine zo7 st.1 st.2 hdat hi fun h' hit' hs'=>?_;exact hQ _ h' s.toks ⟨_,pK hi,rfl⟩ ⟨hit',hs'.extBut d od hne st.2⟩ fun b o hb e=>hs'.extBut b o (fun h=>hb (by simp[h])) e
 done:=fun s Q E st hQ=>zsf hh st.1 st.2 hdat (kM _) fun h' he'=>hQ h' s.toks fun b o hb e=>he' b o (fun h=>hb (by simp[h])) e
 self:=fun _ _ _ _ st hQ=>wpAny_pyIter_keyiter st.1 hQ
theorem zlv(hh:A.handled=none){d:Addr}{od:Obj}{es:Array jV}{ep:Nat}(hd:(d==ul)=false)(ho:s.heap.get? d=some od)(hc:od.cls=.type "dict")(hdat:od.data=.dict es ep)(S:Addr)(res:kB)(c₀:Nat)(hS:s.heap.get? S=some {cls:=.type "list",data:=.seq #[] c₀})
  (hR:∀h' tk acc' c',(∀b o,b≠S->s.heap.get? b=some o->h'.get? b=some o)->h'.get? S=some {cls:=.type "list",dict:=none,data:=.seq acc' c',slots:=#[]}->
   EW (fun i v=>∃e,es[i]?=some e/\v=e.key) acc' es.size->R (.ok (.ret res)) {s with heap:=h',toks:=tk}) (hn:es.size<=sizeLine):
  wpAny (model prog w) A.in1 (Qq (.ref S) (.ref d) res)
   (fun fin s'=>match fin with|.done f=>R (.ok f) s'|.again c'=>c'.quiet=true/\jH (model prog w) A c' R s') (fun e s'=>R (.error e) s') s:=by
 have hSd:S≠d:=fun e=>by rw[e,ho] at hS;cases hS;cases hdat
 have hSI:S≠s.heap.objs.size:=pL (ki hS);have hdI:d≠s.heap.objs.size:=pL (ki ho);have hSf:S∉[s.heap.objs.size,d]:=fun hm=>(kr.mp hm).elim hSI fun z=>hSd (kf.mp z);have ty:s.TypeIs (.ref d) "dict":=⟨od,ho,hc⟩;unfold Qq;refine kA (wpAny_typeOf ty ?_);have h1:Ag (.ref S) (.ref d)=false:=by simp[Ag,hSd]
 have h2:(Us "dict"==Us "list")=false:=by decide
 have h3:(Us "dict"==Us "tuple")=false:=by decide
 simp only[h1,h2,h3,EL,pJ,if_false];refine kA (zpa hd ho hc hdat ?_);generalize hit:s.heap.push {cls:=.type "dict_keyiterator",data:=.fields #[.ref d,.int 0 0,.int es.size 0,.int ep 0]}=h1;have k1:∀b o,s.heap.get? b=some o->h1.get? b=some o:=fun b o e=>by rw[←hit];exact kI _ e
 have st1:h1.IsKeyIter s.heap.objs.size d 0 es.size ep:=by rw[←hit];exact⟨_,kh _ rfl,rfl,rfl⟩
 have ty1:Shared.TypeIs {s with heap:=h1} (.ref d) "dict":=⟨od,k1 _ _ ho,hc⟩;refine kA (UG ?_);unfold Builtin.List.listLengthHint;refine kA (vW ty1 PySem.F.slot_dict_len.lookup ?_)
 wp_delta
 refine kA (UV ty1 (b:=true) (by rw[pZ];kernel_rfl) ?_)
 show wpAny _ _ (DI (pz d)>>=_) _ _ _
 refine kA (wpAny_typeOf ty1 ?_);refine kL ?_;rw[if_pos (by decide)]
 refine kA (QM ?_);refine kA ?_;show wpAny _ _ (ER S (·.push .none)>>=fun _=>ER S (·.pop)) _ _ _;have hS₁:=k1 _ _ hS;refine kA (Ui hS₁ rfl ?_);have hS₂:=QB (kx (·.push pe)) hS₁ rfl;refine Ui (hz:=by seq_fits) hS₂ rfl ?_
 have hS₃:=QB (kx (·.pop)) hS₂ rfl;have oth:∀b o,b≠S->h1.get? b=some o->((h1.update S (kx (·.push pe))).update S (kx (·.pop))).get? b=some o:=
  fun b o hb e=>(uW _ _ (Ul hb)).trans ((uW _ _ (Ul hb)).trans e)
 refine kL ⟨vZ F.plain_extend_loop _,codeAny_extend_loopS (zok (A:=A.in1) hh s.heap.objs.size d hdI hdat).toS hn _ hSf _ es.size 0 _ _ _ rfl (pG _) ⟨st1.at fun o e=>oth _ o (Ul hSI) e,oth _ _ (Ul hSd) (k1 _ _ ho)⟩ hS₃ (ItemsOf.nil _) fun s' acc' c' hm hS' hacc=>?_⟩;rw[Moved.eq_with hm];refine hR s'.heap s'.toks acc' c' (fun b ob hb e=>hm.heap b ob (fun hmem=>?_) (oth b ob hb (k1 _ _ e))) hS' hacc;rcases kr.mp hmem with e'|hmem
 ·exact hb e'
 ·exact absurd (ki e) (by rw[kf.mp hmem];exact UD _)
theorem zia(hh:A.handled=none){d:Addr}{od:Obj}{es:Array jV}{ep:Nat}(hd:(d==ul)=false)(ho:s.heap.get? d=some od)(hc:od.cls=.type "dict")(hdat:od.data=.dict es ep)(S:Addr)(hS:s.heap.get? S=some {cls:=.type "list",data:=.seq #[]})
  (hR:∀h' tk acc' c',(∀b o,b≠S->s.heap.get? b=some o->h'.get? b=some o)->h'.get? S=some {cls:=.type "list",dict:=none,data:=.seq acc' c',slots:=#[]}->
   EW (fun i v=>∃e,es[i]?=some e/\v=e.key) acc' es.size->R (.ok (.ret .none)) {s with heap:=h',toks:=tk}) (hn:es.size<=sizeLine):
  wpAny (model prog w) A.in1 (vn.«list.__init__» ⟨[.ref S,.ref d],[]⟩)
   (fun fin s'=>match fin with|.done f=>R (.ok f) s'|.again c'=>c'.quiet=true/\jH (model prog w) A c' R s') (fun e s'=>R (.error e) s') s:=by
 have hSd:S≠d:=fun e=>by rw[e,ho] at hS;cases hS;cases hdat
 show wpAny _ _ (do let old ←BK (.ref S);Builtin.List.listUpdate (.ref S) (fun _=>#[]);letGo old.toList.reverse;Qq (.ref S) (.ref d) .none) _ _ s
 refine kA ?_;unfold BK;refine kA (uf hS rfl (kL ?_));show wpAny _ _ (ER S (fun _=>#[])>>=fun _=>letGo (#[]:Array kB).toList.reverse>>=fun _=>Qq (.ref S) (.ref d) .none) _ _ s;refine kA (Ui hS rfl ?_);have hS₂:=QB (kx (fun _=>(#[]:Array kB))) hS rfl;have oth:∀b o,b≠S->s.heap.get? b=some o->(s.heap.update S (kx (fun _=>(#[]:Array kB)))).get? b=some o:=
  fun b o hb e=>(uW _ _ (Ul hb)).trans e
 refine kA (vI ?_);refine zlv hh hd (oth d _ (Ul hSd) ho) hc hdat S .none _ hS₂ (fun h' tk acc' c' hk hS' hacc=>?_) hn;exact hR h' tk acc' c' (fun b o hb e=>hk b o hb (oth b o hb e)) hS' hacc
theorem ze1{Q:kB->kC->Prop}(hh:A.handled=none){d:Addr}{od:Obj}{es:Array jV}{ep:Nat}(hd:(d==ul)=false)(ho:s.heap.get? d=some od)(hc:od.cls=.type "dict")(hdat:od.data=.dict es ep)
  (hQ:∀h' tk acc' c',(∀b o,s.heap.get? b=some o->h'.get? b=some o)->h'.get? s.heap.objs.size=some {cls:=.type "list",dict:=none,data:=.seq acc' c',slots:=#[]}->
   EW (fun i v=>∃e,es[i]?=some e/\v=e.key) acc' es.size->Q (.ref s.heap.objs.size) {s with heap:=h',toks:=tk}) (hn:es.size<=sizeLine):
  wpAny (model prog w) A (call (.type "list") [.ref d]) Q E s:=by
 refine callType_codes (Q₁:=fun obj s₁=>obj=.ref s.heap.objs.size/\s₁={s with heap:=s.heap.push {cls:=.type "list",data:=.seq #[]}}) PySem.F.called_list (PySem.F.typeCall_list_1 _) PySem.F.entry_list_init
  (code_list_new _ ⟨rfl,rfl⟩) fun obj s₁ h₁=>?_
 obtain⟨rfl,rfl⟩:=h₁;have hS:(s.heap.push {cls:=.type "list",data:=.seq #[]}).get? s.heap.objs.size=some {cls:=.type "list",data:=.seq #[]}:=kh _ rfl;refine⟨⟨_,hS,rfl⟩,PySem.F.args_list_init_2 _ _,zia (A:=A.in1) hh hd (kI _ ho) hc hdat _ hS (fun h' tk acc' c' hk hS' hacc=>?_) hn⟩;exact⟨rfl,hQ h' tk acc' c' (fun b o e=>hk b o (pL (ki e)) (kI _ e)) hS' hacc⟩
end
section
variable{X:Cx}
def zpl:List V->Hp->VK->Prop:=fun xs H Q=>∃d kvs,xs=[.ref d]/\H d=some (.dT kvs)/\∀(bs:List Addr) l,bs.length=kvs.length->(∀(j:Nat)(b:Addr)(kv:List Key×V),bs[j]?=some b->kvs[j]?=some kv->H b=some (.tup (kv.1.map kV)))->H l=none->Q (.ref l) (upd H l (.lst (bs.map .ref)))
theorem zis{f:List Addr}:∀{acc:List kB},acc=f.map pz->Vals (f.map V.ref) acc:=by
 intro acc e;subst e
 induction f with
 |nil=>exact .nil
 |cons a f ih=>exact .cons rfl ih
theorem zit(hc:X.calm=true):zdk X (.type "list") zpl:=by
 intro pins s σ H xs us Q I r h;obtain⟨d,kvs,rfl,e,q⟩:=h;obtain⟨u,rfl,rx⟩:=vals1 r
 cases rx;obtain⟨z,hd,xs,rel,o,es,ep,ho,hx,hdat,he,_⟩:=I.hok d _ e;have hk:es.toList.map (·.key)=(xs.map fun q=>q.2.1).map pz:=by
  rw[he,QV,QV];rfl
 have lb:(xs.map fun q=>q.2.1).length=kvs.length:=by rw[kP];exact(gA rel).symm
 have ls:es.size=kvs.length:=by
  have:=congrArg vH hk;rw[kP,kP,lb] at this
  simpa using this
 refine ze1 (I.ok.hd hc) hd ho hx.1 hdat (fun h' tk acc' c' kp hS hacc=>?_) (by omega)
 have ea:acc'.toList=(xs.map fun q=>q.2.1).map pz:=by
  rw[←hk];refine ve fun j=>?_;rw[kj,pW,pW];have ha:acc'.size=es.size:=hacc.1
  by_cases hj:j<es.size
  ·have hj':j<acc'.size:=by omega
   obtain⟨e,e1,e2⟩:=hacc.2 j acc'[j] (pK hj');rw[pK hj',e1,e2];rfl
  ·rw[QU (by omega),QU (by omega)]
   rfl
 refine⟨.ref s.heap.objs.size,_,I.laid (t':=tk) kp (kM _) (o:=.lst ((xs.map fun q=>q.2.1).map .ref)) ⟨by rw[kP,lb];exact z,acc'.toList,c',zis ea,by simpa using hS⟩,rfl,q _ _ lb (zks rel) (I.hok.fresh (kM _))⟩
end
namespace RV
end RV
section
variable{prog:ko}{w:pN}{K:Type}[DecidableEq K](knd:KeyKind prog w K)
inductive zes(h:Heap):List (List K)->List kB->Prop
 |nil:zes h [] []
 |cons {k:List K} {b:Addr} {ks:List (List K)} {vs:List kB}:IsTupleKey knd h k b->zes h ks vs->zes h (k::ks) (.ref b::vs)
def zdt(h:Heap)(ks:List (List K))(a:Addr):Prop:=∃o items n,h.get? a=some o/\o.cls=.type "tuple"/\o.data=.seq items n/\zes knd h ks items.toList
variable{knd}
theorem zes.inj{h:Heap}{x y:List (List K)}{vs:List kB}(hx:zes knd h x vs)(hy:zes knd h y vs):x=y:=by
 induction hx generalizing y with
 |nil=>cases hy;rfl
 |cons h1 _ ih=>
  cases hy with
  |cons h2 t2=>rw[h1.inj h2,ih t2]
theorem zdt.typeIs{s:kC}{ks:List (List K)}{a:Addr}(x:zdt knd s.heap ks a):s.TypeIs (.ref a) "tuple":=let⟨o,_,_,ho,hc,_⟩:=x;⟨o,ho,hc⟩
theorem zdt.inj{h:Heap}{a:Addr}{x y:List (List K)}(hx:zdt knd h x a)(hy:zdt knd h y a):x=y:=by
 obtain⟨o,items,n,ho,_,hd,hi⟩:=hx;obtain⟨o',items',n',ho',_,hd',hi'⟩:=hy;obtain rfl:o=o':=pV (ho.symm.trans ho');rw[hd] at hd'
 injection hd' with h1 _
 subst h1;exact hi.inj hi'
theorem zdt.keeps{h h':Heap}{ks:List (List K)}{a d:Addr}{o:Obj}{es ep}(x:zdt knd h ks a)(ho:h.get? d=some o)(hd:o.data=.dict es ep)(hs:vJ d h h'):zdt knd h' ks a:=by
 obtain⟨o',items,n,ho',hc,hd',hi⟩:=x;have hne:a≠d:=by
  rintro rfl;obtain rfl:o'=o:=pV (ho'.symm.trans ho);rw[hd] at hd';exact nomatch hd'
 refine⟨o',items,n,(hs.2 a hne).trans ho',hc,hd',?_⟩;generalize items.toList=vs at hi
 induction hi with
 |nil=>exact .nil
 |cons h1 _ ih=>exact .cons (h1.keeps ho hd hs) ih
def zjp(knd:KeyKind prog w K)(ks:List (List K)):Int:=reduceHash (QY (ks.map (jk knd)))
def zdn(ks:List (List K)):Nat:=(ks.map fun k=>k.length+1).sum
variable{A:pO}{E:kB->kC->Prop}{s:kC}
theorem zm6{ks:List (List K)}{a:Addr}{Q:Int->kC->Prop}(hu:A.units+2<cLine)(hk:zdt knd s.heap ks a)(h:Q (zjp knd ks) {s with toks:=s.toks+(zdn ks+1)}):
  wpAny (model prog w) A (pyHash (.ref a)) Q E s:=by
 have hT:=hk.typeIs;obtain⟨o,items,n,ho,_,hd,hi⟩:=hk;unfold pyHash
 first|unfold pyHashByItsType|skip
 first|refine kA (wpAny_cRoomFor_or (.inr (by omega)) ?_)|skip
 refine kA (vW hT vD.lookup ?_);show wpAny _ _ (if(some (Value.builtin "tuple.__hash__")==some pe)=true then _ else _) Q E s;rw[if_neg (by rw[beq_builtin_none];exact pI)]
 refine kA (vW hT vD.lookup ?_);show wpAny _ _ (callSpecialIfBoundUnlessNone? (.ref a) "__hash__" _>>=_) Q E s;refine kA (wpAny_callSpecialIfBoundUnlessNone?_slot hT vD (Ql vD hT PySem.F.entry_tuple_hash ?_ (PySem.F.args_tuple_hash_1 _)));show wpAny _ _ (Builtin.Tuple.tupleItemsOf (.ref a)>>=_) _ _ s;refine kA (AF ho hd ?_);refine kA ?_;rw[←AG];refine Uy _
  (fun rest(b:Array Int) s'=>∃done left,ks=done++left/\zes knd s.heap left rest/\b.toList=done.map (jk knd)/\s'={s with toks:=s.toks+zdn done})
  _ ?_ ?_ _ _ ⟨[],ks,rfl,hi,rfl,rfl⟩
 ·rintro x rest b s' ⟨done,left,rfl,hl,hb,rfl⟩
  cases hl with
  |@cons k b' ks' _ h1 hl'=>
   refine kA ((jQ knd).pyHash (k:=k) (vR (by omega)) h1 ?_)
   have e:zdn (done++[k])=zdn done+(k.length+1):=by simp[zdn]
   have eh:∀t,({({s with toks:=s.toks+zdn done}:kC) with toks:=t}:kC)={s with toks:=t}:=fun _=>rfl
   first
    |exact kL ⟨done++[k],ks',by simp,hl',by simp[hb,jQ],by rw[e,←jD];rfl⟩
    |exact kA (kL (kL ⟨done++[k],ks',by simp,hl',by simp[hb,jQ],by rw[e,←jD];rfl⟩))
 ·rintro b s' ⟨done,left,rfl,hl,hb,rfl⟩
  cases hl;rw[uv] at h;show wpAny _ _ (retInt (QY b.toList)) _ _ _;rw[hb];refine wpAny_ret_mkInt ?_;show wpAny _ _ (if(decide (-(2:Int)^63<=QY (done.map (jk knd)))&&decide (QY (done.map (jk knd))<2^63))=true then _ else _) Q E _;unfold zjp reduceHash at h
  by_cases hr:(decide (-(2:Int)^63<=QY (done.map (jk knd)))&&decide (QY (done.map (jk knd))<2^63))=true
  ·rw[if_pos hr];rw[if_pos hr] at h;exact kL (by simpa[jD] using h)
  ·rw[if_neg hr];rw[if_neg hr] at h;exact kA (QM (kL (by simpa[jD] using h)))
theorem zk7{x y:List (List K)}{a b:Addr}{P:UQ->kC->Prop}(hu:A.units<cLine)(hx:zdt knd s.heap x a)(hy:zdt knd s.heap y b)(h:P (.done (.ret (.bool (decide (x=y))))) s):
  wpAny (model prog w) A (vn.«tuple.__eq__» ⟨[.ref a,.ref b],[]⟩) P E s:=by
 have hTb:=hy.typeIs;obtain⟨oa,xs,na,hoa,_,hda,hia⟩:=hx;obtain⟨ob,ys,nb,hob,_,hdb,hib⟩:=hy;show wpAny _ _ (CY (.ref b) (.type "tuple")>>=_) _ _ s;refine kA (UV hTb jy ?_);simp only[Qr,pJ,if_false];refine kA (AF hoa hda ?_);refine kA (AF hob hdb ?_);refine kA ?_;refine Uy _
  (fun rest r s'=>r.1=none/\s'=s/\∃x' y' xs' ys',rest=List.zip xs' ys'/\zes knd s.heap x' xs'/\zes knd s.heap y' ys'/\decide (x'=y')=decide (x=y)/\(xs'.length==ys'.length)=(xs.size==ys.size))
  _ ?_ ?_ _ _ ⟨rfl,rfl,x,y,xs.toList,ys.toList,rfl,hia,hib,rfl,by simp⟩
 ·rintro⟨u,v⟩ rest r s' ⟨hr,rfl,x',y',xs',ys',hz,hx',hy',hdec,hlen⟩
  cases hx' with
  |nil=>simp at hz
  |@cons k1 u' x'' xs'' h1 hx''=>
   cases hy' with
   |nil=>simp at hz
   |@cons k2 v' y'' ys'' h2 hy''=>
    simp only[vP,jK,CO] at hz;obtain⟨⟨rfl,rfl⟩,rfl⟩:=hz;refine kA ((jQ knd).eqBool (x:=k1) (y:=k2) hu h1 h2 ?_)
    by_cases hk:k1=k2
    ·subst hk;rw[decide_eq_true rfl];simp only[Qr,pJ,if_false];refine kL ⟨rfl,rfl,x'',y'',xs'',ys'',rfl,hx'',hy'',?_,by simpa using hlen⟩
     rw[←hdec]
     by_cases hxy:x''=y''
     ·simp[hxy]
     ·simp[hxy]
    ·rw[decide_eq_false hk];simp only[vm,if_true];have hf:decide (x=y)=false:=by rw[←hdec];simp[hk]
     rw[hf] at h;exact kA (kL (kL (kL h)))
 ·rintro⟨r1,r2⟩ s' ⟨hr,rfl,x',y',xs',ys',hz,hx',hy',hdec,hlen⟩
  simp only at hr
  subst hr;refine kL ?_;have hfin:(xs.size==ys.size)=decide (x=y):=by
   rw[←hdec,←hlen]
   cases hx' with
   |nil=>
    cases hy' with
    |nil=>simp
    |cons _ _=>simp
   |cons _ _=>
    cases hy' with
    |nil=>simp
    |cons _ _=>simp at hz
  show P (.done (.ret (.bool (xs.size==ys.size)))) s'
  rw[hfin];exact h
theorem zl9{x y:List (List K)}{a b:Addr}{Q:Bool->kC->Prop}(hu:A.units+2<cLine)(hx:zdt knd s.heap x a)(hy:zdt knd s.heap y b)(h:Q (decide (x=y)) s):
  wpAny (model prog w) A (eqBool (.ref a) (.ref b)) Q E s:=by
 unfold eqBool
 try with_reducible refine UG ?_
 show wpAny _ _ (if(pz a==pz b)=true then _ else _) Q E s
 by_cases hab:(pz a==pz b)=true
 ·rw[if_pos hab];have e:a=b:=by have:=pE hab;injection this
  subst e;obtain rfl:=hx.inj hy;exact kA (QM (kL (by simpa using h)))
 ·rw[if_neg hab];exact kA (wpAny_richCompare_same_room (op:=.Eq) hx.typeIs hy.typeIs vd
   (Ql vd hx.typeIs PySem.F.entry_tuple_eq (zk7 (vR (knd:=knd) (by omega)) hx hy ⟨_,rfl,(fun e=>nomatch e),Qs h⟩) (PySem.F.args_tuple_eq_2 _ _)) (by omega))
theorem znm(n:Nat){ks:List K}{a:Addr}{Q:Bool->kC->Prop}(hk:IsTupleKey knd s.heap ks a)(h:Q true s):wpAny (model prog w) A (DO (n+1) (.ref a)) Q E s:=by
 have hT:=hk.typeIs;obtain⟨o,items,m,ho,_,hd,hi⟩:=hk;unfold DO;refine kA (vW hT vd.lookup ?_);show wpAny _ _ (CY (.ref a) (.type "tuple")>>=_) _ _ s;refine kA (UV hT jy ?_);simp only[Qr,pJ,if_false];refine kA (uf ho hd ?_);refine kA ?_;show wpAny _ _ (forIn items _ _) _ _ s;rw[←AG];refine Uy _ (fun rest r s'=>r.1=none/\s'=s/\∀v∈rest,carriedByValue v=true) _ ?_ ?_ _ _ ⟨rfl,rfl,hi.byValue⟩
 ·rintro v rest r s' ⟨hr,rfl,hall⟩;rw[eqIsQuiet_byValue _ (hall v pD)];refine kA (kL ?_);simp only[Qr,pJ,if_false];exact kL ⟨rfl,rfl,fun u hu'=>hall u (pB _ hu')⟩
 ·rintro⟨r1,r2⟩ s' ⟨hr,rfl,_⟩
  simp only at hr
  subst hr;exact kL h
theorem zo8{ks:List (List K)}{a:Addr}{Q:Bool->kC->Prop}(hk:zdt knd s.heap ks a)(h:Q true s):wpAny (model prog w) A (DO 8 (.ref a)) Q E s:=by
 have hT:=hk.typeIs;obtain⟨o,items,n,ho,_,hd,hi⟩:=hk;unfold DO;refine kA (vW hT vd.lookup ?_);show wpAny _ _ (CY (.ref a) (.type "tuple")>>=_) _ _ s;refine kA (UV hT jy ?_);simp only[Qr,pJ,if_false];refine kA (uf ho hd ?_);refine kA ?_;show wpAny _ _ (forIn items _ _) _ _ s;rw[←AG];refine Uy _ (fun rest r s'=>r.1=none/\s'=s/\∃left,zes knd s.heap left rest) _ ?_ ?_ _ _ ⟨rfl,rfl,ks,hi⟩
 ·rintro v rest r s' ⟨hr,rfl,left,hl⟩
  cases hl with
  |@cons k b ks' _ h1 hl'=>
   refine kA (znm 6 h1 ?_);simp only[Qr,pJ,if_false];exact kL ⟨rfl,rfl,ks',hl'⟩
 ·rintro⟨r1,r2⟩ s' ⟨hr,rfl,_⟩
  simp only at hr
  subst hr;exact kL h
end
def zeg{prog:ko}{w:pN}{K:Type}[DecidableEq K](knd:KeyKind prog w K):HeapKind prog w (List (List K)) where
 is:=zdt knd
 hash:=zjp knd
 draws:=fun ks=>zdn ks+1
 room:=fun A=>A.units+2<cLine
 inj:=fun hx hy=>hx.inj hy
 keeps:=fun x ho hd hs=>x.keeps ho hd hs
 pyHash:=fun hu hk h=>zm6 hu hk h
 eqBool:=fun hu hx hy h=>zl9 hu hx hy h
 quiet:=fun hk h=>zo8 hk h
theorem zjs{prog:ko}{w:pN}{K:Type}[DecidableEq K]{knd:KeyKind prog w K}{A:pO}(hu:A.units+3<cLine):(zeg knd).room A.in1:=by
 show A.in1.units+2<cLine
 simp
 omega
abbrev K2:=List (List Key)
def NK(H:Hp)(b:Addr)(ks:K2):Prop:=∃cs:List Addr,H b=some (.tup (cs.map V.ref))/\Az (fun(c:Addr)(k:List Key)=>H c=some (.tup (k.map kV))) cs ks
theorem NK.ts{H H':Hp}{b:Addr}{ks:K2}(h:NK H b ks)(g:∀b xs,H b=some (.tup xs)->H' b=some (.tup xs)):NK H' b ks:=by
 obtain⟨cs,h1,h2⟩:=h;exact⟨cs,g _ _ h1,Paired.mapP h2 fun _ _ z=>g _ _ z⟩
theorem NK.two{H:Hp}{b c d:Addr}{k l:List Key}(h:H b=some (.tup [.ref c,.ref d]))(h1:H c=some (.tup (k.map kV)))(h2:H d=some (.tup (l.map kV))):NK H b [k,l]:=⟨[c,d],h,.cons h1 (.cons h2 .nil)⟩
section
variable{P:ko}{w:pN}{H:Hp}{h:Heap}{a b:Addr}
theorem zon{cs:List Addr}{its:List kB}{ks:K2}(ok:HOk P w H h)(r:Vals (cs.map V.ref) its)(p:Az (fun(c:Addr)(k:List Key)=>H c=some (.tup (k.map kV))) cs ks):zes (zbq P w) h ks its:=by
 induction p generalizing its with
 |nil=>cases r;exact .nil
 |@cons c k cs ks h1 _ ih=>
  rw[pC] at r
  cases r with
  |cons r1 r2=>
   cases r1;exact .cons (zkq ok h1) (ih r2)
theorem ziy{ks:K2}(ok:HOk P w H h)(e:NK H b ks):(zeg (zbq P w)).is h ks b:=by
 obtain⟨cs,e1,e2⟩:=e;obtain⟨_,its,r,o,h1,h2,n,h3⟩:=(show zd9 P w H h b (.tup (cs.map V.ref)) from ok b _ e1);exact⟨o,its.toArray,n,h1,h2,h3,by simpa using zon ok r e2⟩
end
abbrev N3:=K2×Addr×V
def KNp:List N3->List (K2×Addr×kB)->Prop:=Az fun p q=>p.1=q.1/\p.2.1=q.2.1/\RelV p.2.2 q.2.2
def nD(P:ko)(w:pN)(a:Addr)(kvs:List N3):HO:=.ext fun h=>(a==ul)=false/\kvs.length<=sizeLine/\(kvs.map (·.1)).Nodup/\∃xs,KNp kvs xs/\∃o es ep,h.get? a=some o/\o.ExactDict/\o.data=.dict es ep/\es.toList=xs.map (Dq (zeg (zbq P w)))
def KN(H:Hp)(kvs:List N3):Prop:=∀p,p∈kvs->NK H p.2.1 p.1
theorem KN.ts{H H':Hp}{kvs:List N3}(h:KN H kvs)(g:∀b xs,H b=some (.tup xs)->H' b=some (.tup xs)):KN H' kvs:=fun p hp=>(h p hp).ts g
def valN(kvs:List N3)(k:K2):Option V:=(kvs.find? fun kv=>decide (kv.1=k)).map (·.2.2)
def putN(kvs:List N3)(k:K2)(b:Addr)(v:V):List N3:=if(valN kvs k).isSome=true then kvs.map (fun kv=>if kv.1=k then(kv.1,kv.2.1,v) else kv) else kvs++[(k,b,v)]
theorem zmy{p:N3}{r:List N3}{k:K2}(e:p.1=k):valN (p::r) k=some p.2.2:=by simp[valN,Qh,e]
theorem znc{p:N3}{r:List N3}{k:K2}(e:¬p.1=k):valN (p::r) k=valN r k:=by simp[valN,Qh,e]
theorem zmc{kvs:List N3}{k:K2}:(valN kvs k).isSome=true↔k∈kvs.map (·.1):=by
 induction kvs with
 |nil=>simp[valN]
 |cons p r ih=>
  by_cases e:p.1=k
  ·rw[zmy e];simp[e]
  ·rw[znc e,ih,pC,kr];exact⟨.inr,fun h=>h.elim (fun z=>absurd z.symm e) id⟩
theorem zmn(kvs:List N3)(k:K2)(b:Addr)(v:V):(putN kvs k b v).length<=kvs.length+1:=by
 unfold putN
 split
 ·rw[kP];omega
 ·simp
theorem zrs(kvs:List N3)(k:K2)(b:Addr)(v:V):(putN kvs k b v).map (·.1)=if(valN kvs k).isSome=true then kvs.map (·.1) else kvs.map (·.1)++[k]:=by
 unfold putN
 split
 ·rw[QV];refine vw fun kv _=>?_;show(if kv.1=k then(kv.1,kv.2.1,v) else kv).1=kv.1
  split<;>rfl
 ·simp
theorem zid{kvs:List N3}{k:K2}{b:Addr}{v:V}(h:(kvs.map (·.1)).Nodup):((putN kvs k b v).map (·.1)).Nodup:=by
 rw[zrs]
 split
 ·exact h
 ·rename_i n
  refine jl.mpr ⟨h,Qm _ _,fun x hx y hy e=>?_⟩;rw[kf.mp hy] at e;subst e;exact n (zmc.mpr hx)
theorem KN.put{H:Hp}{kvs:List N3}{k:K2}{b:Addr}{v:V}(h:KN H kvs)(hb:NK H b k):KN H (putN kvs k b v):=by
 unfold putN
 split
 ·intro p hp;obtain⟨q,hq,e⟩:=pd.mp hp;have:=h q hq;rw[←e]
  split
  ·exact this
  ·exact this
 ·intro p hp;rcases kY.mp hp with hp|hp
  ·exact h p hp
  ·rw[kf.mp hp];exact hb
theorem KNp.val{kvs:List N3}{xs:List (K2×Addr×kB)}(r:KNp kvs xs)(k:K2):RelO (valN kvs k) ((atKey xs k).map (·.2)):=by
 unfold KNp at r
 induction r with
 |nil=>exact AC
 |@cons p q ps qs h t ih=>
  obtain⟨h1,_,h2⟩:=h
  by_cases e:p.1=k
  ·have e':q.1=k:=h1.symm.trans e;have b:atKey (q::qs) k=some q.2:=by simp[atKey,Qh,e']
   rw[zmy e,b];exact h2
  ·have e':¬q.1=k:=fun z=>e (h1.trans z);have b:atKey (q::qs) k=atKey qs k:=by simp[atKey,Qh,e']
   rw[znc e,b];exact ih
theorem KNp.put{kvs:List N3}{xs:List (K2×Addr×kB)}(r:KNp kvs xs)(k:K2){b:Addr}{y:V}{u:kB}(ry:RelV y u):KNp (putN kvs k b y) (Cq xs k b u):=by
 have e:(valN kvs k).isSome=(atKey xs k).isSome:=by rw[(r.val k).isSome_eq,AY]
 unfold putN Cq;rw[e]
 by_cases q:(atKey xs k).isSome=true
 ·rw[if_pos q,if_pos q];unfold KNp at*;clear e q
  induction r with
  |nil=>exact .nil
  |@cons p q ps qs h t ih=>
   rw[pC,pC];refine .cons ?_ ih;obtain⟨h1,h2,h3⟩:=h;unfold putAt
   by_cases e:p.1=k
   ·rw[if_pos e,if_pos (h1.symm.trans e)];exact⟨h1,h2,ry⟩
   ·rw[if_neg e,if_neg (fun z=>e (h1.trans z))];exact⟨h1,h2,h3⟩
 ·rw[if_neg q,if_neg q];exact DX r ⟨rfl,rfl,ry⟩
theorem KNp.keys{kvs:List N3}{xs:List (K2×Addr×kB)}(r:KNp kvs xs):xs.map (·.1)=kvs.map (·.1)/\xs.map (fun q=>q.2.1)=kvs.map (fun p=>p.2.1):=by
 unfold KNp at r
 induction r with
 |nil=>exact⟨rfl,rfl⟩
 |cons h _ ih=>rw[pC,pC,pC,pC,ih.1,ih.2,h.1,h.2.1];exact⟨rfl,rfl⟩
section
variable{P:ko}{w:pN}{H:Hp}{h:Heap}{a:Addr}{kvs:List N3}
theorem nd_rd(ok:HOk P w H h)(e:Rd H a (nD P w a kvs))(kn:KN H kvs):kvs.length<=sizeLine/\(a==ul)=false/\∃xs,KNp kvs xs/\h.DictOfH (zeg (zbq P w)) a xs:=by
 obtain⟨⟨hd,z,nd,xs,r,o,es,ep,h1,h2,h3,h4⟩,_⟩:=(show zd9 P w H h a (nD P w a kvs) from e.ok ok);refine⟨z,hd,xs,r,o,es,ep,h1,h2,h3,h4,fun x hx=>?_,by rw[r.keys.1];exact nd⟩
 have all:∀{l:List N3}{m:List (K2×Addr×kB)},KNp l m->(∀p,p∈l->NK H p.2.1 p.1)->∀x∈m,(zeg (zbq P w)).is h x.1 x.2.1:=by
  intro l m q;unfold KNp at q
  induction q with
  |nil=>intro _ x hx;exact nomatch hx
  |@cons p q ps qs hq t ih=>
   intro hl x hx;rcases kr.mp hx with e|hx
   ·subst e;rw[←hq.1,←hq.2.1];exact ziy ok (hl p (by simp))
   ·exact ih (fun p hp=>hl p (pB _ hp)) x hx
 exact all r kn x hx
theorem nd_ok{H':Hp}{h':Heap}{xs:List (K2×Addr×kB)}(z:kvs.length<=sizeLine)(hd:(a==ul)=false)(nd:(kvs.map (·.1)).Nodup)(r:KNp kvs xs)(dd:h'.DictOfH (zeg (zbq P w)) a xs):zd9 P w H' h' a (nD P w a kvs):=by
 obtain⟨o,es,ep,h1,h2,h3,h4,_⟩:=dd;refine⟨⟨hd,z,nd,xs,r,o,es,ep,h1,h2,h3,h4⟩,⟨o,h1⟩,?_⟩;rintro k1 k2 ⟨hd,z,nd,xs,r,o,es,ep,h1,h2,h3,h4⟩ k;exact⟨hd,z,nd,xs,r,o,es,ep,k _ h1,h2,h3,h4⟩
end
def tNNew(P:ko)(w:pN):TE:=fun _ H Q=>∀p,H p=none->Q (.ref p) (upd H p (nD P w p []))
section
variable{X:Cx}{P:ko}{w:pN}{o i e value:Expr}{pos pos' tpos:Pos}{td ty tv:TE}
theorem pe_nnew(hP:X.prog=P)(hw:X.w=w):PE X (.Dict [] [] pos) (tNNew P w):=fun pins s σ H Q I h=>by
 subst hP hw;exact Aq ⟨.ref s.heap.objs.size,_,I.laid (a:=s.heap.objs.size) (o:=nD X.prog X.w s.heap.objs.size []) (t':=s.toks) (fun _ _ q=>kI _ q) (kM _)
  (nd_ok (pG _) (beq_eq_false_iff_ne.mpr (Ul (pL I.big))) AD .nil (Heap.DictOfH.new s.heap)),rfl,h _ (I.hok.fresh (kM _))⟩
end
def gallop':Bool->kc->Array kc->Nat->Nat->Nat->StateT uO Sem (Option Nat):=sortPriv%PySem.Builtin.gallop
def mergeLo':Array kc->Array kc->StateT uO Sem (Array kc):=sortPriv%PySem.Builtin.mergeLo
def mergeHi':Array kc->Array kc->StateT uO Sem (Array kc):=sortPriv%PySem.Builtin.mergeHi
section
variable{prog:ko}{w:pN}{A:pO}{E:kB->kC->Prop}{s:kC}{a₀:Array kc}{κ:QJ}
theorem zaw{arr:Array kc}{i:Nat}{st:uO}{Q:kc->uO->Prop}(h:i<arr.size)(q:Q arr[i] st):wpS (model prog w) A E s (elem' arr i) Q st:=by
 rw[elem'_eq,pK h];exact kG q
end
section
variable{prog:ko}{w:pN}{A:pO}{E:kB->kC->Prop}{s:kC}{a₀:Array kc}{κ:QJ}
def Prm(a b out:Array kc)(ia ib:Nat):Prop:=(out.toList++(a.toList.drop ia++b.toList.drop ib)).Perm (a.toList++b.toList)/\ia<=a.size/\ib<=b.size
theorem zbu(a:Array kc)(i j:Nat):(a.extract i j).toList=(a.toList.drop i).take (j-i):=by simp
theorem zeu(a:Array kc)(i:Nat):(a.extract i).toList=a.toList.drop i:=by
 rw[zbu];exact pH (by rw[pU,kT];omega)
theorem zi9(a:Array kc)(i k:Nat):(a.extract i (i+k)).toList=(a.toList.drop i).take k:=by rw[zbu,Nat.add_sub_cancel_left]
theorem prm_done{a b out:Array kc}{ia ib:Nat}(h:Prm a b out ia ib):(out++a.extract ia++b.extract ib).toList.Perm (a.toList++b.toList):=by
 rw[kq,kq,zeu,zeu,pM];exact h.1
theorem prm_last{a b out:Array kc}{ia ib:Nat}(h:Prm a b out ia ib):(out++b.extract ib++a.extract ia).toList.Perm (a.toList++b.toList):=by
 rw[kq,kq,zeu,zeu,pM];exact(uc _ Ub).trans h.1
theorem prm_b{a b out:Array kc}{ia ib:Nat}(h:Prm a b out ia ib)(k:Nat)(hk:ib+k<=b.size):Prm a b (out++b.extract ib (ib+k)) ia (ib+k):=by
 refine⟨?_,h.2.1,hk⟩;rw[kq,zi9,pM];refine(uc _ ?_).trans h.1;have e2:b.toList.drop ib=(b.toList.drop ib).take k++b.toList.drop (ib+k):=by rw[←UL,uJ]
 generalize b.toList.drop (ib+k)=t at*;generalize (b.toList.drop ib).take k=u at*;rw[e2,←pM,←pM];exact List.perm_append_comm.append_right _
theorem prm_a{a b out:Array kc}{ia ib:Nat}(h:Prm a b out ia ib)(k:Nat)(hk:ia+k<=a.size):Prm a b (out++a.extract ia (ia+k)) (ia+k) ib:=by
 refine⟨?_,hk,h.2.2⟩;rw[kq,zi9,pM,←pM ((a.toList.drop ia).take k),←UL,uJ];exact h.1
theorem zh9(out a:Array kc)(i:Nat)(h:i<a.size):out.push a[i]=out++a.extract i (i+1):=by
 apply hV.mp
 rw[kq,zi9,AZ]
 congr 1
 have h':i<a.toList.length:=by simpa using h
 rw[uk h']
 simp
theorem prm_b1{a b out:Array kc}{ia ib:Nat}(h:Prm a b out ia ib)(hk:ib<b.size):Prm a b (out.push b[ib]) ia (ib+1):=by rw[zh9];exact prm_b h 1 hk
theorem prm_0{a b:Array kc}(hb:0<b.size):Prm a b #[b[0]] 0 1:=by
 have h:Prm a b #[] 0 0:=⟨by simp,pG _,pG _⟩
 exact prm_b1 h hb
abbrev gSt(st:uO)(g:Nat):uO:=CZ (kindOf st) (arrOf st) (pF st) g (jA st)
end
section
variable{prog:ko}{w:pN}{A:pO}{E:kB->kC->Prop}{s:kC}{a₀:Array kc}{κ:QJ}
def PrmH(a b out:Array kc)(na nb:Nat):Prop:=((a.toList.take na++b.toList.take nb)++out.toList).Perm (a.toList++b.toList)/\na<=a.size/\nb<=b.size
theorem zke(a:Array kc)(n:Nat):(a.extract 0 n).toList=a.toList.take n:=by rw[zbu,vk,Nat.sub_zero]
theorem zpj{a b out:Array kc}{na nb:Nat}(h:PrmH a b out na nb):(a.extract 0 na++b.extract 0 nb++out.reverse).toList.Perm (a.toList++b.toList):=by
 rw[kq,kq,zke,zke,QN];exact(uc _ (jm _)).trans h.1
theorem znq{a b out:Array kc}{na nb:Nat}(h:PrmH a b out na nb):(b.extract 0 nb++a.extract 0 na++out.reverse).toList.Perm (a.toList++b.toList):=by
 rw[kq,kq,zke,zke,QN];exact(List.Perm.append Ub (jm _)).trans h.1
theorem znb{l:List kc}{k n:Nat}(h:k<=n):l.take n=l.take k++(l.drop k).take (n-k):=by
 rw[←uJ k (l.take n),AH,gS h,jn]
theorem prmh_a{a b out:Array kc}{na nb:Nat}(h:PrmH a b out na nb)(k:Nat)(hk:k<=na):PrmH a b (out++(a.extract k na).reverse) k nb:=by
 refine⟨?_,pP hk h.2.1,h.2.2⟩;refine BX ?_ h.1;rw[kq,QN,zbu,znb hk];generalize a.toList.take k=x;generalize (a.toList.drop k).take (na-k)=y;generalize b.toList.take nb=z;generalize out.toList=o;have:(o++y.reverse).Perm (y++o):=(uc _ (jm _)).trans Ub;refine(uc _ this).trans ?_;rw[pM,pM,pM];refine uc _ ?_;rw[←pM,←pM];exact List.Perm.append_right _ Ub
theorem prmh_b{a b out:Array kc}{na nb:Nat}(h:PrmH a b out na nb)(k:Nat)(hk:k<=nb):PrmH a b (out++(b.extract k nb).reverse) na k:=by
 refine⟨?_,h.2.1,pP hk h.2.2⟩;refine BX ?_ h.1;rw[kq,QN,zbu,znb hk];generalize b.toList.take k=x;generalize (b.toList.drop k).take (nb-k)=y;generalize a.toList.take na=z;generalize out.toList=o;have:(o++y.reverse).Perm (y++o):=(uc _ (jm _)).trans Ub;refine(uc _ this).trans ?_;rw[pM,pM,pM]
theorem zj1(out a:Array kc)(n:Nat)(h0:0<n)(h:n-1<a.size):out.push a[n-1]=out++(a.extract (n-1) n).reverse:=by
 obtain⟨m,rfl⟩:∃m,n=m+1:=⟨n-1,by omega⟩
 have e:=zh9 out a m h;simp only[Nat.add_sub_cancel] at*;rw[e]
 congr 1
 apply hV.mp
 have h':m<a.toList.length:=by simpa using h
 rw[QN,zi9,uk h']
 simp
theorem prmh_a1{a b out:Array kc}{na nb:Nat}(h:PrmH a b out na nb)(h0:0<na):PrmH a b (out.push (a[na-1]'(by have:=h.2.1;omega))) (na-1) nb:=by rw[zj1 _ _ _ h0];exact prmh_a h (na-1) (by omega)
theorem prmh_0{a b:Array kc}(ha:0<a.size):PrmH a b #[a[a.size-1]] (a.size-1) b.size:=by
 have h:PrmH a b #[] a.size b.size:=⟨by rw[pH (by simp),pH (by simp)];simp,kM _,kM _⟩
 exact prmh_a1 h ha
end
section
variable{prog:ko}{w:pN}{A:pO}{E:kB->kC->Prop}{s:kC}{a₀:Array kc}{κ:QJ}
theorem zlr(sa:Nat):∀(l:List kc)(k:Nat)(a:Array kc),sa+k+l.length<=a.size->((l.zipIdx k).foldl (fun a(x:kc×Nat)=>match x with|(p,j)=>a.setIfInBounds (sa+j) p) a).toList=a.toList.take (sa+k)++l++a.toList.drop (sa+k+l.length)
 |[],k,a,_=>by simp
 |p::l,k,a,h=>by
  rw[Ap,List.foldl_cons];have hk:sa+k<a.toList.length:=by simp only[uA] at h;rw[kT];omega
  have:=zlr sa l (k+1) (a.setIfInBounds (sa+k) p) (by rw[Array.size_setIfInBounds];simp only[uA] at h;omega)
  rw[this,Array.toList_setIfInBounds];have e1:(a.toList.set (sa+k) p).take (sa+(k+1))=a.toList.take (sa+k)++[p]:=by
   rw[show sa+(k+1)=sa+k+1 by omega,pi,List.take_set_of_le (kM _),vK hk]
   rfl
  have e2:(a.toList.set (sa+k) p).drop (sa+(k+1)+l.length)=a.toList.drop (sa+k+(p::l).length):=by
   rw[List.drop_set_of_lt (by omega),uA]
   congr 1
   omega
  rw[e1,e2]
  simp[pM]
theorem zhu{a m:Array kc}{sa sb nb:Nat}(h1:sa<=sb)(h2:sb+nb<=a.size)(hm:m.toList.Perm ((a.extract sa sb).toList++(a.extract sb (sb+nb)).toList)):
  (m.toList.zipIdx.foldl (fun a(x:kc×Nat)=>match x with|(p,j)=>a.setIfInBounds (sa+j) p) a).Perm a:=by
 have lm:m.toList.length=sb+nb-sa:=by
  rw[hm.length_eq,kO,zbu,zbu,pA,pA,pU,pU,kT];omega
 apply Array.perm_iff_toList_perm.mpr
 rw[zlr sa m.toList 0 a (by omega),EX]
 have e:a.toList=a.toList.take sa++((a.toList.drop sa).take (sb-sa)++(a.toList.drop sb).take nb)++a.toList.drop (sa+m.toList.length):=by
  rw[lm,show sa+(sb+nb-sa)=sb+nb by omega]
  have x1:(a.toList.drop sb).take nb++a.toList.drop (sb+nb)=a.toList.drop sb:=by rw[←UL,uJ]
  have x2:(a.toList.drop sa).take (sb-sa)++a.toList.drop sb=a.toList.drop sa:=by
   have:a.toList.drop sb=(a.toList.drop sa).drop (sb-sa):=by rw[UL,show sa+(sb-sa)=sb by omega]
   rw[this,uJ]
  rw[pM,pM,x1,x2,uJ]
 rw[zbu,zi9] at hm;refine BX ((uc _ hm).append_right _) ?_;rw[←e]
theorem zja{a:Array kc}{i j:Nat}{x:kc}(h:x∈a.extract i j):x∈a:=by
 have:x∈(a.extract i j).toList:=Bu.mpr h;rw[zbu] at this;exact Array.mem_toList_iff.mp (Uq (Qn this))
theorem wpS_set{st st':uO}{Q:PUnit->uO->Prop}(h:Q ⟨⟩ st'):wpS (model prog w) A E s (set st':StateT uO Sem PUnit) Q st:=by
 unfold wpS;rw[StateT.run_set];exact kL ⟨rfl,h⟩
abbrev pSt(st:uO)(xs:Array kc)(p:Array (Nat×Nat×Nat))(g:Nat):uO:=CZ (kindOf st) xs p g (jA st)
end
def Cov:List (Nat×Nat×Nat)->Nat->Nat->Prop
 |[],b,e=>b=e
 |(a,n,_)::r,b,e=>a=b/\0<n/\Cov r (b+n) e
theorem Cov.le:∀{l:List (Nat×Nat×Nat)}{b e:Nat},Cov l b e->b<=e
 |[],b,e,h=>UF h
 |(a,n,_)::r,b,e,h=>pP (At _ _) (Cov.le h.2.2)
theorem Cov.push:∀{l:List (Nat×Nat×Nat)}{b e n p:Nat},Cov l b e->0<n->Cov (l++[(e,n,p)]) b (e+n)
 |[],b,e,n,p,h,hn=>by
  have h:b=e:=h;subst h;exact⟨rfl,hn,rfl⟩
 |(a,m,q)::r,b,e,n,p,h,hn=>⟨h.1,h.2.1,Cov.push h.2.2 hn⟩
theorem Cov.at:∀{l:List (Nat×Nat×Nat)}{b e i a n p a' n' p':Nat},Cov l b e->l[i]?=some (a,n,p)->l[i+1]?=some (a',n',p')->a'=a+n/\0<n/\0<n'/\a+n+n'<=e/\Cov ((l.set i (a,n+n',p)).eraseIdx (i+1)) b e
 |(x,m,q)::(x',m',q')::r,b,e,0,a,n,p,a',n',p',h,e1,e2=>by
  cases e1;cases e2;obtain⟨h1,h2,h3,h4,h5⟩:=h;have:=Cov.le h5;refine⟨by omega,h2,h4,by omega,h1,by omega,?_⟩
  rw[←jD];exact h5
 |(x,m,q)::r,b,e,i+1,a,n,p,a',n',p',h,e1,e2=>by
  obtain⟨h1,h2,h3⟩:=h;obtain⟨g1,g2,g3,g4,g5⟩:=Cov.at h3 (by simpa using e1) (by simpa using e2)
  exact⟨g1,g2,g3,g4,h1,h2,g5⟩
 |[],b,e,i,a,n,p,a',n',p',h,e1,e2=>by cases i<;>cases e1
 |[_],b,e,0,a,n,p,a',n',p',h,e1,e2=>by simp at e2
theorem Cov.power(w:Nat):∀{l:List (Nat×Nat×Nat)}{b e i:Nat},Cov l b e->Cov (l.modify i fun x=>(x.1,x.2.1,w)) b e
 |[],b,e,i,h=>by cases i<;>exact h
 |(x,m,q)::r,b,e,0,h=>h
 |(x,m,q)::r,b,e,i+1,h=>⟨h.1,h.2.1,Cov.power w h.2.2⟩
section
variable{prog:ko}{w:pN}{A:pO}{E:kB->kC->Prop}{s:kC}{a₀:Array kc}{κ:QJ}
def SIv(a₀:Array kc)(κ:QJ)(lo:Nat)(st:uO):Prop:=(arrOf st).Perm a₀/\kindOf st=κ/\jA st=none/\Cov (pF st).toList 0 lo/\lo<=a₀.size
theorem ite_lt{c:Prop}[Decidable c]{x y z:Nat}(h1:x+1<z)(h2:y+1<z):(if c then x else y)+1<z:=by
 by_cases h:c
 ·rw[if_pos h];exact h1
 ·rw[if_neg h];exact h2
theorem push_iv{lo n:Nat}{st:uO}(iv:SIv a₀ κ lo st)(hn:0<n)(hz:lo+n<=a₀.size):SIv a₀ κ (lo+n) (Ca st ((pF st).push (lo,n,0))):=by
 obtain⟨h1,h2,h3,h4,h5⟩:=iv;refine⟨h1,h2,h3,?_,hz⟩;show Cov ((pF st).push (lo,n,0)).toList 0 (lo+n);rw[AZ];exact h4.push hn
theorem power_iv{lo j w:Nat}{st:uO}(iv:SIv a₀ κ lo st):SIv a₀ κ lo (Ca st ((pF st).modify j fun x=>(x.1,x.2.1,w))):=by
 obtain⟨h1,h2,h3,h4,h5⟩:=iv;refine⟨h1,h2,h3,?_,h5⟩;show Cov ((pF st).modify j fun x=>(x.1,x.2.1,w)).toList 0 lo;rw[CG];exact h4.power w
end
open PySem.W (kas_sort kas_ask)
open PySem.W (KasT kas_asc kas_desc kas_rev kas_tail3 kas_descPart kas_count kas_place kas_bin kas_sort)
structure Wk(ans:Nat->Nat->Bool):Prop where
 irr:∀i,ans i i=false
 tr:∀i j k,ans i j=true->ans j k=true->ans i k=true
 cut:∀i j k,ans i j=false->ans j k=false->ans i k=false
def UpW(ans:Nat->Nat->Bool)(p:Array Nat)(m:Nat):Prop:=∀i j,i<j->j<m->ans (p.getD j 0) (p.getD i 0)=false
def DnW(ans:Nat->Nat->Bool)(p:Array Nat)(m:Nat):Prop:=∀i j,i<j->j<m->ans (p.getD i 0) (p.getD j 0)=false
def EqW(ans:Nat->Nat->Bool)(p:Array Nat)(m q:Nat):Prop:=∀i j,m<=i+q+1->i<m->m<=j+q+1->j<m->ans (p.getD i 0) (p.getD j 0)=false
section
variable{n:Nat}{ans:Nat->Nat->Bool}
theorem Wk.asymm(T:Wk ans){a b:Nat}(h:ans a b=true):ans b a=false:=by
 cases z:ans b a with
 |false=>rfl
 |true=>have:=T.tr a b a h z;rw[T.irr] at this;cases this
theorem Wk.of{β:Type}{lt:β->β->Bool}(S:STO lt)(r:Nat->β):Wk fun i j=>lt (r i) (r j) where
 irr i:=S.irr _
 tr i j k:=S.tr _ _ _
 cut i j k h1 h2:=by
  cases z:lt (r i) (r k) with
  |false=>rfl
  |true=>
   by_cases e1:r i=r j
   ·rw[e1] at z;rw[z] at h2;cases h2
   ·rcases S.tot _ _ e1 with y|y
    ·rw[y] at h1;cases h1
    ·have:=S.tr _ _ _ y z;rw[this] at h2;cases h2
theorem UpW.step(T:Wk ans){p:Array Nat}{m:Nat}(u:UpW ans p m)(h:∀i,i+1=m->ans (p.getD m 0) (p.getD i 0)=false):UpW ans p (m+1):=fun i j hij hj=>by
 by_cases z:j<m
 ·exact u i j hij z
 ·have e:j=m:=by omega
  subst e
  by_cases y:i+1=j
  ·exact h i y
  ·exact T.cut _ _ _ (h (j-1) (by omega)) (u i (j-1) (by omega) (by omega))
theorem DnW.step(T:Wk ans){p:Array Nat}{m:Nat}(u:DnW ans p m)(h:∀i,i+1=m->ans (p.getD i 0) (p.getD m 0)=false):DnW ans p (m+1):=fun i j hij hj=>by
 by_cases z:j<m
 ·exact u i j hij z
 ·have e:j=m:=by omega
  subst e
  by_cases y:i+1=j
  ·exact h i y
  ·exact T.cut _ _ _ (u i (j-1) (by omega) (by omega)) (h (j-1) (by omega))
theorem zlf(T:Wk ans){p:Array Nat}:∀f m,1<=m->m+f=n->UpW ans p m->m<=ansT ans (kas_asc p f m)/\ansT ans (kas_asc p f m)<=n/\UpW ans p (ansT ans (kas_asc p f m))/\(ansT ans (kas_asc p f m)<n->ans (p.getD (ansT ans (kas_asc p f m)) 0) (p.getD (ansT ans (kas_asc p f m)-1) 0)=true)
 |0,m,h1,hm,u=>⟨kM _,by show m<=n;omega,u,fun z=>by have:m<n:=z;omega⟩
 |f+1,m,h1,hm,u=>by
  have e:ansT ans (kas_asc p (f+1) m)=ansT ans (if ans (p.getD m 0) (p.getD (m-1) 0)=true then .ret m else kas_asc p f (m+1)):=rfl;rw[e]
  cases c:ans (p.getD m 0) (p.getD (m-1) 0) with
  |true=>rw[if_pos rfl];exact⟨kM _,by show m<=n;omega,u,fun _=>c⟩
  |false=>
   rw[if_neg (by decide)]
   obtain⟨a1,a2,a3⟩:=zlf T f (m+1) (by omega) (by omega) (u.step T fun i hi=>by
    have e:m-1=i:=by omega
    rw[e] at c;exact c)
   exact⟨by omega,a2,a3⟩
theorem zf2{p:Array Nat}{a m:Nat}(hm:m<=p.size)(k:Nat):(kas_rev p a m).getD k 0=if a<=k/\k<m then p.getD (a+m-1-k) 0 else p.getD k 0:=by
 have e:(kas_rev p a m)[k]?=if a<=k/\k<m then p[a+m-1-k]? else p[k]?:=by
  unfold kas_rev;rw[vv hm]
 rw[ke,e]
 split
 ·rw[ke]
 ·rw[ke]
theorem zp8{p:Array Nat}{m q:Nat}(hm:m<=p.size)(d:DnW ans p m)(e:EqW ans p m q):DnW ans (kas_rev p (m-(q+1)) m) m:=fun i j hij hj=>by
 rw[zf2 hm,zf2 hm]
 by_cases c1:m-(q+1)<=i/\i<m
 ·rw[if_pos c1,if_pos (by omega)]
  exact e _ _ (by omega) (by omega) (by omega) (by omega)
 ·rw[if_neg c1]
  by_cases c2:m-(q+1)<=j/\j<m
  ·rw[if_pos c2];exact d _ _ (by omega) (by omega)
  ·rw[if_neg c2];exact d _ _ hij hj
theorem zh8(T:Wk ans):∀f(p:Array Nat) m q,1<=m->q+1<=m->m+f=n->n<=p.size->DnW ans p m->EqW ans p m q->∃p' m' q',ansT ans (kas_desc f p m q)=(p',m',q')/\m<=m'/\m'<=n/\q'+1<=m'/\p'.size=p.size/\DnW ans p' m'/\EqW ans p' m' q'
 |0,p,m,q,h1,hq,hm,hz,u,eq=>⟨p,m,q,rfl,kM _,by omega,hq,rfl,u,eq⟩
 |f+1,p,m,q,h1,hq,hm,hz,u,eq=>by
  have e:ansT ans (kas_desc (f+1) p m q)=ansT ans (if ans (p.getD m 0) (p.getD (m-1) 0)=true then(if q>0 then kas_desc f (kas_rev p (m-(q+1)) m) (m+1) 0 else kas_desc f p (m+1) 0)
   else .ask (p.getD (m-1) 0) (p.getD m 0) fun d=>if d=true then .ret (p,m,q) else kas_desc f p (m+1) (q+1)):=rfl
  rw[e]
  cases c:ans (p.getD m 0) (p.getD (m-1) 0) with
  |true=>
   rw[if_pos rfl];have one:∀p':Array Nat,EqW ans p' (m+1) 0:=fun p' i j a b a' b'=>by
    have e1:i=m:=by omega
    have e2:j=m:=by omega
    rw[e1,e2];exact T.irr _
   by_cases z:q>0
   ·rw[if_pos z];have sz:(kas_rev p (m-(q+1)) m).size=p.size:=DZ _ _ _ _;have u2:DnW ans (kas_rev p (m-(q+1)) m) (m+1):=(zp8 (by omega) u eq).step T fun i hi=>by
     rw[zf2 (by omega),zf2 (by omega),if_pos (by omega),if_neg (by omega)]
     refine T.asymm ?_
     cases y:ans (p.getD m 0) (p.getD (m-(q+1)+m-1-i) 0) with
     |true=>rfl
     |false=>
      have:=T.cut _ _ _ y (eq (m-(q+1)+m-1-i) (m-1) (by omega) (by omega) (by omega) (by omega))
      rw[c] at this
      cases this
    obtain⟨p',m',q',a1,a2,a3,a4,a5,a6⟩:=zh8 T f _ (m+1) 0 (by omega) (by omega) (by omega) (by omega) u2 (one _)
    exact⟨p',m',q',a1,by omega,a3,a4,by rw[a5,sz],a6⟩
   ·rw[if_neg z];obtain⟨p',m',q',a1,a2,a3,a4,a5,a6⟩:=zh8 T f p (m+1) 0 (by omega) (by omega) (by omega) hz (u.step T fun i hi=>by
     have e:m-1=i:=by omega
     rw[e] at c;exact T.asymm c) (one _)
    exact⟨p',m',q',a1,by omega,a3,a4,a5,a6⟩
  |false=>
   rw[if_neg (by decide)]
   show ∃p' m' q',ansT ans (if ans (p.getD (m-1) 0) (p.getD m 0)=true then .ret (p,m,q) else kas_desc f p (m+1) (q+1))=_/\_
   cases y:ans (p.getD (m-1) 0) (p.getD m 0) with
   |true=>rw[if_pos rfl];exact⟨p,m,q,rfl,kM _,by omega,hq,rfl,u,eq⟩
   |false=>
    rw[if_neg (by decide)]
    obtain⟨p',m',q',a1,a2,a3,a4,a5,a6⟩:=zh8 T f p (m+1) (q+1) (by omega) (by omega) (by omega) hz (u.step T fun i hi=>by
     have e:m-1=i:=by omega
     rw[e] at y;exact y) fun i j i1 i2 j1 j2=>by
      by_cases ei:i=m
      ·subst ei
       by_cases ej:j=i
       ·rw[ej];exact T.irr _
       ·exact T.cut _ _ _ c (eq (i-1) j (by omega) (by omega) (by omega) (by omega))
      ·by_cases ej:j=m
       ·subst ej;exact T.cut _ _ _ (eq i (j-1) (by omega) (by omega) (by omega) (by omega)) y
       ·exact eq i j (by omega) (by omega) (by omega) (by omega)
    exact⟨p',m',q',a1,by omega,a3,a4,a5,a6⟩
theorem zmr(T:Wk ans){p:Array Nat}{m:Nat}(h1:1<=m)(hm:m<=n)(hz:n<=p.size)(d:DnW ans p m):∃m' p',ansT ans (kas_tail3 m n p)=(m',p')/\1<=m'/\m'<=n/\UpW ans p' m':=by
 unfold kas_tail3;rw[ze6];have u2:UpW ans (kas_rev p 0 m) m:=fun i j hij hj=>by
  rw[zga (by omega) (by omega),zga (by omega) (by omega)]
  exact d _ _ (by omega) (by omega)
 obtain⟨g1,g2,g3,g4⟩:=zlf (n:=n) T (n-m) m h1 (by omega) u2
 exact⟨_,_,rfl,by omega,g2,g3⟩
theorem znh(T:Wk ans){p:Array Nat}{m:Nat}(h1:1<=m)(hm:m+1<=n)(hz:n<=p.size)(d:DnW ans p (m+1)):∃m' p',ansT ans (kas_descPart m n p)=(m',p')/\1<=m'/\m'<=n/\UpW ans p' m':=by
 unfold kas_descPart;rw[ze6];obtain⟨p',m',q',e,a2,a3,a4,a5,a6,a7⟩:=zh8 (n:=n) T (n-(m+1)) p (m+1) 0 (by omega) (by omega) (by omega) hz d fun i j i1 i2 j1 j2=>by
  have e1:i=m:=by omega
  have e2:j=m:=by omega
  rw[e1,e2];exact T.irr _
 rw[e];dsimp only;have sz:(kas_rev p' (m'-(q'+1)) m').size=p'.size:=DZ _ _ _ _
 by_cases z:q'>0
 ·rw[if_pos z];exact zmr T (by omega) a3 (by omega) (zp8 (by omega) a6 a7)
 ·rw[if_neg z];exact zmr T (by omega) a3 (by omega) a6
theorem zsg(T:Wk ans)(hn:0<n){p:Array Nat}(hz:p.size=n):∃m p',ansT ans (kas_count n p)=(m,p')/\1<=m/\m<=n/\UpW ans p' m:=by
 have u1:UpW ans p 1:=fun i j hij hj=>by omega
 obtain⟨a1,a2,a3,a4⟩:=zlf (n:=n) T (n-1) 1 (kM _) (by omega) u1
 unfold kas_count;rw[ze6];generalize ansT ans (kas_asc p (n-1) 1)=m at a1 a2 a3 a4⊢
 by_cases c1:m=n
 ·subst c1;simp only[beq_self_eq_true,if_true];exact⟨m,p,rfl,a1,a2,a3⟩
 ·have c1':(m==n)=false:=beq_eq_false_iff_ne.mpr c1;simp only[c1',pJ,if_false];have y:=a4 (by omega)
  by_cases c2:m>1
  ·rw[if_pos c2];show ∃m' p',ansT ans (if ans (p.getD 0 0) (p.getD (m-1) 0)=true then .ret (m,p) else kas_descPart m n (kas_rev p 0 m))=_/\_
   cases x:ans (p.getD 0 0) (p.getD (m-1) 0) with
   |true=>rw[if_pos rfl];exact⟨m,p,rfl,a1,a2,a3⟩
   |false=>
    rw[if_neg (by decide)]
    have sz:(kas_rev p 0 m).size=p.size:=DZ _ _ _ _;have al:∀i j,i<m->j<m->ans (p.getD i 0) (p.getD j 0)=false:=fun i j hi hj=>by
     have l0:ans (p.getD i 0) (p.getD 0 0)=false:=by
      by_cases e:i=0
      ·rw[e];exact T.irr _
      ·exact a3 0 i (by omega) hi
     have l1:ans (p.getD (m-1) 0) (p.getD j 0)=false:=by
      by_cases e:j=m-1
      ·rw[e];exact T.irr _
      ·exact a3 j (m-1) (by omega) (by omega)
     exact T.cut _ _ _ l0 (T.cut _ _ _ x l1)
    refine znh T a1 (by omega) (by omega) ?_
    have d1:DnW ans (kas_rev p 0 m) m:=fun i j hij hj=>by
     rw[zga (by omega) (by omega),zga (by omega) (by omega)]
     exact al _ _ (by omega) (by omega)
    refine d1.step T fun i hi=>?_;rw[zga (by omega) (by omega),zf2 (by omega),if_neg (by omega)]
    refine T.asymm ?_
    cases w:ans (p.getD m 0) (p.getD (m-1-i) 0) with
    |true=>rfl
    |false=>
     have:=T.cut _ _ _ w (al (m-1-i) (m-1) (by omega) (by omega))
     rw[y] at this
     cases this
  ·have e:m=1:=by omega
   subst e;rw[if_neg c2];exact znh T (kM _) (by omega) (by omega) fun i j hij hj=>by
    have e1:i=0:=by omega
    have e2:j=1:=by omega
    subst e1 e2;exact T.asymm y
theorem zpe(T:Wk ans){p:Array Nat}{k:Nat}(u:UpW ans p k):∀f l r,l<=r->r<=k->r-l<=f->(∀i,i<l->ans (p.getD k 0) (p.getD i 0)=false)->(∀i,r<=i->i<k->ans (p.getD k 0) (p.getD i 0)=true)->
  ∃l',ansT ans (kas_place p k f l r)=l'/\l'<=k/\(∀i,i<l'->ans (p.getD k 0) (p.getD i 0)=false)/\(∀i,l'<=i->i<k->ans (p.getD k 0) (p.getD i 0)=true)
 |0,l,r,h1,h2,h3,hl,hr=>⟨l,rfl,by omega,hl,fun i a b=>hr i (by omega) b⟩
 |f+1,l,r,h1,h2,h3,hl,hr=>by
  unfold kas_place
  by_cases c:l≥r
  ·rw[if_pos c];exact⟨l,rfl,by omega,hl,fun i a b=>hr i (by omega) b⟩
  ·rw[if_neg c];show ∃l',ansT ans (if ans (p.getD k 0) (p.getD ((l+r)/2) 0)=true then kas_place p k f l ((l+r)/2) else kas_place p k f ((l+r)/2+1) r)=l'/\_;have m1:l<=(l+r)/2:=by omega
   have m2:(l+r)/2<r:=by omega
   cases e:ans (p.getD k 0) (p.getD ((l+r)/2) 0) with
   |true=>
    rw[if_pos rfl];refine zpe T u f l _ m1 (by omega) (by omega) hl fun i a b=>?_
    by_cases y:i=(l+r)/2
    ·rw[y];exact e
    ·cases w:ans (p.getD k 0) (p.getD i 0) with
     |true=>rfl
     |false=>
      have:=T.cut _ _ _ w (u ((l+r)/2) i (by omega) b)
      rw[e] at this
      cases this
   |false=>
    rw[if_neg (by decide)]
    refine zpe T u f _ r (by omega) h2 (by omega) (fun i a=>?_) hr
    by_cases x:i=(l+r)/2
    ·rw[x];exact e
    ·exact T.cut _ _ _ e (u i ((l+r)/2) (by omega) (by omega))
theorem zsl(T:Wk ans):∀f(p:Array Nat) k,p.size=n->1<=k->k+f=n->UpW ans p k->UpW ans (ansT ans (kas_bin f p k)) n
 |0,p,k,h,h1,hk,u=>by
  have e:k=n:=by omega
  subst e;exact u
 |f+1,p,k,z,h1,hk,u=>by
  unfold kas_bin;rw[ze6];obtain⟨l,e,a1,a2,a3⟩:=zpe T u k 0 k (pG _) (kM _) (by omega) (fun i hi=>by omega) (fun i a b=>by omega)
  rw[e];refine zsl T f _ (k+1) (by rw[(DW _ _ _).size_eq];exact z) (by omega) (by omega) fun i j hij hj=>?_
  rw[zmp (by omega) a1,zmp (by omega) a1]
  by_cases c1:i=l
  ·rw[if_pos c1,if_neg (by omega),if_pos (by omega)]
   exact T.asymm (a3 _ (by omega) (by omega))
  ·rw[if_neg c1]
   by_cases c2:l<i/\i<=k
   ·rw[if_pos c2,if_neg (by omega),if_pos (by omega)]
    exact u _ _ (by omega) (by omega)
   ·rw[if_neg c2]
    by_cases c3:j=l
    ·rw[if_pos c3];exact a2 _ (by omega)
    ·rw[if_neg c3]
     by_cases c4:l<j/\j<=k
     ·rw[if_pos c4];exact u _ _ (by omega) (by omega)
     ·rw[if_neg c4];exact u _ _ (by omega) (by omega)
theorem upW_sort(T:Wk ans)(hn:0<n):UpW ans (ansT ans (kas_sort n)) n:=by
 have o0:Ord n (ur (QL n)):=by unfold Ord;simp
 obtain⟨m,p,e,m1,m2,u⟩:=zsg T hn (p:=ur (QL n)) (by simp)
 have o1:Ord n (m,p).2:=by
  rw[←e];exact Asks.ends (zie hn o0)
 have z:p.size=n:=by have:=o1.length_eq;simpa using this
 unfold kas_sort;rw[ze6,e]
 by_cases c:m<n
 ·simp only[c,if_true];have x:max m 1=m:=by omega
  rw[x];exact zsl T (n-m) p m z m1 (by omega) u
 ·simp only[c,if_false];have x:m=n:=by omega
  subst x;exact u
end
open PySem.W (kla_fn kla_obj envX tabObj CodeHd)
structure zgf(x:Str)(ys:List Str)(sc:Scope):Prop where
 kind:sc.kind=.function
 co:sc.isCoroutine=false
 gen:sc.isGenerator=false
 par:sc.names.lookup x=some .local
 cap:∀y,y∈ys->sc.names.lookup y=some .free
 nocell:∀z,z∈sc.names->z.2≠.cell
 free:∀z,z∈sc.names->z.2=.free->z.1∈ys
def zkz(P:ko)(w:pN)(K:kJ)(mg:Str->Option kB)(base:Heap)(x:Str)(qual:Str)(sc:Scope)(f:Addr)(cd:kB)(clos:List (Str×Addr))(A:pO)(outer:List Env)(s:kC)(H:Hp):Cx where
 prog:=P
 w:=w
 K:=K
 mg:=mg
 base:=base
 A:=A.deeper (envX qual sc s.heap.objs.size f cd clos)
 N:=x::clos.map QP
 s₀:=s
 H₀:=H
 env:=envX qual sc s.heap.objs.size f cd clos
 outer:=outer
 stack:=envX qual sc s.heap.objs.size f cd clos::outer
 ex:=[]
 calm:=true
 fn:=fun _=>false
 pn:=[]
 xe:=fun _ _=>False
theorem zd8:∀{cl:List (Str×Addr)}{z:Str}{d:Addr},cl.lookup z=some d->(z,d)∈cl
 |[],_,_,h=>by cases h
 |(y,c)::cl,z,d,h=>by
  rw[uH] at h
  by_cases e:z=y
  ·subst e;rw[beq_self_eq_true] at h
   cases h;exact pD ..
  ·rw[beq_eq_false_iff_ne.mpr e] at h;exact pB _ (zd8 h)
theorem zfr:∀{cl:List (Str×Addr)}{z:Str},z∈cl.map QP->∃d,cl.lookup z=some d
 |[],_,h=>by cases h
 |(y,c)::cl,z,h=>by
  rw[uH]
  by_cases e:z=y
  ·rw[e,beq_self_eq_true];exact⟨c,rfl⟩
  ·rw[beq_eq_false_iff_ne.mpr e];refine zfr ?_;rcases kr.mp h with z'|z'
   ·exact absurd z' e
   ·exact z'
def Cells(H:Hp)(h:Heap)(clos:List (Str×Addr))(vys:List V):Prop:=∀(i:Nat) y c vy,clos[i]?=some (y,c)->vys[i]?=some vy->∃uy,RelV vy uy/\h.IsCell c (some uy)/\H c=none
theorem inv_lamG{P:ko}{w:pN}{K:kJ}{mg:Str->Option kB}{base:Heap}{x qual:Str}{sc:Scope}{f:Addr}{clos:List (Str×Addr)}{cd:kB}{A:pO}{outer:List Env}{s:kC}{H:Hp}{u:kB}{v:V}{vys:List V}{h₁:Heap}{tk:Nat}
  (S:zgf x (clos.map QP) sc)(nd:(clos.map QP).Nodup)(inj:∀y z d,(y,d)∈clos->(z,d)∈clos->y=z)(hlen:vys.length=clos.length)(hd:A.handled=none)(e0:Env0 P w K mg base A outer s H)(ru:RelV v u)(hc:Cells H s.heap clos vys)
  (hns:h₁.Ns s.heap.objs.size (fun z=>([(x,u)]:List (Str×kB)).reverse.lookup z))(hk:∀b o,s.heap.get? b=some o->h₁.get? b=some o):
  Inv (zkz P w K mg base x qual sc f cd clos A outer s H) [] (some v::vys.map some) H {s with heap:=h₁,toks:=tk}:=by
 have noA:∀b:Addr,b∉(zkz P w K mg base x qual sc f cd clos A outer s H).ex:=fun b z=>absurd (show b∈([]:List Addr) from z) (by simp)
 have at_:∀z d,(z,d)∈clos->∃uy vy,RelV vy uy/\s.heap.IsCell d (some uy)/\H d=none:=fun z d h=>by
  obtain⟨i,hi⟩:=pX.mp h;have hi':=(kF.mp hi).1;have hv:vys[i]?=some (vys[i]'(by omega)):=kK (by omega)
  obtain⟨uy,q⟩:=hc i z d _ hi hv;exact⟨uy,_,q⟩
 refine⟨⟨e0.mod,S.kind,rfl,rfl,kM _,fun y1 z1 d h1 h2=>?_,fun z hz=>?_,fun z d hf _=>?_,fun _=>hd,gE e0.frames,.inr ⟨rfl,rfl⟩,fun b z=>absurd z (noA b),e0.bs,e0.bsz,fun b _ _=>noA b,fun b z=>absurd z (noA b),e0.funs,e0.frf⟩,
  rfl,e0.bare,Un.kept hk,⟨_,hns,fun i z v' h1 h2 h3=>?_⟩,fun z d h=>?_,e0.hok.fresh (kM _),fun z d h=>?_,fun p hp=>absurd (show p∈([]:List (Addr×Obj)) from hp) (by simp),e0.hok.kept hk,by show(some v::vys.map some).length=(x::clos.map QP).length;rw[uA,uA,kP,kP,hlen]⟩
 ·exact inj _ _ d (zd8 h1) (zd8 h2)
 ·have hz:sc.names.lookup z=some .cell∨sc.names.lookup z=some .free:=hz;rcases hz with hz|hz
  ·exact absurd rfl (S.nocell _ (uE hz))
  ·exact zfr (S.free _ (uE hz) rfl)
 ·cases hf
 ·match i,h1,h2 with
  |0,h1,h2=>
   cases h1
   cases h2;refine⟨u,ru,.inl ⟨S.par,?_⟩⟩;show([(x,u)]:List (Str×kB)).reverse.lookup x=some u
   simp
  |i+1,h1,h2=>
   have h1:(clos.map QP)[i]?=some z:=h1;have h2:(vys.map some)[i]?=some (some v'):=h2;rw[kj] at h1 h2;obtain⟨⟨y,c⟩,e1,e2⟩:=ut.mp h1;obtain⟨vy,e3,e4⟩:=ut.mp h2
   cases e2
   cases e4;obtain⟨uy,ry,⟨o,ho,hd'⟩,_⟩:=hc i _ _ _ e1 e3;have hm:(y,c)∈clos:=kZ e1;obtain⟨d,hd⟩:=zfr (pd.mpr ⟨_,hm,rfl⟩);have ed:d=c:=by
    have hm2:=zd8 hd;obtain⟨j,hj⟩:=pX.mp hm2;have n1:(clos.map QP)[i]?=some y:=by rw[kj,e1];rfl
    have n2:(clos.map QP)[j]?=some y:=by rw[kj,hj];rfl
    have ij:i=j:=by
     have i1:=(kF.mp n1).1;have j1:=(kF.mp n2).1;rcases Cv i j with z|z|z
     ·exact absurd ((kF.mp n1).2.trans (kF.mp n2).2.symm) ((Uc.mp nd) i j i1 j1 z)
     ·exact z
     ·exact absurd ((kF.mp n2).2.trans (kF.mp n1).2.symm) ((Uc.mp nd) j i j1 i1 z)
    rw[←ij,e1] at hj
    cases hj;rfl
   subst ed;exact⟨uy,ry,.inr ⟨.inr (S.cap _ (pd.mpr ⟨_,hm,rfl⟩)),d,hd,o,hk _ _ ho,hd'⟩⟩
 ·obtain⟨uy,vy,_,⟨o,ho,hd'⟩,_⟩:=at_ _ _ (zd8 h);exact⟨_,o,hk _ _ ho,hd'⟩
 ·obtain⟨uy,vy,_,_,hn⟩:=at_ _ _ (zd8 h);exact hn
section
variable{X:Cx}{pins:List (Addr×Obj)}{σ:St}{H:Hp}{s:kC}
theorem lam_runG{A:pO}{k:Nat}{x name qual:Str}{params:jS}{body:Expr}{sc:Scope}{fa c':Addr}{clos:List (Str×Addr)}{pm ctv u:kB}{v:V}{vys:List V}{te:TE}{Q:VK}(I:Inv X pins σ H s)
  (e0:Env0 X.prog X.w X.K X.mg X.base A X.stack s H)(hr:Room k A)(S:zgf x (clos.map QP) sc)(nd:(clos.map QP).Nodup)(inj:∀y z d,(y,d)∈clos->(z,d)∈clos->y=z)(hlen:vys.length=clos.length)
  (ho:s.heap.get? fa=some (kla_obj name qual params body sc clos pm c' ctv))(hcd:s.heap.CodeRec (.ref c') qual)
  (hb:gq (kla_fn name qual params body sc clos pm (.ref c') ctv) ⟨[u],[]⟩=pure [(x,u)])(ru:RelV v u)(hc:Cells H s.heap clos vys)
  (hbody:PE (zkz X.prog X.w X.K X.mg X.base x qual sc fa (.ref c') clos A X.stack s H) body te)(q:te (some v::vys.map some) H Q):
  wpAny (model X.prog X.w) A (call (.ref fa) [u]) (EP X pins σ Q) (fun _ _=>False) s:=by
 refine Dt (jd (R:=CR CX0 X.stack X.prog X.w H s Q E0) ?_ fun r s' hq=>?_)
 ·refine Bo hr.depth ho rfl S.co S.gen rfl hcd ?_;rw[hb];refine kL (gG S.nocell (fun z hz=>?_) (fun h₁ hns hsb=>⟨I.nolimit.fresh _ hsb,?_⟩) S.kind)
  ·rw[kf] at hz;rw[hz];exact S.par
  ·show jH _ _ (.expr body (envX qual sc s.heap.objs.size fa (.ref c') clos)) _ _
   have kp:∀d u,s.heap.get? d=some u->h₁.get? d=some u:=fun d u z=>hsb.extBut d u (pL (ki z)) (kI _ z);have J:=inv_lamG (tk:=s.toks+1) (f:=fa) (qual:=qual) (cd:=.ref c') S nd inj hlen hr.hd e0 ru hc hns kp;refine Bp (uS (hbody [] _ _ H Q J q) (fun r s' hs=>?_) fun e s' hs=>hs.elim);obtain⟨v',H',J',r',q'⟩:=hs;exact⟨v',H',J'.os,J'.bare,J'.base,J'.hok,r',q'⟩
 ·cases r with
  |error e=>exact hq.elim
  |ok fl=>
   cases fl with
   |ret u=>exact I.after hq
   |next=>exact uz hq
   |brk=>exact uz hq
   |cont=>exact uz hq
inductive Capt (X:Cx):List (Str×Addr)->List Nat->Prop
 |nil:Capt X [] []
 |cons {y c j cl js}:X.N[j]?=some y->X.env.scope.names.lookup y=some .cell->X.env.cells.lookup y=some c->Capt X cl js->Capt X ((y,c)::cl) (j::js)
theorem Capt.mem{cl:List (Str×Addr)}{js:List Nat}(h:Capt X cl js):∀{y c},(y,c)∈cl->X.env.cells.lookup y=some c:=by
 induction h with
 |nil=>intro y c h;cases h
 |cons a b d t ih=>
  intro y' c' h;rcases kr.mp h with e|e
  ·cases e;exact d
  ·exact ih e
theorem Capt.cells{cl:List (Str×Addr)}{js:List Nat}(h:Capt X cl js)(I:Inv X pins σ H s):∀{vys:List V},js.map (fun j=>σ[j]?)=vys.map (fun v=>some (some v))->Cells H s.heap cl vys/\vys.length=cl.length:=by
 induction h with
 |nil=>
  intro vys e
  cases vys with
  |nil=>exact⟨fun i y c vy h=>(by cases h),rfl⟩
  |cons _ _=>cases e
 |cons a b d t ih=>
  intro vys e
  cases vys with
  |nil=>cases e
  |cons vy vys=>
   rw[pC,pC] at e
   injection e with e1 e2
   obtain⟨i1,i2⟩:=ih e2;refine⟨fun i y c v h h'=>?_,by rw[uA,uA,i2]⟩
   cases i with
   |zero=>
    cases h
    cases h';obtain⟨uy,ry,hcell⟩:=zpw I a e1 b d;exact⟨uy,ry,hcell,I.freeC _ _ d⟩
   |succ i=>exact i1 i y c v h h'
end
open PySem.W (kla_fn kla_obj envX tabObj CodeHd KasT kas_sort kas_ask)
section
variable{prog:ko}{w:pN}{A:pO}{E:kB->kC->Prop}{s:kC}
theorem zi7(hh:A.handled=none){r:Addr}{a b c:Int}{t u v:Tok}{n:Nat}(hr:IsRange s.heap r a b c t u v)(hsmall:Builtin.Range.small a b c=true)(hn:Ak a b c=n)(hlen:n<=2^24){Q:List kB->kC->Prop}
  (h:∀vs h' tk,vs.length=n->(∀(i:Nat) v,vs[i]?=some v->∃t,v=.int (a+i*c) t)->Keeps s.heap h'->s.heap.objs.size<=h'.objs.size->Q vs {s with heap:=h',toks:=tk}):wpAny (model prog w) A (collect (.ref r)) Q E s:=by
 unfold collect;refine kA (wpAny_runValue (jd (Uh (R:=wants (fun v s'=>∃h' tk acc c',v=.ref s.heap.objs.size/\s'={s with heap:=h',toks:=tk}/\Keeps s.heap h'/\h'.get? s.heap.objs.size=some {cls:=.type "list",dict:=none,data:=.seq acc c',slots:=#[]}/\EW (fun i v=>∃t,v=.int (a+i*c) t) acc n) E) entry_proto_collect' ?_) fun r s1 hr=>?_))
 rotate_left
 ·cases r with
  |error e=>exact hr
  |ok fl=>
   cases fl with
   |ret v=>
    obtain⟨h',tk,acc,c',rfl,rfl,k,hS,ea⟩:=hr;show wpAny (model prog w) A (load s.heap.objs.size>>=_) Q E _;refine kA (wpAny_load hS ?_);dsimp only;exact kL (h acc.toList h' tk (by rw[kT];exact ea.1) (fun i v hv=>ea.2 i v (by rw[←pW];exact hv)) k (ud (ki hS)))
   |_=>exact hr.elim
 show wpAny _ _ (do again (.builtin "list.__iadd__" ⟨[←newList [],.ref r],[]⟩)) _ _ s
 refine kA (jB (kL ⟨Code.quiet_builtin _ (by decide+kernel),Uh entry_list_iadd' ?_⟩))
 show wpAny _ _ (Qq (.ref s.heap.objs.size) (.ref r) (.ref s.heap.objs.size)) _ _ {s with heap:=s.heap.push (kz "list" #[] 0)}
 rw[UM (by decide+kernel) _]
 have hS0:(s.heap.push (kz "list" #[] 0)).get? s.heap.objs.size=some {cls:=.type "list",data:=.seq #[] 0}:=kh _ rfl;refine wpAny_extend_range (s:={s with heap:=s.heap.push (kz "list" #[] 0)}) hh (kI _ hr) hsmall hn hlen _ _ 0 hS0 (fun h' tk acc c' kp hS hacc=>?_);have k:Keeps s.heap h':=fun b o e=>kp b o (pL (ki e)) (kI _ e);exact⟨h',tk,acc,c',rfl,rfl,k,hS,hacc⟩
theorem zl6{r fa:Addr}{n:Nat}{t u v:Tok}{Q:kB->kC->Prop}(hh:A.handled=none)(hr:IsRange s.heap r 0 n 1 t u v)(h64:n<64)
  (h:∀vs D kS e1 h' tk,vs.length=n->(∀(i:Nat) v,vs[i]?=some v->∃t,v=.int i t)->s.heap.objs.size<=D->Keeps s.heap h'->D<kS->h'.get? D=some (kz "list" #[] e1)->h'.get? kS=some (kz "list" #[] 0)->∃J,zn9 prog w A.in1.in1 D kS e1 (.ref fa) vs (fun r s'=>r=.done (.ret .none)->Q (.ref D) s') J/\J 0 [] 0 {s with heap:=h',toks:=tk}):
  wpAny (model prog w) A (call (.builtin "sorted") [.ref r] [(pQ "key",.ref fa)]) Q E s:=by
 have e62:(2:Int)^62=4611686018427387904:=rfl;refine BM kind_sorted plain_sorted entry_sorted (ksk_s1 _ _) ?_;unfold vn.«sorted»;refine kA (m:=checkCount _ _ _ _) (kL (kA (zi7 (A:=A.in1) (n:=n) (show A.in1.handled=none from hh) hr (small_one (by decide) (by decide) (by omega) (by omega)) (by rw[rangeSize_one];split<;>omega) (by omega) fun vs h1 tk ln hv k1 sz1=>?_)))
 have zl:vs.length<=sizeLine:=pP (ud (by omega:vs.length<64)) (by decide)
 refine kA (jB ?_ zl);have o2:(h1.push (kz "list" vs.toArray 0)).get? h1.objs.size=some (kz "list" vs.toArray 0):=kh _ rfl;refine kA (UG (CH slot_list_sort ⟨_,o2,rfl⟩ Dg ?body (ksk_l1 _ _)))
 case body=>
  show wpAny (model prog w) A.in1.in1 (vn.«list.sort» ⟨[.ref h1.objs.size],[(pQ "key",.ref fa)]⟩) _ _ _
  rw[ksk_t1];refine uS (zol (s:={s with heap:=h1.push (kz "list" vs.toArray 0),toks:=tk}) (P:=fun r s'=>r=.done (.ret .none)/\(r=.done (.ret .none)->Q (.ref h1.objs.size) s')) (k1.push _) sz1 o2 (by omega) fun kS e1 h' kk lt ha hk=>?_) (fun r s' hq=>?_) fun _ _ z=>z
  ·obtain⟨J,R,h0⟩:=h vs h1.objs.size kS e1 h' tk ln (fun i v e=>by obtain⟨t,q⟩:=hv i v e;exact⟨t,by rw[q];simp⟩) sz1 kk lt ha hk
   refine⟨J,⟨R.store,R.turn,fun ks e s' hJ=>?_⟩,h0⟩;obtain⟨f1,κ,ans,f2,f3,f4⟩:=R.fin ks e s' hJ;exact⟨f1,κ,ans,f2,f3,fun p or ep=>⟨rfl,f4 p or ep⟩⟩
  ·obtain⟨rfl,hq⟩:=hq;exact⟨_,rfl,kL ⟨_,rfl,hq rfl⟩⟩
end
structure KeyRG(KP:KPT)(te:TE)(vys:List V)(c':Addr)(q:Str)(vs:List V)(H:Hp)(Q:VK)(Pv:Nat->List V->Hp->Prop):Prop where
 start:Pv 0 [] H
 code:∀i zs H',Pv i zs H'->H' c'=some (zh0 c' q)
 len:∀i zs H',Pv i zs H'->zs.length=i
 turn:∀i zs H' v,vs[i]?=some v->Pv i zs H'->te (some v::vys.map some) H' fun k H''=>Pv (i+1) (zs++[k]) H''
 fin:∀zs H',Pv vs.length zs H'->∃ans,KP H' zs ans/\∀D p,H' D=none->Ord vs.length p->(2<=vs.length->p=ansT ans (kas_sort vs.length))->Q (.ref D) (upd H' D (.lst (p.toList.map fun i=>vs.getD i .non)))
def rngV(n:Nat):List V:=(QL n).map fun i:Nat=>V.int (i:Int)
theorem zrj{n:Nat}{its:List kB}(hl:its.length=n)(hv:∀(i:Nat) v,its[i]?=some v->∃t,v=.int i t):Vals (rngV n) its:=by
 induction n generalizing its with
 |zero=>
  have:its=[]:=gI hl;subst this;exact .nil
 |succ n ih=>
  have ne:its≠[]:=fun z=>by rw[z] at hl;cases hl
  have e:=(List.dropLast_concat_getLast ne).symm;have ld:its.dropLast.length=n:=by rw[List.length_dropLast];omega
  have h1:=ih (its:=its.dropLast) ld fun i v hi=>hv i v (by rw[e,pj (kF.mp hi).1];exact hi)
  obtain⟨t,ht⟩:=hv n (its.getLast ne) (by rw[List.getLast_eq_getElem,kK (by omega)];simp[hl])
  unfold rngV;rw[Dh,uK,e];exact zgd h1 ⟨t,by simpa using ht⟩
section
variable{X:Cx}{pins:List (Addr×Obj)}{σ:St}{H:Hp}{s:kC}
theorem zoi{KP:KPT}{k n:Nat}{x ql:Str}{params:jS}{body:Expr}{sc:Scope}{fa c' r:Addr}{clos:List (Str×Addr)}{js:List Nat}{pm ctv:kB}{vys:List V}{te:TE}{Q:VK}{Pv:Nat->List V->Hp->Prop}{t u v:Tok}(I:Inv X pins σ H s)(hKP:zlj X KP)(hr:Room (k+2) X.A)(S:zgf x (clos.map QP) sc)
  (nd:(clos.map QP).Nodup)(hcap:Capt X clos js)(hσ:js.map (fun j=>σ[j]?)=vys.map (fun v=>some (some v)))(hfa:FpOk X pins H fa)(hfo:s.heap.get? fa=some (kla_obj "<lambda>" ql params body sc clos pm c' ctv))
  (hbind:∀u,gq (kla_fn "<lambda>" ql params body sc clos pm (.ref c') ctv) ⟨[u],[]⟩=pure [(x,u)])(hbody:∀(A:pO)(s:kC)(H:Hp),A.units+64<cLine->PE (zkz X.prog X.w X.K X.mg X.base x ql sc fa (.ref c') clos A X.stack s H) body te)
  (hrg:IsRange s.heap r 0 n 1 t u v)(h64:n<64)(R:KeyRG KP te vys c' ql (rngV n) H Q Pv):wpAny (model X.prog X.w) X.A (call (.builtin "sorted") [.ref r] [(pQ "key",.ref fa)]) (EP X pins σ Q) X.xe s:=by
 have un:=hr.un;have inj:∀y z d,(y,d)∈clos->(z,d)∈clos->y=z:=fun y z d h1 h2=>I.ok.inj _ _ d (hcap.mem h1) (hcap.mem h2);have lv:(rngV n).length=n:=by unfold rngV;rw[kP,uN]
 refine zl6 hr.hd hrg h64 fun its D kS e1 h' tk ln hits sD kk lt hD hkS=>?_;have rv:=zrj ln hits;have len:(rngV n).length=its.length:=by omega
 have sK:s.heap.objs.size<=kS:=by omega
 have fD:=I.fpOk sD (I.hok.fresh sD);have fK:=I.fpOk sK (I.hok.fresh sK);have faD:fa≠D:=pL (ku (ki hfo) sD);have faK:fa≠kS:=pL (ku (ki hfo) sK);have DK:D≠kS:=pL lt;have nseq:∀(b:Array kB)(m:Nat)(v:Option kB),(kz "list" b m).data≠.cell v:=fun b m v z=>nomatch (show Ej b m=Aj v from z);have nfun:∀v,(kla_obj "<lambda>" ql params body sc clos pm c' ctv).data≠.cell v:=fun v z=>nomatch (show Data.func _=Aj v from z);have pin3:∀{ks:List kB}{e:Nat}{H':Hp}{s':kC},Inv X pins σ H' s'->H' fa=none->H' D=none->H' kS=none->s'.heap.get? fa=some (kla_obj "<lambda>" ql params body sc clos pm c' ctv)->s'.heap.get? D=some (kz "list" #[] e1)->s'.heap.get? kS=some (kz "list" ks.toArray e)->
   Inv X (pins++[(fa,kla_obj "<lambda>" ql params body sc clos pm c' ctv),(D,kz "list" #[] e1),(kS,kz "list" ks.toArray e)]) σ H' s':=fun{ks e H' s'} J n1 n2 n3 o1 o2 o3=>by
  refine J.pins_of fun p hp=>?_;rcases kY.mp hp with hp|hp
  ·exact J.pin p (kN _ hp)
  ·simp only[kr,uV,or_false] at hp;rcases hp with rfl|rfl|rfl
   ·exact⟨o1,n1,hfa.2.1,hfa.2.2.1,nfun⟩
   ·exact⟨o2,n2,fD.2.1,fD.2.2.1,nseq _ _⟩
   ·exact⟨o3,n3,fK.2.1,fK.2.2.1,nseq _ _⟩
 have of3:∀{ks:List kB}{e:Nat}{H':Hp}{s':kC},Inv X (pins++[(fa,kla_obj "<lambda>" ql params body sc clos pm c' ctv),(D,kz "list" #[] e1),(kS,kz "list" ks.toArray e)]) σ H' s'->
   Inv X pins σ H' s'/\(H' fa=none/\H' D=none/\H' kS=none)/\s'.heap.get? fa=some (kla_obj "<lambda>" ql params body sc clos pm c' ctv)/\s'.heap.get? D=some (kz "list" #[] e1)/\s'.heap.get? kS=some (kz "list" ks.toArray e):=fun{ks e H' s'} J=>by
  have p1:=J.pin (fa,kla_obj "<lambda>" ql params body sc clos pm c' ctv) (kN _ (kN _ (by simp)))
  have p2:=J.pin (D,kz "list" #[] e1) (kN _ (kN _ (by simp)))
  have p3:=J.pin (kS,kz "list" ks.toArray e) (kN _ (kN _ (by simp)))
  exact⟨J.unpinned,⟨p1.2.1,p2.2.1,p3.2.1⟩,p1.1,p2.1,p3.1⟩
 refine⟨fun i ks e s'=>∃H' zs,Inv X (pins++[(fa,kla_obj "<lambda>" ql params body sc clos pm c' ctv),(D,kz "list" #[] e1),(kS,kz "list" ks.toArray e)]) σ H' s'/\Vals zs ks/\Pv i zs H',⟨fun i ks e s' hJ=>?_,fun i u ks e s' hu hJ=>?_,fun ks e s' hJ=>?_⟩,H,[],?_,.nil,R.start⟩
 ·obtain⟨H',zs,J,r,p⟩:=hJ;exact⟨(of3 J).2.2.2.2,by rw[←r.length];exact R.len _ _ _ p⟩
 ·obtain⟨H',zs,J,r,p⟩:=hJ;obtain⟨J0,⟨n1,n2,n3⟩,o1,o2,o3⟩:=of3 J;obtain⟨v,hv,ru⟩:=vals_get? rv hu;obtain⟨hcells,hlv⟩:=hcap.cells J hσ;have hcd:s'.heap.CodeRec (.ref c') ql:=(J.hok c' _ (R.code _ _ _ p)).1;refine uS (lam_runG J J.env0.in1.in1 (hr.in1.in1) S nd inj hlv o1 hcd (hbind u) ru hcells (hbody _ s' H' (by show X.A.units+1+1+64<cLine;omega)) (R.turn i zs H' v hv p)) (fun u' s'' hs=>?_) fun _ _ z=>z
  obtain⟨kv,H'',J',rk,p'⟩:=hs;obtain⟨J1,⟨m1,m2,m3⟩,q1,q2,q3⟩:=of3 J';refine⟨q3,fun c2 hc2=>⟨H'',zs++[kv],?_,zgd r rk,p'⟩⟩;have J2:Inv X pins σ H'' {s'' with heap:=s''.heap.update kS (kx (·.push u')),toks:=s''.toks}:=J1.turned (it:=kS) (fun b o hb e=>by rw[pg _ _ _ _ hb];exact e) m3 fK.2.1 fK.2.2.2.1 fK.2.2.2.2.1 fK.2.2.2.2.2
  exact pin3 J2 m1 m2 m3 (by show(s''.heap.update kS _).get? fa=_;rw[pg _ _ _ _ faK];exact q1) (by show(s''.heap.update kS _).get? D=_;rw[pg _ _ _ _ DK];exact q2) hc2
 ·obtain⟨H',zs,J,r,p⟩:=hJ;obtain⟨J0,⟨n1,n2,n3⟩,o1,o2,o3⟩:=of3 J;rw[←len] at p;obtain⟨ans,ok,q⟩:=R.fin zs H' p;have zl:=R.len _ _ _ p;have kl:ks.length=its.length:=by rw[←r.length,zl,len]
  obtain⟨κ,k1,k2⟩:=hKP _ _ _ _ _ _ _ J0 r ok;rw[kl] at k1 k2;refine⟨o2,κ,ans,k1,k2,fun pm' or ep _=>?_⟩
  ·have J2:Inv X pins σ H' {s' with heap:=s'.heap.update kS (kx fun _=>(#[]:Array kB)),toks:=s'.toks}:=J0.turned (it:=kS) (fun b o hb e=>by rw[pg _ _ _ _ hb];exact e) n3 fK.2.1 fK.2.2.2.1 fK.2.2.2.2.1 fK.2.2.2.2.2
   have o4:(s'.heap.update kS (kx fun _=>(#[]:Array kB))).get? D=some (kz "list" #[] e1):=by rw[pg _ _ _ _ DK];exact o2
   rw[←len] at or ep;have lo:pm'.toList.length=(rngV n).length:=by rw[or.length_eq,uN]
   obtain⟨c5,o5⟩:∃c5,((s'.heap.update kS (kx fun _=>(#[]:Array kB))).update D (kx fun _=>ur (pm'.toList.map fun i=>its.getD i pe))).get? D=some (kz "list" (ur (pm'.toList.map fun i=>its.getD i pe)) c5):=⟨_,US o4 _⟩;refine⟨.ref D,upd H' D (.lst (pm'.toList.map fun i=>(rngV n).getD i .non)),J2.track (t':=s'.toks) ⟨n2,fD.2⟩ (fun b o hb e=>by rw[pg _ _ _ _ hb];exact e) ?_ (zni _ fun i hi=>zi3 rv i ?_) o5,rfl,q D pm' n2 or ep⟩
   ·rw[kP,lo,lv];exact pP (ud h64) (by decide)
   ·exact Qe.mp (or.mem_iff.mp hi)
 ·have J0:Inv X pins σ H {s with heap:=h',toks:=tk}:=I.kept kk;exact pin3 J0 hfa.1 (I.hok.fresh sD) (I.hok.fresh sK) (kk _ _ hfo) hD hkS
end
section
variable{X:Cx}{p p2 pos pos2 lpos kpos:Pos}{a body:Expr}{params:jS}{sc:Scope}{x:Str}{clos:List (Str×Addr)}{js:List Nat}{c0 P:Addr}{k:Nat}{te:TE}{ta:TA}
def tSortR(KP:KPT)(P:Addr)(lpos:Pos)(ql:Str)(js:List Nat)(te:TE)(ta:TA):TE:=fun σ H Q=>ta σ H fun xs H1=>∃(n:Nat)(vys:List V),xs=[.int (n:Int)]/\n<64/\js.map (fun j=>σ[j]?)=vys.map (fun v=>some (some v))/\zah H1 P lpos ql/\
 ∀c' H2,zdc P H1 H2->zah H2 P lpos ql->H2 c'=some (zh0 c' ql)->∃Pv,KeyRG KP te vys c' ql (rngV n) H2 Q Pv
theorem pe_sortR{KP:KPT}(hKP:zlj X KP)(hr:Room (k+2) X.A)(hg:Gl X "sorted")(hm:X.mg "sorted"=none)(hg2:Gl X "range")(hm2:X.mg "range"=none)(ha:PA X [a] ta)(S:zgf x (clos.map QP) sc)(nd:(clos.map QP).Nodup)(hcap:Capt X clos js)
  (hclos:BF sc X.env=pure clos)(hdef:Dx params X.env=([],[]))(hcode:X.env.code=.ref c0)(C:CodeHd X.base c0 P)(hB:X.base.BuiltinsAt X.mg P)
  (hbind:∀(pm cd ctv u:kB),gq (kla_fn "<lambda>" (X.env.qual++"<lambda>") params body sc clos pm cd ctv) ⟨[u],[]⟩=pure [(x,u)])
  (hbody:∀(fa c':Addr)(A:pO)(s:kC)(H:Hp),A.units+64<cLine->PE (zkz X.prog X.w X.K X.mg X.base x (X.env.qual++"<lambda>") sc fa (.ref c') clos A X.stack s H) body te)
  (hs:uF [a] X.env=[(false,eval a X.env)]:=by rfl)
  (he:va pos (uF [.Call (.Name "range" p2) [a] [] pos2] X.env)=(false,eval (.Call (.Name "range" p2) [a] [] pos2) X.env)::va pos (uF [] X.env):=by rfl) (hpl:(va pos (uF [.Call (.Name "range" p2) [a] [] pos2] X.env)).any (·.1)=false:=by rfl):
  PE X (.Call (.Name "sorted" p) [.Call (.Name "range" p2) [a] [] pos2] [⟨some "key",.Lambda params body sc lpos,kpos⟩] pos) (tSortR KP P lpos (X.env.qual++"<lambda>") js te ta):=by
 intro pins s σ H Q I h;refine UW (zfg I hg hm zg9 ?_);refine DY ?_ he hpl rfl rfl;rw[he];refine jM ?_;refine Call_ (zfg I hg2 hm2 boot_range (Qp (thn (ha pos2 pins s σ H _ I h) fun us s1⟨vs,H1,I1,r1,q1⟩=>?_) hs rfl));obtain⟨n,vys,ev,h64,hσ,ht,q⟩:=q1;subst ev;obtain⟨u,rfl,ru⟩:=vals1 r1;obtain⟨t,rfl⟩:=ru;refine call_range_1 ?_;have I2:Inv X pins σ H1 {s1 with heap:=s1.heap.push {cls:=.type "range",data:=.fields #[.int 0 s1.toks,.int (n:Int) t,.int 1 (s1.toks+1)]},toks:=s1.toks+1+1}:=I1.kept fun b o e=>kI _ e;have o2:(s1.heap.push {cls:=.type "range",data:=.fields #[.int 0 s1.toks,.int (n:Int) t,.int 1 (s1.toks+1)]}).get? s1.heap.objs.size=some {cls:=.type "range",data:=.fields #[.int 0 s1.toks,.int (n:Int) t,.int 1 (s1.toks+1)]}:=kh _ rfl;have fR:=I1.fpOk (kM _) (I1.hok.fresh (kM _));have I3:Inv X (pins++[(s1.heap.objs.size,{cls:=.type "range",data:=.fields #[.int 0 s1.toks,.int (n:Int) t,.int 1 (s1.toks+1)]})]) σ H1 {s1 with heap:=s1.heap.push {cls:=.type "range",data:=.fields #[.int 0 s1.toks,.int (n:Int) t,.int 1 (s1.toks+1)]},toks:=s1.toks+1+1}:=by
  refine I2.pins_of fun p hp=>?_;rcases kY.mp hp with hp|hp
  ·exact I2.pin p (kN _ hp)
  ·have e:=kf.mp hp;subst e;exact⟨o2,fR.1,fR.2.1,fR.2.2.1,fun v z=>nomatch (show DU _=Aj v from z)⟩
 refine AW ?_;refine kws_cons (zms (C:=C) I3 hcode hB hclos hdef ht fun fa c' ctv H2 s2 I4 st lt hfo hc' ffa=>kws_nil ?_);obtain⟨Pv,R⟩:=q c' H2 st lt hc';have pr:=I4.pin _ (kN _ (kN _ (kf.mpr rfl)));refine zoi (r:=s1.heap.objs.size) (n:=n) I4.unpinned hKP hr S nd hcap hσ ⟨ffa.1,ffa.2.1,ffa.2.2.1,ffa.2.2.2.1,ffa.2.2.2.2.1,fun p hp=>?_⟩ hfo (fun u=>hbind _ _ _ u) (hbody fa c') pr.1 h64 R;refine ffa.2.2.2.2.2 p ?_;rcases kY.mp hp with hp|hp
 ·exact pR _ hp
 ·exact kN _ (pR _ hp)
end
section
open PySem.SeqAt
open PySem.AutoSeq1 (wpAny_loadPart')
open PySem.MeetsSeq PySem.MeetsSeq2 PySem.MeetsSeq3
theorem geRc{A:pO}{s:kC}{a c:Int}{t u:Tok}(prog:ko)(w:pN)(E:kB->kC->Prop)(Q:kB->kC->Prop)(h:Q (.bool (decide (c<=a))) s):wpAny (model prog w) A (Bn .GtE (.int a t) (.int c u)) Q E s:=
 (PyProof.Rows.ge_int h:wpAny (model prog w) A (Qj .GtE (.int a t) (.int c u)) Q E s)
theorem tupleGe(l b:Addr)(items items2:Array kB)(n n2:Nat)(dd dd2:Option Addr)(sl sl2:Array (Option kB))(ns ms:List Int)(hlen:ns.length=ms.length)(hi:Ua items.toList ns)(hj:Ua items2.toList ms):
  Meets (vn.«tuple.__ge__» ⟨[.ref l,.ref b],[]⟩)
   (fun _ R s=>s.heap.get? l=some {cls:=.type "tuple",dict:=dd,data:=.seq items n,slots:=sl}/\s.heap.get? b=some {cls:=.type "tuple",dict:=dd2,data:=.seq items2 n2,slots:=sl2}/\R (.ok (.ret (.bool (!HT.lexLt ns ms)))) s):=
 .of_wp fun prog w A R s h=>by
  obtain⟨hp,g,d,tk,os⟩:=s;obtain⟨hl,hb,h⟩:=h;have f2:=Ae;have z1:items.size=ns.length:=by rw[←hi.length];simp
  have z2:items2.size=ms.length:=by rw[←hj.length];simp
  wp_walk using UA hl,UA hb,Uy _ (fun rest b s'=>b.1=none/\s'=⟨hp,g,d,tk,os⟩/\∃(vs ws:List kB)(ns' ms':List Int),rest=vs.zip ws/\Ua vs ns'/\Ua ws ms'/\ns'.length=ms'.length/\R (.ok (.ret (.bool (!HT.lexLt ns' ms')))) ⟨hp,g,d,tk,os⟩) _
  case turn=>
   rintro⟨y,x⟩ rest b s' ⟨hb',rfl,vs,ws,ns',ms',hz,hvi,hwi,hln,hR⟩
   cases hvi with
   |nil=>rw[Cm] at hz;cases hz
   |cons a t hv=>
    cases hwi with
    |nil=>rw[CT] at hz;cases hz
    |cons c u hw=>
     rw[vP] at hz
     injection hz with q1 q2
     injection q1 with q3 q4
     subst q3 q4;rw[HT.lexLt_cons] at hR;simp only[uA] at hln;obtain⟨e,he,hiff⟩:=HT.eqAt_int A.in1 ⟨hp,g,d,tk,os⟩ a t c u;refine kA (he prog w _ _ ?_)
     cases e with
     |true=>
      rw[if_pos (hiff.mp rfl)] at hR
      wp_walk
      exact⟨rfl,rfl,_,_,_,_,q2,hv,hw,by omega,hR⟩
     |false=>
      have ac:¬a=c:=fun q=>absurd (hiff.mpr q) pI;rw[if_neg ac] at hR;have hR:R (.ok (.ret (.bool (decide (c<=a))))) ⟨hp,g,d,tk,os⟩:=by
       have e2:(!decide (a<c))=decide (c<=a):=by rw[jG];simp
       rw[←e2];exact hR
      have hri:=geRc (A:=A.in1) (s:=⟨hp,g,d,tk,os⟩) (a:=a) (c:=c) (t:=t) (u:=u) prog w
      wp_walk using hri
      exact⟨_,rfl,by simpa using hR⟩
  case fin=>
   rintro⟨b1,b2⟩ s' ⟨hb',rfl,vs,ws,ns',ms',hz,hvi,hwi,hln,hR⟩
   simp only at hb'
   subst hb';have hv:(!HT.lexLt ns' ms')=decide (items2.size<=items.size):=by
    rw[decide_eq_true (by omega)]
    cases hvi with
    |nil=>
     cases hwi with
     |nil=>rfl
     |cons c u hw=>cases hln
    |cons a t hv=>
     cases hwi with
     |nil=>cases hln
     |cons c u hw=>rw[vP] at hz;cases hz
   rw[hv] at hR
   wp_walk
   exact⟨_,rfl,by simpa[jt] using hR⟩
  case h=>
   exact⟨rfl,rfl,items.toList,items2.toList,ns,ms,rfl,hi,hj,hlen,h⟩
end
section
variable{X:Cx}
def rGe2:R2:=fun x y H Q=>∃a b i1 i2 j1 j2,x=.ref a/\y=.ref b/\H a=some (.tup [.int i1,.int i2])/\H b=some (.tup [.int j1,.int j2])/\Q (.bl (!lt2 (i1,i2) (j1,j2))) H
theorem op_ge2(hu:X.A.units+64<cLine):OpR X (Qj .GtE) rGe2:=by
 intro pins s σ H x y v u Q I rx ry h;obtain⟨a,b,i1,i2,j1,j2,rfl,rfl,ha,hb,q⟩:=h
 cases rx
 cases ry;have sa:SqT X.K H a ([i1,i2].map V.int):=.of ha;have sb:SqT X.K H b ([j1,j2].map V.int):=.of hb;obtain⟨its,r1,p1,_⟩:=I.tuple sa;obtain⟨its2,r2,p2,_⟩:=I.tuple sb;have e1:Ua its.toArray.toList [i1,i2]:=ze9 r1;have e2:Ua its2.toArray.toList [j1,j2]:=ze9 r2;obtain⟨⟨cls,dd,data,sl⟩,ho,hc,n,hd⟩:=id p1;obtain⟨⟨cls2,dd2,data2,sl2⟩,ho2,hc2,n2,hd2⟩:=id p2
 simp only at hc hd hc2 hd2
 subst hc hd hc2 hd2;have ev:HT.lexLt [i1,i2] [j1,j2]=lt2 (i1,i2) (j1,j2):=lex2 _ _ _ _;refine BJ (op:=.GtE) ⟨_,ho,rfl⟩ ⟨_,ho2,rfl⟩ PySem.F.slot_tuple_ge PySem.F.entry_tuple_ge (PySem.F.args_tuple_ge_2 _ _) (tupleGe a b its.toArray its2.toArray n n2 dd dd2 sl sl2 [i1,i2] [j1,j2] rfl e1 e2) ⟨ho,ho2,(fun z=>nomatch z),?_⟩ (by omega)
 rw[ev];exact⟨.bl _,H,I,rfl,q⟩
end
open PySem.W (kla_fn kla_obj envX tabObj CodeHd KasT kas_sort kas_ask kas_item)
section
variable{prog:ko}{w:pN}{A:pO}{E:kB->kC->Prop}{s:kC}{vs ks:List kB}{g:Heap}{a kS:Addr}{e e1:Nat}{f:kB}
theorem zme{x:kc}(h:x∈ks.toArray.zip vs.toArray):x.1∈ks:=by
 have h:x∈(ks.toArray.zip vs.toArray).toList:=Bu.mpr h;rw[DP] at h;exact(gN h).1
theorem zhk{st:uO}{ys:List kB}{P:UQ->kC->Prop}(hs:(arrOf st).map (·.2)=ys.toArray)(hf:jA st=none)(hz:ys.length=vs.length)(zl:vs.length<=sizeLine)(hkl:ks.length<=sizeLine)(nak:a≠kS)
  (hk:s.heap.get? kS=some (kz "list" ks.toArray e))(ha:s.heap.get? a=some (kz "list" #[] e1))
  (q:P (.done (.ret .none)) {s with heap:=(s.heap.update kS (kx fun _=>(#[]:Array kB))).update a (kx fun _=>ys.toArray)}):
  wpAny (model prog w) A (Dy a false e1 (.ref kS) st) P E s:=by
 have ha2:(s.heap.update kS (kx fun _=>(#[]:Array kB))).get? a=some (kz "list" #[] e1):=by rw[pg _ _ _ _ nak];exact ha
 unfold Dy;dsimp only;rw[hs];refine kA (Uu hk rfl ?_ (by rw[kt];exact hkl) (pG _))
 refine kA (vI ?_);refine kA (Bq ha2 rfl ?_);refine kA (Uu ha2 rfl ?_ (pG _) (by simp only[pJ,if_false];rw[kt,hz];omega))
 rw[hf];simp only[bne_self_eq_false,pJ,if_false];exact kL q
end
section
variable{X:Cx}
theorem keyV_rel{k:Key}{v:kB}(h:zlx k v):RelV (kV k) v:=by
 rcases zbr h with⟨i,t,rfl,rfl⟩|⟨x,t,rfl,rfl⟩
 ·exact⟨t,rfl⟩
 ·exact⟨t,rfl⟩
theorem zrq{P:ko}{w:pN}:∀{es:List jV}{vs:List (Key×kB)},Pairs (zbq P w) es vs->Vals (vs.map fun kv=>kV kv.1) (es.map (·.key)):=by
 intro es vs h
 induction h with
 |nil=>exact .nil
 |cons h1 h2 h3 ih=>exact .cons (keyV_rel h1) ih
def rListK:List V->Hp->VK->Prop:=fun xs H Q=>∃d kvs,xs=[.ref d]/\H d=some (.dK kvs)/\∀l,H l=none->Q (.ref l) (upd H l (.lst (kvs.map fun kv=>kV kv.1)))
theorem zo6(hc:X.calm=true):zdk X (.type "list") rListK:=by
 intro pins s σ H xs us Q I r h;obtain⟨d,kvs,rfl,e,q⟩:=h;obtain⟨u,rfl,rx⟩:=vals1 r
 cases rx;obtain⟨z,hd,vs,rel,o,es,ep,ho,hx,hdat,_,hp,_⟩:=I.hok d _ e;have kv:Vals (kvs.map fun kv=>kV kv.1) (es.toList.map (·.key)):=by
  have e1:(kvs.map fun kv=>kV kv.1)=vs.map fun kv=>kV kv.1:=by
   clear hp e q z
   rename_i nodup_
   clear nodup_
   induction rel with
   |nil=>rfl
   |cons h1 h2 ih=>rw[pC,pC,ih,h1.1]
  rw[e1];exact zrq hp
 have ls:es.size=kvs.length:=by
  have:=kv.length;rw[kP,kP] at this
  simpa using this.symm
 refine ze1 (I.ok.hd hc) hd ho hx.1 hdat (fun h' tk acc' c' kp hS hacc=>?_) (by omega)
 have ea:acc'.toList=es.toList.map (·.key):=by
  refine ve fun j=>?_;rw[kj,pW,pW];have ha:acc'.size=es.size:=hacc.1
  by_cases hj:j<es.size
  ·have hj':j<acc'.size:=by omega
   obtain⟨e,e1,e2⟩:=hacc.2 j acc'[j] (pK hj');rw[pK hj',e1,e2];rfl
  ·rw[QU (by omega),QU (by omega)]
   rfl
 refine⟨.ref s.heap.objs.size,_,I.laid (t':=tk) kp (kM _) (o:=.lst (kvs.map fun kv=>kV kv.1)) ⟨by rw[kP];exact z,acc'.toList,c',by rw[ea];exact kv,by simpa using hS⟩,rfl,q _ (I.hok.fresh (kM _))⟩
def zr2:List V->Hp->VK->Prop:=fun xs H Q=>∃l ns,xs=[.ref l]/\H l=some (.lst (ns.map V.int))/\ns.length<64/\∀D(ms:List Int),H D=none->ms.Perm ns->ms.Pairwise (·<=·)->Q (.ref D) (upd H D (.lst (ms.map V.int)))
theorem zih(hu:X.A.units+100<cLine):zdk X (.builtin "sorted") zr2:=by
 intro pins s σ H xs us Q I r h;obtain⟨l,ns,rfl,hl,h64,q⟩:=h;obtain⟨u,rfl,ru⟩:=vals1 r
 cases ru;obtain⟨its,rv,pl,hz⟩:=I.list (.of hl);have len:ns.length=its.length:=by have:=rv.length;rw[kP] at this;exact this
 refine sorted_ints pl.isList (ze9 rv) (by omega) fun out ms a1 a2 a3=>?_
 have k0:Keeps s.heap s.heap:=fun _ _ e=>e;have k2:=((k0.push (kz "list" #[] 0)).upd (a:=s.heap.objs.size) (f:=kx (·++its.toArray)) (kM _)).push (kz "list" its.toArray 0);have z2:((s.heap.push (kz "list" #[] 0)).update s.heap.objs.size (kx (·++its.toArray))).objs.size=s.heap.objs.size+1:=by
  rw[DQ,size_push']
 have o2:(((s.heap.push (kz "list" #[] 0)).update s.heap.objs.size (kx (·++its.toArray))).push (kz "list" its.toArray 0)).get? (s.heap.objs.size+1)=some (kz "list" its.toArray 0):=
  z2▸kh _ rfl
 have o3:=US o2 fun _=>(#[]:Array kB);have o5:=US (kI (kz "list" #[] 0) (kI (kz "tuple" its.toArray 0) o3)) fun _=>out;have k5:Keeps s.heap (sortedAll s.heap its out):=(((k2.upd (a:=s.heap.objs.size+1) (f:=kx fun _=>(#[]:Array kB)) (jU _)).push (kz "tuple" its.toArray 0)).push (kz "list" #[] 0)).upd (a:=s.heap.objs.size+1) (f:=kx fun _=>out) (jU _);refine⟨.ref _,upd H (s.heap.objs.size+1) (.lst (ms.map V.int)),I.laid (t':=s.toks) k5 (jU _) ⟨?_,out.toList,_,zhz a1,o5⟩,rfl,q _ _ (I.hok.fresh (jU _)) a2 a3⟩;rw[kP,a2.length_eq];exact pP (ud h64) (by decide)
end
def Ite(K:kJ)(l:Addr):It:=
 ⟨fun i H=>∃xs x,SqL K H l xs/\xs[i]?=some x,
  fun i H v H'=>∃T x,H T=none/\v=.ref T/\H'=upd H T (.tup [.int (i:Int),x])/\(∀xs,SqL K H l xs->xs[i]?=some x),
  fun i H=>∃xs,SqL K H l xs/\xs.length<=i⟩
def EnuSt(e it l:Addr)(i:Nat)(h:Heap):Prop:=∃old,IsEnum h e it (i:Int) old/\h.IsListIter it l i
theorem turn_enu{P:ko}{w:pN}{K:kJ}{elts:List Expr}{x1:Nat}{pos:Pos}{e it l:Addr}(ne:e≠it):
  Turn P w K (.Tuple elts x1 pos) (Ite K l) [e,it] e (EnuSt e it l) where
 mem:=by simp
 obj:=fun i h st b hb=>by
  obtain⟨old,he,h1⟩:=st;simp only[kr,uV,or_false] at hb;rcases hb with rfl|rfl
  ·exact⟨_,he,fun v q=>by cases q⟩
  ·obtain⟨o,q,c,d⟩:=h1;exact⟨o,q,fun v r=>by rw[d] at r;cases r⟩
 keep:=fun i h h' st k=>by
  obtain⟨old,he,h1⟩:=st;exact⟨old,k e (by simp) _ he,h1.at fun o q=>k it (by simp) o q⟩
 item:=by
  intro X hP hw hK hc i pins s σ H E I hf st hg;subst hP hw hK;obtain⟨xs,x,hq1,hx⟩:=hg;obtain⟨old,he,h1⟩:=st;obtain⟨its1,rv1,p1,_⟩:=I.list hq1;obtain⟨u1,hu1,ru1⟩:=rv1.get hx;refine wpAny_pyNext_enum_item he h1 p1.isList (x:=u1) (by simpa using hu1) ne fun h₁ z1 j1 pr sz kk=>⟨_,rfl,?_⟩
  refine wpAny_letOwnedTupleGo_enum z1 fun h₂ z2 sb=>?_;have lt:∀b∈[e,it],b≠s.heap.objs.size:=fun b hb z=>by
   have:∃o,s.heap.get? b=some o:=by
    simp only[kr,uV,or_false] at hb;rcases hb with rfl|rfl
    ·exact⟨_,he⟩
    ·obtain⟨o,q,_⟩:=h1;exact⟨o,q⟩
   obtain⟨o,q⟩:=this;exact absurd (ki q) (by rw[z];exact UD _)
  have nz:∀{b:Addr},b≠e->∀{o},h₁.get? b=some o->h₂.get? b=some o:=fun{b} hb{o} q=>(sb.2 b hb).trans q;have zT:s.heap.objs.size≠e:=(lt e (by simp)).symm
  have hnT:H s.heap.objs.size=none:=I.hok.fresh (kM _);have new:zd9 X.prog X.w (upd H s.heap.objs.size (.tup [.int (i:Int),x])) h₂ s.heap.objs.size (.tup [.int (i:Int),x]):=
   ⟨by show 2<=sizeLine;decide,[.int i s.toks,u1],.cons ⟨_,rfl⟩ (.cons ru1 .nil),⟨_,nz zT pr,rfl,_,rfl⟩⟩
  have I1:=Inv.turnedNew (h':=h₂) (t':=s.toks+1) (ch:=[e,it]) I hf (fun b o hb q=>nz (by simp at hb;exact hb.1) (kk b o (by simp at hb;exact hb.1) (by simp at hb;exact hb.2) q)) (kM _) new
  refine⟨.ref s.heap.objs.size,_,I1,rfl,⟨_,x,hnT,rfl,rfl,fun ys' hy'=>by rw[I.list_inj hy' hq1];exact hx⟩,⟨u1,?_,?_⟩,fun b hb=>by rw[za8 (lt b hb)];exact(hf b hb).1⟩
  ·exact z2
  ·exact j1.at fun o q=>nz (Ul ne) q
 done:=by
  intro X hP hw hK hc i pins s σ H E I hf st hg;subst hP hw hK;obtain⟨xs,hq1,hl⟩:=hg;obtain⟨old,he,h1⟩:=st;obtain⟨its1,rv1,p1,_⟩:=I.list hq1;have e1:=rv1.length;refine wpAny_pyNext_enum_end (I.ok.hd hc) he h1 p1.isList (by simp;omega) fun h₁ kk=>⟨rfl,?_⟩
  exact I.turnedL (t':=s.toks) (ch:=[e,it]) hf (fun b o hb q=>kk b o (by simp at hb;exact hb.2) q)
 self:=fun _ _ _ _ _ st h=>by
  obtain⟨old,he,_⟩:=st;exact Cw he h
section
variable{X:Cx}
def iEnu(ta:TA):TI:=fun σ H R=>ta σ H fun vs H1=>∃l xs,vs=[.ref l]/\H1 l=some (.lst xs)/\∀K,R (Ite K l) H1
theorem zjv:uQ "enumerate"=some (.type "enumerate"):=by decide+kernel
theorem pi_enu{a:Expr}{ta:TA}{p pos tpos:Pos}{elts:List Expr}{x1:Nat}(hg:Gl X "enumerate")(hm:X.mg "enumerate"=none)(ha:PA X [a] ta)(hs:uF [a] X.env=[(false,eval a X.env)]:=by rfl):PI X (.Tuple elts x1 tpos) (.Call (.Name "enumerate" p) [a] [] pos) (iEnu ta):=by
 intro pins s σ H R I h;refine Call_ (zfg I hg hm zjv (Qp (thn (ha pos pins s σ H _ I h) fun us s1⟨vs,H1,I1,r1,q1⟩=>?_) (by rw[hs];rfl) rfl))
 obtain⟨l,xs,e,e1,q⟩:=q1;subst e;obtain⟨u,rfl,ru⟩:=vals1 r1
 cases ru;obtain⟨its1,rv1,p1,_⟩:=I1.list (.of e1);refine call_enumerate_list p1.isList fun h' he hi sz kk=>?_;refine Cw he ?_;have I2:Inv X pins σ H1 {s1 with heap:=h'}:=I1.kept (t':=s1.toks) kk;refine⟨_,_,_,_,H1,rfl,I2,turn_enu (l:=l) (by show s1.heap.objs.size+1≠s1.heap.objs.size;omega),⟨_,he,hi⟩,fun b hb=>?_,q _⟩
 have hb':s1.heap.objs.size<=b:=by
  simp only[kr,uV,or_false] at hb;rcases hb with rfl|rfl
  ·exact At _ _
  ·exact kM _
 exact I1.fpOk hb' (I1.hok.fresh hb')
end
theorem for_enu{K:kJ}{l:Addr}{xs:List V}{g:TG}{tb:TS}{D:Ends}{σ:St}{H:Hp}(Pv:Nat->St->Hp->Prop)(h0:Pv 0 σ H)(hl:∀i σ H,Pv i σ H->H l=some (.lst xs))
  (hs:∀i x T σ H,xs[i]?=some x->Pv i σ H->H T=none->g (.ref T) σ (upd H T (.tup [.int (i:Int),x])) fun σ2 H2=>tb {D with nx:=Pv (i+1),ct:=Pv (i+1),bk:=D.nx} σ2 H2)(hd:∀σ H,Pv xs.length σ H->D.nx σ H):
  ∃W:Nat->Nat->St->Hp->Prop,(∃m,W 0 m σ H)/\∀i m σ H,W i m σ H->
   ((Ite K l).stop i H/\D.nx σ H)∨((Ite K l).go i H/\∃N:St->Hp->Prop,(∀σ' H',N σ' H'->∃m',m'<m/\W (i+1) m' σ' H')/\∀x H',(Ite K l).yld i H x H'->g x σ H' fun σ2 H2=>tb {D with nx:=N,ct:=N,bk:=D.nx} σ2 H2):=by
 refine⟨fun i m σ H=>m=xs.length-i/\i<=xs.length/\Pv i σ H,⟨xs.length,by simp,pG _,h0⟩,?_⟩
 rintro i m σ H ⟨rfl,hi,p⟩;have q1:=hl i σ H p
 by_cases hlt:i<xs.length
 ·refine .inr ⟨⟨xs,xs[i],.of q1,by simp[hlt]⟩,Pv (i+1),fun σ' H' p'=>⟨xs.length-(i+1),by omega,rfl,hlt,p'⟩,fun v H' y=>?_⟩
  obtain⟨T,x,hT,rfl,rfl,y1⟩:=y;exact hs i x T σ H (y1 xs (.of q1)) p hT
 ·have e:i=xs.length:=by omega
  subst e;exact .inl ⟨⟨xs,.of q1,kM _⟩,hd σ H p⟩
section
variable{X:Cx}
def rNotInT(K:kJ):R2:=fun x y H Q=>∃d es,RdD K H d x/\RdD K H (.tuple es) y/\d.canLay0=true/\uh es=true/\d.depth<=60/\Q (.bl (!es.any fun e=>Qu e d)) H
theorem zql{K':kJ}(hK:X.K=K')(hu:X.A.units+64<cLine):OpR X (Qj .NotIn) (rNotInT K'):=by
 subst hK;intro pins s σ H x y v u Q I rx ry h;obtain⟨d,es,hd,he,c1,c2,c3,q⟩:=h;obtain⟨as,ra⟩:=zei I d x v hd rx;obtain⟨bs,rb⟩:=zei I _ y u he ry;exact SeqAt.notIn_tuple_reads rb ra c2 c1 (by omega) ⟨.bl _,H,I,rfl,q⟩
end
structure WkT{α:Type}(an:α->α->Bool):Prop where
 irr:∀i,an i i=false
 tr:∀i j k,an i j=true->an j k=true->an i k=true
 cut:∀i j k,an i j=false->an j k=false->an i k=false
theorem WkT.asymm{α:Type}{an:α->α->Bool}(T:WkT an){a b:α}(h:an a b=true):an b a=false:=by
 cases e:an b a with
 |false=>rfl
 |true=>have:=T.tr _ _ _ h e;rw[T.irr] at this;cases this
def UpL{α:Type}(an:α->α->Bool)(l:List α):Prop:=l.Pairwise fun x y=>an y x=false
section
variable{prog:ko}{w:pN}{A:pO}{E:kB->kC->Prop}{s:kC}{a₀:Array kc}{κ:QJ}{an:kc->kc->Bool}
def QR(prog:ko)(w:pN)(A:pO)(E:kB->kC->Prop)(s:kC)(κ:QJ)(a₀:Array kc)(an:kc->kc->Bool):Prop:=
 ∀(x y:kc)(st:uO)(Q:Option Bool->uO->Prop),x∈a₀->y∈a₀->kindOf st=κ->Q (some (an x y)) st->wpS (model prog w) A E s (lt' x y) Q st
theorem zqo(hq:QR prog w A E s κ a₀ an){left:Bool}{key:kc}{arr:Array kc}{base n hint:Nat}{st:uO}{Q:Option Nat->uO->Prop}(hk:key∈a₀)(ha:∀x,x∈arr->x∈a₀)(hb:base+n<=arr.size)(hh:hint<n)(hκ:kindOf st=κ)
  (be:Nat->Bool)(hbe:∀i(h:base+i<arr.size),i<n->be i=if left=true then an arr[base+i] key else !an key arr[base+i])(mono:∀i j,i<j->j<n->be j=true->be i=true)
  (h:∀k,k<=n->(∀i,i<k->be i=true)->(∀i,k<=i->i<n->be i=false)->Q (some k) st):
  wpS (model prog w) A E s (gallop' left key arr base n hint) Q st:=by
 have bey:∀(i:Nat)(Q:Option Bool->uO->Prop),i<n->Q (some (be i)) st->wpS (model prog w) A E s ((do let x ←elem' arr (base+i);if left then lt' x key else return(←lt' key x).map (!·)):StateT uO Sem (Option Bool)) Q st:=by
  intro i Q hi hQ;refine kH (zaw (by omega) ?_)
  have hx:arr[base+i]∈a₀:=ha _ (Qb _);have e:=hbe i (by omega) hi
  cases left with
  |true=>
   rw[if_pos rfl] at e;exact hq _ _ _ _ hx hk hκ (by rw[←e];exact hQ)
  |false=>
   rw[if_neg (by decide)] at e
   exact kH (hq _ _ _ _ hk hx hκ (kG (by show Q (some (!an key arr[base+i])) st;rw[←e];exact hQ)))
 have mono':∀i j,i<=j->j<n->be i=false->be j=false:=fun i j hij hj hi=>by
  cases e:be j with
  |false=>rfl
  |true=>
   rcases vS hij with z|z
   ·rw[mono i j z hj e] at hi;cases hi
   ·rw[z,e] at hi;cases hi
 have monoT:∀i j,i<=j->j<n->be j=true->be i=true:=fun i j hij hj hi=>by
  rcases vS hij with z|z
  ·exact mono i j z hj hi
  ·rw[z];exact hi
 refine kH (bey hint _ hh ?_)
 cases er:be hint with
 |true=>
  show wpS _ _ _ _ (_>>=_) _ _
  refine kH (QZ (uD (I:=fun x(c:Option (Option Nat)×Nat×Nat) st'=>st=st'/\c.1=none/\c.2.1<c.2.2/\hint+c.2.1<n/\be (hint+c.2.1)=true/\x+1<=c.2.2) (Q:=fun c st'=>st=st'/\c.1=none/\c.2.1<c.2.2/\hint+c.2.1<n/\be (hint+c.2.1)=true/\(n-hint<=c.2.2∨(hint+c.2.2<n/\be (hint+c.2.2)=false))) ?_ ?_ ⟨rfl,rfl,Di,hh,er,kM _⟩) ?_)
  ·rintro x ⟨r,lastofs,ofs⟩ st' _ hx ⟨rfl,e,q1,q2,q3,q4⟩;dsimp only at e q1 q2 q3 q4⊢
   by_cases c:ofs≥n-hint
   ·rw[if_pos c];exact kG ⟨rfl,rfl,q1,q2,q3,.inl c⟩
   ·rw[if_neg c];refine kH (bey (hint+ofs) _ (by omega) ?_)
    cases eb:be (hint+ofs) with
    |true=>exact kG ⟨rfl,rfl,(by show ofs<2*ofs+1;omega),(by show hint+ofs<n;omega),eb,(by show x+1+1<=2*ofs+1;omega)⟩
    |false=>exact kG ⟨rfl,rfl,q1,q2,q3,.inr ⟨(by show hint+ofs<n;omega),eb⟩⟩
  ·rintro⟨r,lastofs,ofs⟩ st' ⟨rfl,e,q1,q2,q3,q4⟩;dsimp only at e q1 q2 q3 q4⊢;exact⟨rfl,e,q1,q2,q3,.inl (by omega)⟩
  ·rintro⟨r,lastofs,ofs⟩ st' ⟨rfl,e,q1,q2,q3,q4⟩;dsimp only at e q1 q2 q3 q4⊢;subst e;have h3:∀i,i<hint+lastofs+1->be i=true:=fun i hi=>monoT i _ (by omega) q2 q3
   have h4:∀i,hint+min ofs (n-hint)<=i->i<n->be i=false:=fun i hi hn=>by
       rcases q4 with z|⟨z1,z2⟩
       ·omega
       ·exact mono' (hint+ofs) i (by omega) hn z2
   have h1:hint+lastofs+1<=hint+min ofs (n-hint):=by omega
   have h2:hint+min ofs (n-hint)<=n:=by omega
   show wpS _ _ _ _ (_>>=_) _ _
   refine kH (QZ (uD (I:=fun x(c:Option (Option Nat)×Nat×Nat) st'=>st=st'/\c.1=none/\c.2.1<=c.2.2/\c.2.2<=n/\(∀i,i<c.2.1->be i=true)/\(∀i,c.2.2<=i->i<n->be i=false)/\c.2.2-c.2.1<=n-x) (Q:=fun c st'=>st=st'/\c.1=none/\c.2.2<=n/\(∀i,i<c.2.2->be i=true)/\(∀i,c.2.2<=i->i<n->be i=false)) ?_ ?_ ⟨rfl,rfl,h1,h2,h3,h4,by show hint+min ofs (n-hint)-(hint+lastofs+1)<=n-0;omega⟩) ?_)
   ·rintro x ⟨r,lo,hi⟩ st' _ hx ⟨rfl,e,q1,q2,q3,q4,q5⟩;dsimp only at e q1 q2 q3 q4 q5⊢
    by_cases c:lo≥hi
    ·rw[if_pos c];have el:lo=hi:=by omega
     subst el;exact kG ⟨rfl,rfl,q2,q3,q4⟩
    ·rw[if_neg c];refine kH (bey (lo+(hi-lo)/2) _ (by omega) ?_)
     cases eb:be (lo+(hi-lo)/2) with
     |true=>exact kG ⟨rfl,rfl,(by show lo+(hi-lo)/2+1<=hi;omega),q2,fun i hi'=>monoT i _ (by have:i<lo+(hi-lo)/2+1:=hi';omega) (by omega) eb,q4,(by show hi-(lo+(hi-lo)/2+1)<=n-(x+1);omega)⟩
     |false=>exact kG ⟨rfl,rfl,(by show lo<=lo+(hi-lo)/2;omega),(by show lo+(hi-lo)/2<=n;omega),q3,fun i hi' hn=>mono' _ i hi' hn eb,(by show lo+(hi-lo)/2-lo<=n-(x+1);omega)⟩
   ·rintro⟨r,lo,hi⟩ st' ⟨rfl,e,q1,q2,q3,q4,q5⟩;dsimp only at e q1 q2 q3 q4 q5⊢;have el:lo=hi:=by omega
    subst el;exact⟨rfl,e,q2,q3,q4⟩
   ·rintro⟨r,lo,hi⟩ st' ⟨rfl,e,q2,q3,q4⟩;dsimp only at e q2 q3 q4⊢;subst e;exact kG (h hi q2 q3 q4)
 |false=>
  show wpS _ _ _ _ (_>>=_) _ _
  refine kH (QZ (uD (I:=fun x(c:Option (Option Nat)×Nat×Nat) st'=>st=st'/\c.1=none/\c.2.1<c.2.2/\c.2.1<=hint/\be (hint-c.2.1)=false/\x+1<=c.2.2) (Q:=fun c st'=>st=st'/\c.1=none/\c.2.1<c.2.2/\c.2.1<=hint/\be (hint-c.2.1)=false/\(hint+1<=c.2.2∨(c.2.2<=hint/\be (hint-c.2.2)=true))) ?_ ?_ ⟨rfl,rfl,Di,pG _,er,kM _⟩) ?_)
  ·rintro x ⟨r,lastofs,ofs⟩ st' _ hx ⟨rfl,e,q1,q2,q3,q4⟩;dsimp only at e q1 q2 q3 q4⊢
   by_cases c:ofs≥hint+1
   ·rw[if_pos c];exact kG ⟨rfl,rfl,q1,q2,q3,.inl c⟩
   ·rw[if_neg c];refine kH (bey (hint-ofs) _ (by omega) ?_)
    cases eb:be (hint-ofs) with
    |true=>exact kG ⟨rfl,rfl,q1,q2,q3,.inr ⟨(by show ofs<=hint;omega),eb⟩⟩
    |false=>exact kG ⟨rfl,rfl,(by show ofs<2*ofs+1;omega),(by show ofs<=hint;omega),eb,(by show x+1+1<=2*ofs+1;omega)⟩
  ·rintro⟨r,lastofs,ofs⟩ st' ⟨rfl,e,q1,q2,q3,q4⟩;dsimp only at e q1 q2 q3 q4⊢;exact⟨rfl,e,q1,q2,q3,.inl (by omega)⟩
  ·rintro⟨r,lastofs,ofs⟩ st' ⟨rfl,e,q1,q2,q3,q4⟩;dsimp only at e q1 q2 q3 q4⊢;subst e;have h3:∀i,i<hint+1-min ofs (hint+1)->be i=true:=fun i hi=>by
       rcases q4 with z|⟨z1,z2⟩
       ·omega
       ·exact monoT i (hint-ofs) (by omega) (by omega) z2
   have h4:∀i,hint-lastofs<=i->i<n->be i=false:=fun i hi hn=>mono' (hint-lastofs) i hi hn q3;have h1:hint+1-min ofs (hint+1)<=hint-lastofs:=by omega
   have h2:hint-lastofs<=n:=by omega
   show wpS _ _ _ _ (_>>=_) _ _
   refine kH (QZ (uD (I:=fun x(c:Option (Option Nat)×Nat×Nat) st'=>st=st'/\c.1=none/\c.2.1<=c.2.2/\c.2.2<=n/\(∀i,i<c.2.1->be i=true)/\(∀i,c.2.2<=i->i<n->be i=false)/\c.2.2-c.2.1<=n-x) (Q:=fun c st'=>st=st'/\c.1=none/\c.2.2<=n/\(∀i,i<c.2.2->be i=true)/\(∀i,c.2.2<=i->i<n->be i=false)) ?_ ?_ ⟨rfl,rfl,h1,h2,h3,h4,by show hint-lastofs-(hint+1-min ofs (hint+1))<=n-0;omega⟩) ?_)
   ·rintro x ⟨r,lo,hi⟩ st' _ hx ⟨rfl,e,q1,q2,q3,q4,q5⟩;dsimp only at e q1 q2 q3 q4 q5⊢
    by_cases c:lo≥hi
    ·rw[if_pos c];have el:lo=hi:=by omega
     subst el;exact kG ⟨rfl,rfl,q2,q3,q4⟩
    ·rw[if_neg c];refine kH (bey (lo+(hi-lo)/2) _ (by omega) ?_)
     cases eb:be (lo+(hi-lo)/2) with
     |true=>exact kG ⟨rfl,rfl,(by show lo+(hi-lo)/2+1<=hi;omega),q2,fun i hi'=>monoT i _ (by have:i<lo+(hi-lo)/2+1:=hi';omega) (by omega) eb,q4,(by show hi-(lo+(hi-lo)/2+1)<=n-(x+1);omega)⟩
     |false=>exact kG ⟨rfl,rfl,(by show lo<=lo+(hi-lo)/2;omega),(by show lo+(hi-lo)/2<=n;omega),q3,fun i hi' hn=>mono' _ i hi' hn eb,(by show lo+(hi-lo)/2-lo<=n-(x+1);omega)⟩
   ·rintro⟨r,lo,hi⟩ st' ⟨rfl,e,q1,q2,q3,q4,q5⟩;dsimp only at e q1 q2 q3 q4 q5⊢;have el:lo=hi:=by omega
    subst el;exact⟨rfl,e,q2,q3,q4⟩
   ·rintro⟨r,lo,hi⟩ st' ⟨rfl,e,q2,q3,q4⟩;dsimp only at e q2 q3 q4⊢;subst e;exact kG (h hi q2 q3 q4)
end
section
variable{prog:ko}{w:pN}{A:pO}{E:kB->kC->Prop}{s:kC}{a₀:Array kc}{κ:QJ}{an:kc->kc->Bool}
def SrtS(an:kc->kc->Bool)(arr:Array kc)(base n:Nat):Prop:=∀i j(_:i<j)(_:j<n)(hi:base+i<arr.size)(hj:base+j<arr.size),an arr[base+j] arr[base+i]=false
theorem galR(T:WkT an)(hq:QR prog w A E s κ a₀ an){key:kc}{arr:Array kc}{base n hint:Nat}{st:uO}{Q:Option Nat->uO->Prop}(hk:key∈a₀)(ha:∀x,x∈arr->x∈a₀)(hb:base+n<=arr.size)(hh:hint<n)(hκ:kindOf st=κ)(so:SrtS an arr base n)
  (h:∀k,k<=n->(∀i,i<k->∀(h:base+i<arr.size),an key arr[base+i]=false)->(∀i,k<=i->i<n->∀(h:base+i<arr.size),an key arr[base+i]=true)->Q (some k) st):
  wpS (model prog w) A E s (gallop' false key arr base n hint) Q st:=by
 refine zqo hq hk ha hb hh hκ (fun i=> !an key (arr.getD (base+i) key)) (fun i hi hn=>?_) (fun i j hij hj e=>?_) fun k hk' h1 h2=>h k hk' (fun i hi hb'=>?_) fun i hi hn hb'=>?_
 ·rw[if_neg (by decide)]
  simp only[vO,hi,dite_true];rfl
 ·have bi:base+i<arr.size:=by omega
  have bj:base+j<arr.size:=by omega
  simp only[vO,bi,bj,dite_true,Qx] at e⊢;exact T.cut _ _ _ e (so i j hij hj bi bj)
 ·have:=h1 i hi;simp only[vO,hb',dite_true,Qx] at this;exact this
 ·have:=h2 i hi hn;simp only[vO,hb',dite_true,Cb] at this;exact this
theorem galL(T:WkT an)(hq:QR prog w A E s κ a₀ an){key:kc}{arr:Array kc}{base n hint:Nat}{st:uO}{Q:Option Nat->uO->Prop}(hk:key∈a₀)(ha:∀x,x∈arr->x∈a₀)(hb:base+n<=arr.size)(hh:hint<n)(hκ:kindOf st=κ)(so:SrtS an arr base n)
  (h:∀k,k<=n->(∀i,i<k->∀(h:base+i<arr.size),an arr[base+i] key=true)->(∀i,k<=i->i<n->∀(h:base+i<arr.size),an arr[base+i] key=false)->Q (some k) st):
  wpS (model prog w) A E s (gallop' true key arr base n hint) Q st:=by
 refine zqo hq hk ha hb hh hκ (fun i=>an (arr.getD (base+i) key) key) (fun i hi hn=>?_) (fun i j hij hj e=>?_) fun k hk' h1 h2=>h k hk' (fun i hi hb'=>?_) fun i hi hn hb'=>?_
 ·rw[if_pos rfl];simp only[vO,hi,dite_true];rfl
 ·have bi:base+i<arr.size:=by omega
  have bj:base+j<arr.size:=by omega
  simp only[vO,bi,bj,dite_true] at e⊢
  cases z:an (arr.getInternal (base+i) bi) key with
  |true=>rfl
  |false=>
   have:=T.cut _ _ _ (so i j hij hj bi bj) z;rw[show an arr[base+j] key=true from e] at this
   cases this
 ·have:=h1 i hi;simp only[vO,hb',dite_true] at this;exact this
 ·have:=h2 i hi hn;simp only[vO,hb',dite_true] at this;exact this
structure LoIv(an:kc->kc->Bool)(a b:Array kc)(J:Array kc->Nat->Nat->Prop)(R:Array kc->Prop):Prop where
 z:∀h:0<b.size,J #[b[0]] 0 1
 done:∀{out ia ib},J out ia ib->ib=b.size∨ia=a.size->R (out++a.extract ia++b.extract ib)
 last:∀{out ia ib},J out ia ib->ia+1=a.size->R (out++b.extract ib++a.extract ia)
 b1:∀{out ia ib},J out ia ib->∀(ha:ia<a.size)(hb:ib<b.size),an b[ib] a[ia]=true->J (out.push b[ib]) ia (ib+1)
 a1:∀{out ia ib},J out ia ib->∀(ha:ia<a.size)(hb:ib<b.size),an b[ib] a[ia]=false->J (out.push a[ia]) (ia+1) ib
 ak:∀{out ia ib k},J out ia ib->∀hb:ib<b.size,ia+k<=a.size->(∀i,i<k->∀(h:ia+i<a.size),an b[ib] a[ia+i]=false)->J (out++a.extract ia (ia+k)) (ia+k) ib
 bk:∀{out ia ib k},J out ia ib->∀ha:ia<a.size,ib+k<=b.size->(∀i,i<k->∀(h:ib+i<b.size),an b[ib+i] a[ia]=true)->J (out++b.extract ib (ib+k)) ia (ib+k)
theorem zch{an:kc->kc->Bool}{arr:Array kc}{n base m:Nat}(h:SrtS an arr 0 n)(hb:base+m<=n):SrtS an arr base m:=fun i j hij hj hi hj'=>by
 have e:∀{k:Nat}(h1:base+k<arr.size)(h2:0+(base+k)<arr.size),arr[base+k]=arr[0+(base+k)]:=fun h1 h2=>by congr 1;omega
 rw[e hi (by omega),e hj' (by omega)]
 exact h (base+i) (base+j) (by omega) (by omega) (by omega) (by omega)
theorem loG(T:WkT an)(hq:QR prog w A E s κ a₀ an){J:Array kc->Nat->Nat->Prop}{R:Array kc->Prop}{a b:Array kc}{st:uO}{Q:Array kc->uO->Prop}(ha:∀x,x∈a->x∈a₀)(hb:∀x,x∈b->x∈a₀)(a1:0<a.size)(b1:0<b.size)(hκ:kindOf st=κ)(L:LoIv an a b J R)(sa:SrtS an a 0 a.size)(sb:SrtS an b 0 b.size)
  (h:∀r g,R r->Q r (gSt st g)):wpS (model prog w) A E s (mergeLo' a b) Q st:=by
 have ea:∀{i:Nat}(h:i<a.size),a[i]∈a₀:=fun h=>ha _ (Qb h);have eb:∀{i:Nat}(h:i<b.size),b[i]∈a₀:=fun h=>hb _ (Qb h);have est:gSt st (Bv st)=st:=rfl;refine kH (AI (QM ⟨rfl,?_⟩));refine kH (zaw b1 ?_);dsimp only
 by_cases c1:(1==b.size)=true
 ·rw[if_pos c1];exact kG (est▸h _ (Bv st) (L.done (L.z b1) (.inl (pE c1).symm.symm)))
 rw[if_neg c1]
 by_cases c2:(0+1==a.size)=true
 ·rw[if_pos c2];exact kG (est▸h _ (Bv st) (L.last (L.z b1) (pE c2)))
 rw[if_neg c2];have c1':1≠b.size:=fun z=>c1 (by rw[←z];rfl)
 have c2':1≠a.size:=fun z=>c2 (by rw[←z];rfl)
 refine kH (jL ?_);refine kH (QZ (uD
  (I:=fun x(c:Option (Array kc)×Array kc×Nat×Nat×Nat) st'=>(c.1=none/\J c.2.1 c.2.2.1 c.2.2.2.1/\c.2.2.1+1<a.size/\c.2.2.2.1<b.size/\x+1<=c.2.2.1+c.2.2.2.1)/\∃g,st'=gSt st g)
  (Q:=fun c st'=>∃r,c.1=some r/\R r/\∃g,st'=gSt st g) ?_ ?_ ⟨⟨rfl,L.z b1,by show 0+1<_;omega,by show 1<_;omega,by show 0+1<=0+1;omega⟩,_,rfl⟩) ?_)
 ·rintro x ⟨r0,out,ia,ib,mg⟩ st' _ hx ⟨⟨e0,hp,hia,hib,hlo⟩,g,rfl⟩;dsimp only at e0 hp hia hib hlo⊢;refine kH (QZ (uD
   (I:=fun y(c:Option (Array kc)×Array kc×Nat×Nat×Nat×Nat) st'=>(c.1=none/\J c.2.1 c.2.2.1 c.2.2.2.1/\c.2.2.1+1<a.size/\c.2.2.2.1<b.size/\ia+ib+min y 1<=c.2.2.1+c.2.2.2.1)/\∃g,st'=gSt st g)
   (Q:=fun c st'=>((∃r,c.1=some r/\R r)∨(c.1=none/\J c.2.1 c.2.2.1 c.2.2.2.1/\c.2.2.1+1<a.size/\c.2.2.2.1<b.size/\ia+ib+1<=c.2.2.1+c.2.2.2.1))/\∃g,st'=gSt st g) ?_ ?_ ⟨⟨rfl,hp,hia,hib,by show ia+ib+min 0 1<=ia+ib;omega⟩,_,rfl⟩) ?_)
  ·rintro y ⟨r1,out,ja,jb,ac,bc⟩ st' _ hy ⟨⟨e1,hp,hja,hjb,hl1⟩,g,rfl⟩;dsimp only at e1 hp hja hjb hl1⊢;refine kH (zaw hjb (kH (zaw (show ja<a.size by omega) (kH (hq _ _ _ _ (eb hjb) (ea (by omega)) hκ ?_)))))
   cases ebw:an b[jb] a[ja] with
   |true=>
    refine kH (zaw hjb ?_)
    try dsimp only
    have hp1:=L.b1 hp (by omega) hjb ebw
    by_cases d:(jb+1==b.size)=true
    ·rw[if_pos d];exact kG ⟨.inl ⟨_,rfl,L.done hp1 (.inl (pE d))⟩,_,rfl⟩
    rw[if_neg d];have d':jb+1≠b.size:=fun z=>d (by rw[z];exact beq_self_eq_true _)
    by_cases f:bc+1≥mg
    ·rw[if_pos f];exact kG ⟨.inr ⟨rfl,hp1,hja,(by show jb+1<b.size;omega),(by show ia+ib+1<=ja+(jb+1);omega)⟩,_,rfl⟩
    ·rw[if_neg f];exact kG ⟨⟨rfl,hp1,hja,(by show jb+1<b.size;omega),(by show ia+ib+min (y+1) 1<=ja+(jb+1);omega)⟩,_,rfl⟩
   |false=>
    refine kH (zaw (show ja<a.size by omega) ?_)
    try dsimp only
    have hp1:=L.a1 hp (by omega) hjb ebw
    by_cases d:(ja+1+1==a.size)=true
    ·rw[if_pos d];exact kG ⟨.inl ⟨_,rfl,L.last hp1 (pE d)⟩,_,rfl⟩
    rw[if_neg d];have d':ja+1+1≠a.size:=fun z=>d (by rw[z];exact beq_self_eq_true _)
    by_cases f:ac+1≥mg
    ·rw[if_pos f];exact kG ⟨.inr ⟨rfl,hp1,(by show ja+1+1<a.size;omega),hjb,(by show ia+ib+1<=ja+1+jb;omega)⟩,_,rfl⟩
    ·rw[if_neg f];exact kG ⟨⟨rfl,hp1,(by show ja+1+1<a.size;omega),hjb,(by show ia+ib+min (y+1) 1<=ja+1+jb;omega)⟩,_,rfl⟩
  ·rintro c st' ⟨⟨e1,hp,hja,hjb,hl1⟩,g⟩;exact⟨.inr ⟨e1,hp,hja,hjb,by omega⟩,g⟩
  ·rintro⟨r1,out,ja,jb,ac,bc⟩ st' ⟨hc,g,rfl⟩;dsimp only at hc⊢;rcases hc with⟨r,rfl,hr⟩|⟨rfl,hp,hja,hjb,hl1⟩
   ·exact kG ⟨r,rfl,hr,_,rfl⟩
   dsimp only;refine kH (AI (QM ⟨rfl,?_⟩));refine kH (QZ (uD
    (I:=fun y(c:Option (Array kc)×Array kc×Nat×Nat×Nat×Nat×Nat) st'=>(c.1=none/\J c.2.1 c.2.2.1 c.2.2.2.1/\c.2.2.1+1<a.size/\c.2.2.2.1<b.size/\ia+ib+1<=c.2.2.1+c.2.2.2.1)/\∃g,st'=gSt st g)
    (Q:=fun c st'=>((∃r,c.1=some r/\R r)∨(c.1=none/\J c.2.1 c.2.2.1 c.2.2.2.1/\c.2.2.1+1<a.size/\c.2.2.2.1<b.size/\ia+ib+1<=c.2.2.1+c.2.2.2.1))/\∃g,st'=gSt st g) ?_ (fun c st' z=>⟨.inr z.1,z.2⟩) ⟨⟨rfl,hp,hja,hjb,hl1⟩,_,rfl⟩) ?_)
   ·rintro y ⟨r2,out,ka,kb,mg2,ac2,bc2⟩ st' _ hy ⟨⟨e2,hp,hka,hkb,hl2⟩,g,rfl⟩;dsimp only at e2 hp hka hkb hl2⊢
    by_cases mm:mg2>1
    ·rw[if_pos mm];refine kH (uP ?_);refine kH (zaw hkb ?_);refine kH (galR T hq (eb hkb) ha (by omega) (by omega) hκ (zch sa (by omega)) fun k hk t1 t2=>?_)
     try dsimp only
     by_cases k0:k>0
     ·rw[if_pos k0];have hp1:=L.ak hp hkb (by omega) t1
      by_cases d1:(ka+k+1==a.size)=true
      ·rw[if_pos d1];exact kG ⟨.inl ⟨_,rfl,L.last hp1 (pE d1)⟩,_,rfl⟩
      rw[if_neg d1];have d1':ka+k+1≠a.size:=fun z=>d1 (by rw[z];exact beq_self_eq_true _)
      by_cases d2:(ka+k==a.size)=true
      ·rw[if_pos d2];exact kG ⟨.inl ⟨_,rfl,L.done hp1 (.inr (pE d2))⟩,_,rfl⟩
      rw[if_neg d2];have d2':ka+k≠a.size:=fun z=>d2 (by rw[z];exact beq_self_eq_true _)
      refine kH (zaw hkb ?_)
      try dsimp only
      have hp2:=L.b1 hp1 (by omega) hkb (t2 k (kM _) (by omega) (by omega))
      by_cases d3:(kb+1==b.size)=true
      ·rw[if_pos d3];exact kG ⟨.inl ⟨_,rfl,L.done hp2 (.inl (pE d3))⟩,_,rfl⟩
      rw[if_neg d3];have d3':kb+1≠b.size:=fun z=>d3 (by rw[z];exact beq_self_eq_true _)
      refine kH (zaw (show ka+k<a.size by omega) ?_)
      refine kH (galL T hq (ea (by omega)) hb (by omega) (by omega) hκ (zch sb (by omega)) fun k2 hk2 u1 u2=>?_)
      try dsimp only
      by_cases k20:k2>0
      ·rw[if_pos k20];have hp3:=L.bk hp2 (by omega) (by omega) u1
       by_cases d4:(kb+1+k2==b.size)=true
       ·rw[if_pos d4];exact kG ⟨.inl ⟨_,rfl,L.done hp3 (.inl (pE d4))⟩,_,rfl⟩
       rw[if_neg d4];have d4':kb+1+k2≠b.size:=fun z=>d4 (by rw[z];exact beq_self_eq_true _)
       refine kH (zaw (show ka+k<a.size by omega) ?_)
       try dsimp only
       have hp4:=L.a1 hp3 (by omega) (by omega) (u2 k2 (kM _) (by omega) (by omega))
       by_cases d5:(ka+k+1+1==a.size)=true
       ·rw[if_pos d5];exact kG ⟨.inl ⟨_,rfl,L.last hp4 (pE d5)⟩,_,rfl⟩
       rw[if_neg d5];have d5':ka+k+1+1≠a.size:=fun z=>d5 (by rw[z];exact beq_self_eq_true _)
       by_cases d6:(decide (k<7)&&decide (k2<7))=true
       ·rw[if_pos d6];exact kG ⟨.inr ⟨rfl,hp4,(by show ka+k+1+1<a.size;omega),(by show kb+1+k2<b.size;omega),(by show ia+ib+1<=ka+k+1+(kb+1+k2);omega)⟩,_,rfl⟩
       ·rw[if_neg d6];exact kG ⟨⟨rfl,hp4,(by show ka+k+1+1<a.size;omega),(by show kb+1+k2<b.size;omega),(by show ia+ib+1<=ka+k+1+(kb+1+k2);omega)⟩,_,rfl⟩
      ·rw[if_neg k20];refine kH (zaw (show ka+k<a.size by omega) ?_)
       try dsimp only
       have hp4:=L.a1 hp2 (by omega) (by omega) (u2 0 (by omega) (by omega) (by omega))
       by_cases d5:(ka+k+1+1==a.size)=true
       ·rw[if_pos d5];exact kG ⟨.inl ⟨_,rfl,L.last hp4 (pE d5)⟩,_,rfl⟩
       rw[if_neg d5];have d5':ka+k+1+1≠a.size:=fun z=>d5 (by rw[z];exact beq_self_eq_true _)
       by_cases d6:(decide (k<7)&&decide (k2<7))=true
       ·rw[if_pos d6];exact kG ⟨.inr ⟨rfl,hp4,(by show ka+k+1+1<a.size;omega),(by show kb+1<b.size;omega),(by show ia+ib+1<=ka+k+1+(kb+1);omega)⟩,_,rfl⟩
       ·rw[if_neg d6];exact kG ⟨⟨rfl,hp4,(by show ka+k+1+1<a.size;omega),(by show kb+1<b.size;omega),(by show ia+ib+1<=ka+k+1+(kb+1);omega)⟩,_,rfl⟩
     ·rw[if_neg k0];refine kH (zaw hkb ?_)
      try dsimp only
      have hp2:=L.b1 hp (by omega) hkb (t2 0 (by omega) (by omega) (by omega))
      by_cases d3:(kb+1==b.size)=true
      ·rw[if_pos d3];exact kG ⟨.inl ⟨_,rfl,L.done hp2 (.inl (pE d3))⟩,_,rfl⟩
      rw[if_neg d3];have d3':kb+1≠b.size:=fun z=>d3 (by rw[z];exact beq_self_eq_true _)
      refine kH (zaw (show ka<a.size by omega) ?_)
      refine kH (galL T hq (ea (by omega)) hb (by omega) (by omega) hκ (zch sb (by omega)) fun k2 hk2 u1 u2=>?_)
      try dsimp only
      by_cases k20:k2>0
      ·rw[if_pos k20];have hp3:=L.bk hp2 (by omega) (by omega) u1
       by_cases d4:(kb+1+k2==b.size)=true
       ·rw[if_pos d4];exact kG ⟨.inl ⟨_,rfl,L.done hp3 (.inl (pE d4))⟩,_,rfl⟩
       rw[if_neg d4];have d4':kb+1+k2≠b.size:=fun z=>d4 (by rw[z];exact beq_self_eq_true _)
       refine kH (zaw (show ka<a.size by omega) ?_)
       try dsimp only
       have hp4:=L.a1 hp3 (by omega) (by omega) (u2 k2 (kM _) (by omega) (by omega))
       by_cases d5:(ka+1+1==a.size)=true
       ·rw[if_pos d5];exact kG ⟨.inl ⟨_,rfl,L.last hp4 (pE d5)⟩,_,rfl⟩
       rw[if_neg d5];have d5':ka+1+1≠a.size:=fun z=>d5 (by rw[z];exact beq_self_eq_true _)
       by_cases d6:(decide (k<7)&&decide (k2<7))=true
       ·rw[if_pos d6];exact kG ⟨.inr ⟨rfl,hp4,(by show ka+1+1<a.size;omega),(by show kb+1+k2<b.size;omega),(by show ia+ib+1<=ka+1+(kb+1+k2);omega)⟩,_,rfl⟩
       ·rw[if_neg d6];exact kG ⟨⟨rfl,hp4,(by show ka+1+1<a.size;omega),(by show kb+1+k2<b.size;omega),(by show ia+ib+1<=ka+1+(kb+1+k2);omega)⟩,_,rfl⟩
      ·rw[if_neg k20];refine kH (zaw (show ka<a.size by omega) ?_)
       try dsimp only
       have hp4:=L.a1 hp2 (by omega) (by omega) (u2 0 (by omega) (by omega) (by omega))
       by_cases d5:(ka+1+1==a.size)=true
       ·rw[if_pos d5];exact kG ⟨.inl ⟨_,rfl,L.last hp4 (pE d5)⟩,_,rfl⟩
       rw[if_neg d5];have d5':ka+1+1≠a.size:=fun z=>d5 (by rw[z];exact beq_self_eq_true _)
       by_cases d6:(decide (k<7)&&decide (k2<7))=true
       ·rw[if_pos d6];exact kG ⟨.inr ⟨rfl,hp4,(by show ka+1+1<a.size;omega),(by show kb+1<b.size;omega),(by show ia+ib+1<=ka+1+(kb+1);omega)⟩,_,rfl⟩
       ·rw[if_neg d6];exact kG ⟨⟨rfl,hp4,(by show ka+1+1<a.size;omega),(by show kb+1<b.size;omega),(by show ia+ib+1<=ka+1+(kb+1);omega)⟩,_,rfl⟩
    ·rw[if_neg mm];refine kH (uP ?_);refine kH (zaw hkb ?_);refine kH (galR T hq (eb hkb) ha (by omega) (by omega) hκ (zch sa (by omega)) fun k hk t1 t2=>?_)
     try dsimp only
     by_cases k0:k>0
     ·rw[if_pos k0];have hp1:=L.ak hp hkb (by omega) t1
      by_cases d1:(ka+k+1==a.size)=true
      ·rw[if_pos d1];exact kG ⟨.inl ⟨_,rfl,L.last hp1 (pE d1)⟩,_,rfl⟩
      rw[if_neg d1];have d1':ka+k+1≠a.size:=fun z=>d1 (by rw[z];exact beq_self_eq_true _)
      by_cases d2:(ka+k==a.size)=true
      ·rw[if_pos d2];exact kG ⟨.inl ⟨_,rfl,L.done hp1 (.inr (pE d2))⟩,_,rfl⟩
      rw[if_neg d2];have d2':ka+k≠a.size:=fun z=>d2 (by rw[z];exact beq_self_eq_true _)
      refine kH (zaw hkb ?_)
      try dsimp only
      have hp2:=L.b1 hp1 (by omega) hkb (t2 k (kM _) (by omega) (by omega))
      by_cases d3:(kb+1==b.size)=true
      ·rw[if_pos d3];exact kG ⟨.inl ⟨_,rfl,L.done hp2 (.inl (pE d3))⟩,_,rfl⟩
      rw[if_neg d3];have d3':kb+1≠b.size:=fun z=>d3 (by rw[z];exact beq_self_eq_true _)
      refine kH (zaw (show ka+k<a.size by omega) ?_)
      refine kH (galL T hq (ea (by omega)) hb (by omega) (by omega) hκ (zch sb (by omega)) fun k2 hk2 u1 u2=>?_)
      try dsimp only
      by_cases k20:k2>0
      ·rw[if_pos k20];have hp3:=L.bk hp2 (by omega) (by omega) u1
       by_cases d4:(kb+1+k2==b.size)=true
       ·rw[if_pos d4];exact kG ⟨.inl ⟨_,rfl,L.done hp3 (.inl (pE d4))⟩,_,rfl⟩
       rw[if_neg d4];have d4':kb+1+k2≠b.size:=fun z=>d4 (by rw[z];exact beq_self_eq_true _)
       refine kH (zaw (show ka+k<a.size by omega) ?_)
       try dsimp only
       have hp4:=L.a1 hp3 (by omega) (by omega) (u2 k2 (kM _) (by omega) (by omega))
       by_cases d5:(ka+k+1+1==a.size)=true
       ·rw[if_pos d5];exact kG ⟨.inl ⟨_,rfl,L.last hp4 (pE d5)⟩,_,rfl⟩
       rw[if_neg d5];have d5':ka+k+1+1≠a.size:=fun z=>d5 (by rw[z];exact beq_self_eq_true _)
       by_cases d6:(decide (k<7)&&decide (k2<7))=true
       ·rw[if_pos d6];exact kG ⟨.inr ⟨rfl,hp4,(by show ka+k+1+1<a.size;omega),(by show kb+1+k2<b.size;omega),(by show ia+ib+1<=ka+k+1+(kb+1+k2);omega)⟩,_,rfl⟩
       ·rw[if_neg d6];exact kG ⟨⟨rfl,hp4,(by show ka+k+1+1<a.size;omega),(by show kb+1+k2<b.size;omega),(by show ia+ib+1<=ka+k+1+(kb+1+k2);omega)⟩,_,rfl⟩
      ·rw[if_neg k20];refine kH (zaw (show ka+k<a.size by omega) ?_)
       try dsimp only
       have hp4:=L.a1 hp2 (by omega) (by omega) (u2 0 (by omega) (by omega) (by omega))
       by_cases d5:(ka+k+1+1==a.size)=true
       ·rw[if_pos d5];exact kG ⟨.inl ⟨_,rfl,L.last hp4 (pE d5)⟩,_,rfl⟩
       rw[if_neg d5];have d5':ka+k+1+1≠a.size:=fun z=>d5 (by rw[z];exact beq_self_eq_true _)
       by_cases d6:(decide (k<7)&&decide (k2<7))=true
       ·rw[if_pos d6];exact kG ⟨.inr ⟨rfl,hp4,(by show ka+k+1+1<a.size;omega),(by show kb+1<b.size;omega),(by show ia+ib+1<=ka+k+1+(kb+1);omega)⟩,_,rfl⟩
       ·rw[if_neg d6];exact kG ⟨⟨rfl,hp4,(by show ka+k+1+1<a.size;omega),(by show kb+1<b.size;omega),(by show ia+ib+1<=ka+k+1+(kb+1);omega)⟩,_,rfl⟩
     ·rw[if_neg k0];refine kH (zaw hkb ?_)
      try dsimp only
      have hp2:=L.b1 hp (by omega) hkb (t2 0 (by omega) (by omega) (by omega))
      by_cases d3:(kb+1==b.size)=true
      ·rw[if_pos d3];exact kG ⟨.inl ⟨_,rfl,L.done hp2 (.inl (pE d3))⟩,_,rfl⟩
      rw[if_neg d3];have d3':kb+1≠b.size:=fun z=>d3 (by rw[z];exact beq_self_eq_true _)
      refine kH (zaw (show ka<a.size by omega) ?_)
      refine kH (galL T hq (ea (by omega)) hb (by omega) (by omega) hκ (zch sb (by omega)) fun k2 hk2 u1 u2=>?_)
      try dsimp only
      by_cases k20:k2>0
      ·rw[if_pos k20];have hp3:=L.bk hp2 (by omega) (by omega) u1
       by_cases d4:(kb+1+k2==b.size)=true
       ·rw[if_pos d4];exact kG ⟨.inl ⟨_,rfl,L.done hp3 (.inl (pE d4))⟩,_,rfl⟩
       rw[if_neg d4];have d4':kb+1+k2≠b.size:=fun z=>d4 (by rw[z];exact beq_self_eq_true _)
       refine kH (zaw (show ka<a.size by omega) ?_)
       try dsimp only
       have hp4:=L.a1 hp3 (by omega) (by omega) (u2 k2 (kM _) (by omega) (by omega))
       by_cases d5:(ka+1+1==a.size)=true
       ·rw[if_pos d5];exact kG ⟨.inl ⟨_,rfl,L.last hp4 (pE d5)⟩,_,rfl⟩
       rw[if_neg d5];have d5':ka+1+1≠a.size:=fun z=>d5 (by rw[z];exact beq_self_eq_true _)
       by_cases d6:(decide (k<7)&&decide (k2<7))=true
       ·rw[if_pos d6];exact kG ⟨.inr ⟨rfl,hp4,(by show ka+1+1<a.size;omega),(by show kb+1+k2<b.size;omega),(by show ia+ib+1<=ka+1+(kb+1+k2);omega)⟩,_,rfl⟩
       ·rw[if_neg d6];exact kG ⟨⟨rfl,hp4,(by show ka+1+1<a.size;omega),(by show kb+1+k2<b.size;omega),(by show ia+ib+1<=ka+1+(kb+1+k2);omega)⟩,_,rfl⟩
      ·rw[if_neg k20];refine kH (zaw (show ka<a.size by omega) ?_)
       try dsimp only
       have hp4:=L.a1 hp2 (by omega) (by omega) (u2 0 (by omega) (by omega) (by omega))
       by_cases d5:(ka+1+1==a.size)=true
       ·rw[if_pos d5];exact kG ⟨.inl ⟨_,rfl,L.last hp4 (pE d5)⟩,_,rfl⟩
       rw[if_neg d5];have d5':ka+1+1≠a.size:=fun z=>d5 (by rw[z];exact beq_self_eq_true _)
       by_cases d6:(decide (k<7)&&decide (k2<7))=true
       ·rw[if_pos d6];exact kG ⟨.inr ⟨rfl,hp4,(by show ka+1+1<a.size;omega),(by show kb+1<b.size;omega),(by show ia+ib+1<=ka+1+(kb+1);omega)⟩,_,rfl⟩
       ·rw[if_neg d6];exact kG ⟨⟨rfl,hp4,(by show ka+1+1<a.size;omega),(by show kb+1<b.size;omega),(by show ia+ib+1<=ka+1+(kb+1);omega)⟩,_,rfl⟩
   ·rintro⟨r2,out,ka,kb,mg2,ac2,bc2⟩ st' ⟨hc,g,rfl⟩;dsimp only at hc⊢;rcases hc with⟨r,rfl,hr⟩|⟨rfl,hp,hka,hkb,hl2⟩
    ·exact kG ⟨r,rfl,hr,_,rfl⟩
    dsimp only;refine kH (uP (kG ⟨⟨rfl,hp,hka,hkb,(by show x+1+1<=ka+kb;omega)⟩,_,rfl⟩))
 ·rintro c st' ⟨⟨e0,hp,hia,hib,hlo⟩,_⟩
  exfalso
  omega
 ·rintro⟨r0,out,ia,ib,mg⟩ st' ⟨r,e,hr,g,rfl⟩;dsimp only at e⊢;subst e;exact kG (h r g hr)
end
section
variable{prog:ko}{w:pN}{A:pO}{E:kB->kC->Prop}{s:kC}{a₀:Array kc}{κ:QJ}{an:kc->kc->Bool}
structure HiIv(an:kc->kc->Bool)(a b:Array kc)(J:Array kc->Nat->Nat->Prop)(R:Array kc->Prop):Prop where
 z:∀h:0<a.size,J #[a[a.size-1]] (a.size-1) b.size
 le:∀{out na nb},J out na nb->na<=a.size/\nb<=b.size
 done:∀{out na nb},J out na nb->na=0∨nb=0->R (a.extract 0 na++b.extract 0 nb++out.reverse)
 first:∀{out na nb},J out na nb->nb=1->R (b.extract 0 nb++a.extract 0 na++out.reverse)
 a1:∀{out na nb},J out na nb->∀(_:0<na)(_:0<nb)(ha:na-1<a.size)(hb:nb-1<b.size),an b[nb-1] a[na-1]=true->J (out.push a[na-1]) (na-1) nb
 b1:∀{out na nb},J out na nb->∀(_:0<na)(_:0<nb)(ha:na-1<a.size)(hb:nb-1<b.size),an b[nb-1] a[na-1]=false->J (out.push b[nb-1]) na (nb-1)
 ak:∀{out na nb k},J out na nb->∀(_:0<nb)(hb:nb-1<b.size),k<=na->(∀i,k<=i->i<na->∀(h:0+i<a.size),an b[nb-1] a[0+i]=true)->J (out++(a.extract k na).reverse) k nb
 bk:∀{out na nb k},J out na nb->∀(_:0<na)(ha:na-1<a.size),k<=nb->(∀i,k<=i->i<nb->∀(h:0+i<b.size),an b[0+i] a[na-1]=false)->J (out++(b.extract k nb).reverse) na k
theorem hiG(T:WkT an)(hq:QR prog w A E s κ a₀ an){J:Array kc->Nat->Nat->Prop}{R:Array kc->Prop}{a b:Array kc}{st:uO}{Q:Array kc->uO->Prop}(ha:∀x,x∈a->x∈a₀)(hb:∀x,x∈b->x∈a₀)(a1:0<a.size)(b1:0<b.size)(hκ:kindOf st=κ)(L:HiIv an a b J R)(sa:SrtS an a 0 a.size)(sb:SrtS an b 0 b.size)
  (h:∀r g,R r->Q r (gSt st g)):wpS (model prog w) A E s (mergeHi' a b) Q st:=by
 have ea:∀{i:Nat}(h:i<a.size),a[i]∈a₀:=fun h=>ha _ (Qb h);have eb:∀{i:Nat}(h:i<b.size),b[i]∈a₀:=fun h=>hb _ (Qb h);have est:gSt st (Bv st)=st:=rfl;refine kH (AI (QM ⟨rfl,?_⟩));refine kH (zaw (show a.size-1<a.size by omega) ?_)
 try dsimp only
 by_cases c1:(a.size-1==0)=true
 ·rw[if_pos c1];exact kG (est▸h _ (Bv st) (L.done (L.z a1) (.inl (pE c1))))
 rw[if_neg c1]
 by_cases c2:(b.size==1)=true
 ·rw[if_pos c2]
  exact kG (est▸h _ (Bv st) (L.first (L.z a1) (pE c2)))
 rw[if_neg c2];have c1':a.size-1≠0:=fun z=>c1 (by rw[z];rfl)
 have c2':b.size≠1:=fun z=>c2 (by rw[z];rfl)
 refine kH (jL ?_);refine kH (QZ (uD
  (I:=fun x(c:Option (Array kc)×Nat×Nat×Array kc×Nat) st'=>((c.1=none/\J c.2.2.2.1 c.2.1 c.2.2.1/\0<c.2.1/\1<c.2.2.1)/\c.2.1+c.2.2.1+x+1<=a.size+b.size)/\∃g,st'=gSt st g)
  (Q:=fun c st'=>∃r,c.1=some r/\R r/\∃g,st'=gSt st g) ?_ ?_ ⟨⟨⟨rfl,L.z a1,by show 0<a.size-1;omega,by show 1<b.size;omega⟩,by show a.size-1+b.size+0+1<=_;omega⟩,_,rfl⟩) ?_)
 ·rintro x ⟨r0,na,nb,out,mg⟩ st' _ hx ⟨⟨⟨e0,hp,hna,hnb⟩,hlo⟩,g,rfl⟩;dsimp only at e0 hp hna hnb hlo⊢;have lna:=(L.le hp).1;have lnb:=(L.le hp).2;refine kH (QZ (uD
   (I:=fun y(c:Option (Array kc)×Nat×Nat×Array kc×Nat×Nat) st'=>((c.1=none/\J c.2.2.2.1 c.2.1 c.2.2.1/\0<c.2.1/\1<c.2.2.1)/\c.2.1+c.2.2.1+min y 1<=na+nb)/\∃g,st'=gSt st g)
   (Q:=fun c st'=>((∃r,c.1=some r/\R r)∨((c.1=none/\J c.2.2.2.1 c.2.1 c.2.2.1/\0<c.2.1/\1<c.2.2.1)/\c.2.1+c.2.2.1+1<=na+nb))/\∃g,st'=gSt st g) ?_ ?_ ⟨⟨⟨rfl,hp,hna,hnb⟩,by show na+nb+min 0 1<=na+nb;omega⟩,_,rfl⟩) ?_)
  ·rintro y ⟨r1,ja,jb,out,ac,bc⟩ st' _ hy ⟨⟨⟨e1,hp,hja,hjb⟩,hl1⟩,g,rfl⟩;dsimp only at e1 hp hja hjb hl1⊢;have lja:=(L.le hp).1;have ljb:=(L.le hp).2;refine kH (zaw (show jb-1<b.size by omega) (kH (zaw (show ja-1<a.size by omega) (kH (hq _ _ _ _ (eb (by omega)) (ea (by omega)) hκ ?_)))))
   cases ebw:an b[jb-1] a[ja-1] with
   |true=>
    refine kH (zaw (show ja-1<a.size by omega) ?_)
    try dsimp only
    have hp1:=L.a1 hp hja (by omega) (by omega) (by omega) ebw
    by_cases d:(ja-1==0)=true
    ·rw[if_pos d];exact kG ⟨.inl ⟨_,rfl,L.done hp1 (.inl (pE d))⟩,_,rfl⟩
    rw[if_neg d];have d':ja-1≠0:=fun z=>d (by rw[z];rfl)
    by_cases f:ac+1≥mg
    ·rw[if_pos f];exact kG ⟨.inr ⟨⟨rfl,hp1,(by show 0<ja-1;omega),hjb⟩,(by show ja-1+jb+1<=na+nb;omega)⟩,_,rfl⟩
    ·rw[if_neg f];exact kG ⟨⟨⟨rfl,hp1,(by show 0<ja-1;omega),hjb⟩,(by show ja-1+jb+min (y+1) 1<=na+nb;omega)⟩,_,rfl⟩
   |false=>
    refine kH (zaw (show jb-1<b.size by omega) ?_)
    try dsimp only
    have hp1:=L.b1 hp hja (by omega) (by omega) (by omega) ebw
    by_cases d:(jb-1==1)=true
    ·rw[if_pos d]
     exact kG ⟨.inl ⟨_,rfl,L.first hp1 (pE d)⟩,_,rfl⟩
    rw[if_neg d];have d':jb-1≠1:=fun z=>d (by rw[z];rfl)
    by_cases f:bc+1≥mg
    ·rw[if_pos f];exact kG ⟨.inr ⟨⟨rfl,hp1,hja,(by show 1<jb-1;omega)⟩,(by show ja+(jb-1)+1<=na+nb;omega)⟩,_,rfl⟩
    ·rw[if_neg f];exact kG ⟨⟨⟨rfl,hp1,hja,(by show 1<jb-1;omega)⟩,(by show ja+(jb-1)+min (y+1) 1<=na+nb;omega)⟩,_,rfl⟩
  ·rintro c st' ⟨⟨i1,hl1⟩,g⟩;exact⟨.inr ⟨i1,by omega⟩,g⟩
  ·rintro⟨r1,ja,jb,out,ac,bc⟩ st' ⟨hc,g,rfl⟩;dsimp only at hc⊢;rcases hc with⟨r,rfl,hr⟩|⟨⟨rfl,hp,hja,hjb⟩,hl1⟩
   ·exact kG ⟨r,rfl,hr,_,rfl⟩
   dsimp only;refine kH (AI (QM ⟨rfl,?_⟩));refine kH (QZ (uD
    (I:=fun y(c:Option (Array kc)×Nat×Nat×Array kc×Nat×Nat×Nat) st'=>((c.1=none/\J c.2.2.2.1 c.2.1 c.2.2.1/\0<c.2.1/\1<c.2.2.1)/\c.2.1+c.2.2.1+1<=na+nb)/\∃g,st'=gSt st g)
    (Q:=fun c st'=>((∃r,c.1=some r/\R r)∨((c.1=none/\J c.2.2.2.1 c.2.1 c.2.2.1/\0<c.2.1/\1<c.2.2.1)/\c.2.1+c.2.2.1+1<=na+nb))/\∃g,st'=gSt st g) ?_ (fun c st' z=>⟨.inr z.1,z.2⟩) ⟨⟨⟨rfl,hp,hja,hjb⟩,hl1⟩,_,rfl⟩) ?_)
   ·rintro y ⟨r2,ka,kb,out,mg2,ac2,bc2⟩ st' _ hy ⟨⟨⟨e2,hp,hka,hkb⟩,hl2⟩,g,rfl⟩;dsimp only at e2 hp hka hkb hl2⊢;have lka:=(L.le hp).1;have lkb:=(L.le hp).2
    by_cases mm:mg2>1
    ·rw[if_pos mm];refine kH (uP ?_);refine kH (zaw (show kb-1<b.size by omega) ?_)
     refine kH (galR T hq (eb (by omega)) ha (by omega) (by omega) hκ (zch sa (by omega)) fun k hk t1 t2=>?_)
     try dsimp only
     by_cases k0:ka-k>0
     ·rw[if_pos k0];have hp1:=L.ak hp (by omega) (by omega) hk t2
      by_cases d1:(k==0)=true
      ·rw[if_pos d1];exact kG ⟨.inl ⟨_,rfl,L.done hp1 (.inl (pE d1))⟩,_,rfl⟩
      rw[if_neg d1];have d1':k≠0:=fun z=>d1 (by rw[z];rfl)
      refine kH (zaw (show kb-1<b.size by omega) ?_)
      try dsimp only
      have hp2:=L.b1 hp1 (by omega) (by omega) (by omega) (by omega) (by have:=t1 (k-1) (by omega) (by omega);simpa using this)
      by_cases d3:(kb-1==1)=true
      ·rw[if_pos d3]
       exact kG ⟨.inl ⟨_,rfl,L.first hp2 (pE d3)⟩,_,rfl⟩
      rw[if_neg d3];have d3':kb-1≠1:=fun z=>d3 (by rw[z];rfl)
      refine kH (zaw (show k-1<a.size by omega) ?_)
      refine kH (galL T hq (ea (by omega)) hb (by omega) (by omega) hκ (zch sb (by omega)) fun k2 hk2 u1 u2=>?_)
      try dsimp only
      by_cases k20:kb-1-k2>0
      ·rw[if_pos k20];have hp3:=L.bk hp2 (by omega) (by omega) hk2 u2
       by_cases d4:(k2==1)=true
       ·rw[if_pos d4]
        exact kG ⟨.inl ⟨_,rfl,L.first hp3 (pE d4)⟩,_,rfl⟩
       rw[if_neg d4];have d4':k2≠1:=fun z=>d4 (by rw[z];rfl)
       by_cases d7:(k2==0)=true
       ·rw[if_pos d7];exact kG ⟨.inl ⟨_,rfl,L.done hp3 (.inr (pE d7))⟩,_,rfl⟩
       rw[if_neg d7];have d7':k2≠0:=fun z=>d7 (by rw[z];rfl)
       refine kH (zaw (show k-1<a.size by omega) ?_)
       try dsimp only
       have hp4:=L.a1 hp3 (by omega) (by omega) (by omega) (by omega) (by have:=u1 (k2-1) (by omega) (by omega);simpa using this)
       by_cases d5:(k-1==0)=true
       ·rw[if_pos d5];exact kG ⟨.inl ⟨_,rfl,L.done hp4 (.inl (pE d5))⟩,_,rfl⟩
       rw[if_neg d5];have d5':k-1≠0:=fun z=>d5 (by rw[z];rfl)
       by_cases d6:(decide (ka-k<7)&&decide (kb-1-k2<7))=true
       ·rw[if_pos d6];exact kG ⟨.inr ⟨⟨rfl,hp4,(by show 0<k-1;omega),(by show 1<k2;omega)⟩,(by show k-1+(k2)+1<=na+nb;omega)⟩,_,rfl⟩
       ·rw[if_neg d6];exact kG ⟨⟨⟨rfl,hp4,(by show 0<k-1;omega),(by show 1<k2;omega)⟩,(by show k-1+(k2)+1<=na+nb;omega)⟩,_,rfl⟩
      ·rw[if_neg k20];refine kH (zaw (show k-1<a.size by omega) ?_)
       try dsimp only
       have hp4:=L.a1 hp2 (by omega) (by omega) (by omega) (by omega) (by have:=u1 (kb-1-1) (by omega) (by omega);simpa using this)
       by_cases d5:(k-1==0)=true
       ·rw[if_pos d5];exact kG ⟨.inl ⟨_,rfl,L.done hp4 (.inl (pE d5))⟩,_,rfl⟩
       rw[if_neg d5];have d5':k-1≠0:=fun z=>d5 (by rw[z];rfl)
       by_cases d6:(decide (ka-k<7)&&decide (kb-1-k2<7))=true
       ·rw[if_pos d6];exact kG ⟨.inr ⟨⟨rfl,hp4,(by show 0<k-1;omega),(by show 1<kb-1;omega)⟩,(by show k-1+(kb-1)+1<=na+nb;omega)⟩,_,rfl⟩
       ·rw[if_neg d6];exact kG ⟨⟨⟨rfl,hp4,(by show 0<k-1;omega),(by show 1<kb-1;omega)⟩,(by show k-1+(kb-1)+1<=na+nb;omega)⟩,_,rfl⟩
     ·rw[if_neg k0];refine kH (zaw (show kb-1<b.size by omega) ?_)
      try dsimp only
      have hp2:=L.b1 hp (by omega) (by omega) (by omega) (by omega) (by have:=t1 (ka-1) (by omega) (by omega);simpa using this)
      by_cases d3:(kb-1==1)=true
      ·rw[if_pos d3]
       exact kG ⟨.inl ⟨_,rfl,L.first hp2 (pE d3)⟩,_,rfl⟩
      rw[if_neg d3];have d3':kb-1≠1:=fun z=>d3 (by rw[z];rfl)
      refine kH (zaw (show ka-1<a.size by omega) ?_)
      refine kH (galL T hq (ea (by omega)) hb (by omega) (by omega) hκ (zch sb (by omega)) fun k2 hk2 u1 u2=>?_)
      try dsimp only
      by_cases k20:kb-1-k2>0
      ·rw[if_pos k20];have hp3:=L.bk hp2 (by omega) (by omega) hk2 u2
       by_cases d4:(k2==1)=true
       ·rw[if_pos d4]
        exact kG ⟨.inl ⟨_,rfl,L.first hp3 (pE d4)⟩,_,rfl⟩
       rw[if_neg d4];have d4':k2≠1:=fun z=>d4 (by rw[z];rfl)
       by_cases d7:(k2==0)=true
       ·rw[if_pos d7];exact kG ⟨.inl ⟨_,rfl,L.done hp3 (.inr (pE d7))⟩,_,rfl⟩
       rw[if_neg d7];have d7':k2≠0:=fun z=>d7 (by rw[z];rfl)
       refine kH (zaw (show ka-1<a.size by omega) ?_)
       try dsimp only
       have hp4:=L.a1 hp3 (by omega) (by omega) (by omega) (by omega) (by have:=u1 (k2-1) (by omega) (by omega);simpa using this)
       by_cases d5:(ka-1==0)=true
       ·rw[if_pos d5];exact kG ⟨.inl ⟨_,rfl,L.done hp4 (.inl (pE d5))⟩,_,rfl⟩
       rw[if_neg d5];have d5':ka-1≠0:=fun z=>d5 (by rw[z];rfl)
       by_cases d6:(decide (ka-k<7)&&decide (kb-1-k2<7))=true
       ·rw[if_pos d6];exact kG ⟨.inr ⟨⟨rfl,hp4,(by show 0<ka-1;omega),(by show 1<k2;omega)⟩,(by show ka-1+(k2)+1<=na+nb;omega)⟩,_,rfl⟩
       ·rw[if_neg d6];exact kG ⟨⟨⟨rfl,hp4,(by show 0<ka-1;omega),(by show 1<k2;omega)⟩,(by show ka-1+(k2)+1<=na+nb;omega)⟩,_,rfl⟩
      ·rw[if_neg k20];refine kH (zaw (show ka-1<a.size by omega) ?_)
       try dsimp only
       have hp4:=L.a1 hp2 (by omega) (by omega) (by omega) (by omega) (by have:=u1 (kb-1-1) (by omega) (by omega);simpa using this)
       by_cases d5:(ka-1==0)=true
       ·rw[if_pos d5];exact kG ⟨.inl ⟨_,rfl,L.done hp4 (.inl (pE d5))⟩,_,rfl⟩
       rw[if_neg d5];have d5':ka-1≠0:=fun z=>d5 (by rw[z];rfl)
       by_cases d6:(decide (ka-k<7)&&decide (kb-1-k2<7))=true
       ·rw[if_pos d6];exact kG ⟨.inr ⟨⟨rfl,hp4,(by show 0<ka-1;omega),(by show 1<kb-1;omega)⟩,(by show ka-1+(kb-1)+1<=na+nb;omega)⟩,_,rfl⟩
       ·rw[if_neg d6];exact kG ⟨⟨⟨rfl,hp4,(by show 0<ka-1;omega),(by show 1<kb-1;omega)⟩,(by show ka-1+(kb-1)+1<=na+nb;omega)⟩,_,rfl⟩
    ·rw[if_neg mm];refine kH (uP ?_);refine kH (zaw (show kb-1<b.size by omega) ?_)
     refine kH (galR T hq (eb (by omega)) ha (by omega) (by omega) hκ (zch sa (by omega)) fun k hk t1 t2=>?_)
     try dsimp only
     by_cases k0:ka-k>0
     ·rw[if_pos k0];have hp1:=L.ak hp (by omega) (by omega) hk t2
      by_cases d1:(k==0)=true
      ·rw[if_pos d1];exact kG ⟨.inl ⟨_,rfl,L.done hp1 (.inl (pE d1))⟩,_,rfl⟩
      rw[if_neg d1];have d1':k≠0:=fun z=>d1 (by rw[z];rfl)
      refine kH (zaw (show kb-1<b.size by omega) ?_)
      try dsimp only
      have hp2:=L.b1 hp1 (by omega) (by omega) (by omega) (by omega) (by have:=t1 (k-1) (by omega) (by omega);simpa using this)
      by_cases d3:(kb-1==1)=true
      ·rw[if_pos d3]
       exact kG ⟨.inl ⟨_,rfl,L.first hp2 (pE d3)⟩,_,rfl⟩
      rw[if_neg d3];have d3':kb-1≠1:=fun z=>d3 (by rw[z];rfl)
      refine kH (zaw (show k-1<a.size by omega) ?_)
      refine kH (galL T hq (ea (by omega)) hb (by omega) (by omega) hκ (zch sb (by omega)) fun k2 hk2 u1 u2=>?_)
      try dsimp only
      by_cases k20:kb-1-k2>0
      ·rw[if_pos k20];have hp3:=L.bk hp2 (by omega) (by omega) hk2 u2
       by_cases d4:(k2==1)=true
       ·rw[if_pos d4]
        exact kG ⟨.inl ⟨_,rfl,L.first hp3 (pE d4)⟩,_,rfl⟩
       rw[if_neg d4];have d4':k2≠1:=fun z=>d4 (by rw[z];rfl)
       by_cases d7:(k2==0)=true
       ·rw[if_pos d7];exact kG ⟨.inl ⟨_,rfl,L.done hp3 (.inr (pE d7))⟩,_,rfl⟩
       rw[if_neg d7];have d7':k2≠0:=fun z=>d7 (by rw[z];rfl)
       refine kH (zaw (show k-1<a.size by omega) ?_)
       try dsimp only
       have hp4:=L.a1 hp3 (by omega) (by omega) (by omega) (by omega) (by have:=u1 (k2-1) (by omega) (by omega);simpa using this)
       by_cases d5:(k-1==0)=true
       ·rw[if_pos d5];exact kG ⟨.inl ⟨_,rfl,L.done hp4 (.inl (pE d5))⟩,_,rfl⟩
       rw[if_neg d5];have d5':k-1≠0:=fun z=>d5 (by rw[z];rfl)
       by_cases d6:(decide (ka-k<7)&&decide (kb-1-k2<7))=true
       ·rw[if_pos d6];exact kG ⟨.inr ⟨⟨rfl,hp4,(by show 0<k-1;omega),(by show 1<k2;omega)⟩,(by show k-1+(k2)+1<=na+nb;omega)⟩,_,rfl⟩
       ·rw[if_neg d6];exact kG ⟨⟨⟨rfl,hp4,(by show 0<k-1;omega),(by show 1<k2;omega)⟩,(by show k-1+(k2)+1<=na+nb;omega)⟩,_,rfl⟩
      ·rw[if_neg k20];refine kH (zaw (show k-1<a.size by omega) ?_)
       try dsimp only
       have hp4:=L.a1 hp2 (by omega) (by omega) (by omega) (by omega) (by have:=u1 (kb-1-1) (by omega) (by omega);simpa using this)
       by_cases d5:(k-1==0)=true
       ·rw[if_pos d5];exact kG ⟨.inl ⟨_,rfl,L.done hp4 (.inl (pE d5))⟩,_,rfl⟩
       rw[if_neg d5];have d5':k-1≠0:=fun z=>d5 (by rw[z];rfl)
       by_cases d6:(decide (ka-k<7)&&decide (kb-1-k2<7))=true
       ·rw[if_pos d6];exact kG ⟨.inr ⟨⟨rfl,hp4,(by show 0<k-1;omega),(by show 1<kb-1;omega)⟩,(by show k-1+(kb-1)+1<=na+nb;omega)⟩,_,rfl⟩
       ·rw[if_neg d6];exact kG ⟨⟨⟨rfl,hp4,(by show 0<k-1;omega),(by show 1<kb-1;omega)⟩,(by show k-1+(kb-1)+1<=na+nb;omega)⟩,_,rfl⟩
     ·rw[if_neg k0];refine kH (zaw (show kb-1<b.size by omega) ?_)
      try dsimp only
      have hp2:=L.b1 hp (by omega) (by omega) (by omega) (by omega) (by have:=t1 (ka-1) (by omega) (by omega);simpa using this)
      by_cases d3:(kb-1==1)=true
      ·rw[if_pos d3]
       exact kG ⟨.inl ⟨_,rfl,L.first hp2 (pE d3)⟩,_,rfl⟩
      rw[if_neg d3];have d3':kb-1≠1:=fun z=>d3 (by rw[z];rfl)
      refine kH (zaw (show ka-1<a.size by omega) ?_)
      refine kH (galL T hq (ea (by omega)) hb (by omega) (by omega) hκ (zch sb (by omega)) fun k2 hk2 u1 u2=>?_)
      try dsimp only
      by_cases k20:kb-1-k2>0
      ·rw[if_pos k20];have hp3:=L.bk hp2 (by omega) (by omega) hk2 u2
       by_cases d4:(k2==1)=true
       ·rw[if_pos d4]
        exact kG ⟨.inl ⟨_,rfl,L.first hp3 (pE d4)⟩,_,rfl⟩
       rw[if_neg d4];have d4':k2≠1:=fun z=>d4 (by rw[z];rfl)
       by_cases d7:(k2==0)=true
       ·rw[if_pos d7];exact kG ⟨.inl ⟨_,rfl,L.done hp3 (.inr (pE d7))⟩,_,rfl⟩
       rw[if_neg d7];have d7':k2≠0:=fun z=>d7 (by rw[z];rfl)
       refine kH (zaw (show ka-1<a.size by omega) ?_)
       try dsimp only
       have hp4:=L.a1 hp3 (by omega) (by omega) (by omega) (by omega) (by have:=u1 (k2-1) (by omega) (by omega);simpa using this)
       by_cases d5:(ka-1==0)=true
       ·rw[if_pos d5];exact kG ⟨.inl ⟨_,rfl,L.done hp4 (.inl (pE d5))⟩,_,rfl⟩
       rw[if_neg d5];have d5':ka-1≠0:=fun z=>d5 (by rw[z];rfl)
       by_cases d6:(decide (ka-k<7)&&decide (kb-1-k2<7))=true
       ·rw[if_pos d6];exact kG ⟨.inr ⟨⟨rfl,hp4,(by show 0<ka-1;omega),(by show 1<k2;omega)⟩,(by show ka-1+(k2)+1<=na+nb;omega)⟩,_,rfl⟩
       ·rw[if_neg d6];exact kG ⟨⟨⟨rfl,hp4,(by show 0<ka-1;omega),(by show 1<k2;omega)⟩,(by show ka-1+(k2)+1<=na+nb;omega)⟩,_,rfl⟩
      ·rw[if_neg k20];refine kH (zaw (show ka-1<a.size by omega) ?_)
       try dsimp only
       have hp4:=L.a1 hp2 (by omega) (by omega) (by omega) (by omega) (by have:=u1 (kb-1-1) (by omega) (by omega);simpa using this)
       by_cases d5:(ka-1==0)=true
       ·rw[if_pos d5];exact kG ⟨.inl ⟨_,rfl,L.done hp4 (.inl (pE d5))⟩,_,rfl⟩
       rw[if_neg d5];have d5':ka-1≠0:=fun z=>d5 (by rw[z];rfl)
       by_cases d6:(decide (ka-k<7)&&decide (kb-1-k2<7))=true
       ·rw[if_pos d6];exact kG ⟨.inr ⟨⟨rfl,hp4,(by show 0<ka-1;omega),(by show 1<kb-1;omega)⟩,(by show ka-1+(kb-1)+1<=na+nb;omega)⟩,_,rfl⟩
       ·rw[if_neg d6];exact kG ⟨⟨⟨rfl,hp4,(by show 0<ka-1;omega),(by show 1<kb-1;omega)⟩,(by show ka-1+(kb-1)+1<=na+nb;omega)⟩,_,rfl⟩
   ·rintro⟨r2,ka,kb,out,mg2,ac2,bc2⟩ st' ⟨hc,g,rfl⟩;dsimp only at hc⊢;rcases hc with⟨r,rfl,hr⟩|⟨⟨rfl,hp,hka,hkb⟩,hl2⟩
    ·exact kG ⟨r,rfl,hr,_,rfl⟩
    dsimp only;refine kH (uP (kG ⟨⟨⟨rfl,hp,hka,hkb⟩,(by show ka+kb+(x+1)+1<=a.size+b.size;omega)⟩,_,rfl⟩))
 ·rintro c st' ⟨⟨⟨e0,hp,hna,hnb⟩,hlo⟩,_⟩
  exfalso
  omega
 ·rintro⟨r0,na,nb,out,mg⟩ st' ⟨r,e,hr,g,rfl⟩;dsimp only at e⊢;subst e;exact kG (h r g hr)
end
section
variable{an:kc->kc->Bool}{a b:Array kc}
theorem zb5{l m:List kc}:UpL an (l++m)↔UpL an l/\UpL an m/\∀x,x∈l->∀y,y∈m->an y x=false:=by
 unfold UpL;rw[Bw]
theorem zeh{l:List kc}(h:UpL an l)(n:Nat):UpL an (l.drop n):=Bd (List.drop_sublist n l) h
theorem zed{l:List kc}(h:UpL an l)(n:Nat):UpL an (l.take n):=Bd (AX n l) h
theorem zjc(T:WkT an){a:Array kc}(h:UpL an a.toList){i:Nat}(hi:i<a.size):∀y,y∈a.toList.drop i->an y a[i]=false:=fun y hy=>by
 have hi':i<a.toList.length:=by simpa using hi
 have e:a.toList[i]=a[i]:=by simp
 have d:=zeh h i;rw[uk hi',e] at d hy;rcases kr.mp hy with z|z
 ·rw[z];exact T.irr _
 ·exact(vT.mp d).1 y z
theorem zjd(T:WkT an){a:Array kc}(h:UpL an a.toList){n:Nat}(h0:0<n)(hn:n-1<a.size):∀y,y∈a.toList.take n->an a[n-1] y=false:=fun y hy=>by
 have hn':n-1<a.toList.length:=by simpa using hn
 have e:a.toList[n-1]=a[n-1]:=by simp
 have d:=zed h n;have en:n=n-1+1:=by omega
 rw[en,jo hn',e] at d hy;rcases kY.mp hy with z|z
 ·exact(zb5.mp d).2.2 y z _ (kf.mpr rfl)
 ·rw[kf.mp z];exact T.irr _
def LoJ(an:kc->kc->Bool)(a b out:Array kc)(ia ib:Nat):Prop:=Prm a b out ia ib/\UpL an out.toList/\(∀x,x∈out.toList->∀y,y∈a.toList.drop ia->an y x=false)/\∀x,x∈out.toList->∀y,y∈b.toList.drop ib->an y x=false
def MgR(an:kc->kc->Bool)(a b r:Array kc):Prop:=r.toList.Perm (a.toList++b.toList)/\UpL an r.toList
theorem zhf(l:List kc)(i k:Nat):l.drop i=(l.drop i).take k++l.drop (i+k):=by rw[←UL,uJ]
theorem loIv(T:WkT an)(ua:UpL an a.toList)(ub:UpL an b.toList)(a1:0<a.size)(b1:0<b.size)(hz:∀y,y∈a.toList->an y b[0]=false)(hl:∀y,y∈b.toList->an a[a.size-1] y=false):LoIv an a b (LoJ an a b) (MgR an a b):=by
 have ak:∀{out:Array kc}{ia ib k:Nat},LoJ an a b out ia ib->∀hb:ib<b.size,ia+k<=a.size->(∀i,i<k->∀(h:ia+i<a.size),an b[ib] a[ia+i]=false)->LoJ an a b (out++a.extract ia (ia+k)) (ia+k) ib:=fun{out ia ib k} J hb hk h=>by
  obtain⟨p,u,ja,jb⟩:=J;have et:(out++a.extract ia (ia+k)).toList=out.toList++(a.toList.drop ia).take k:=by rw[kq,zi9]
  have cut:=zeh ua ia;rw[zhf a.toList ia k,zb5] at cut;have sub:∀y,y∈(a.toList.drop ia).take k->y∈a.toList.drop ia:=fun y hy=>Qn hy;have subd:∀y,y∈a.toList.drop (ia+k)->y∈a.toList.drop ia:=fun y hy=>by rw[zhf a.toList ia k];exact kN _ hy
  have hx:∀x,x∈(a.toList.drop ia).take k->an b[ib] x=false:=fun x hx=>by
   obtain⟨i,hi,e⟩:=uB.mp hx;rw[pA,pU,kT] at hi;rw[←e,ui,uX,uC];exact h i (by omega) (by omega)
  refine⟨prm_a p k hk,?_,?_,?_⟩
  ·rw[et,zb5];exact⟨u,cut.1,fun x hx y hy=>ja x hx y (sub y hy)⟩
  ·rw[et];intro x hx' y hy;rcases kY.mp hx' with z|z
   ·exact ja x z y (subd y hy)
   ·exact cut.2.2 x z y hy
  ·rw[et];intro x hx' y hy;rcases kY.mp hx' with z|z
   ·exact jb x z y hy
   ·exact T.cut _ _ _ (zjc T ub hb y hy) (hx x z)
 have bk:∀{out:Array kc}{ia ib k:Nat},LoJ an a b out ia ib->∀ha:ia<a.size,ib+k<=b.size->(∀i,i<k->∀(h:ib+i<b.size),an b[ib+i] a[ia]=true)->LoJ an a b (out++b.extract ib (ib+k)) ia (ib+k):=fun{out ia ib k} J ha hk h=>by
  obtain⟨p,u,ja,jb⟩:=J;have et:(out++b.extract ib (ib+k)).toList=out.toList++(b.toList.drop ib).take k:=by rw[kq,zi9]
  have cut:=zeh ub ib;rw[zhf b.toList ib k,zb5] at cut;have sub:∀y,y∈(b.toList.drop ib).take k->y∈b.toList.drop ib:=fun y hy=>Qn hy;have subd:∀y,y∈b.toList.drop (ib+k)->y∈b.toList.drop ib:=fun y hy=>by rw[zhf b.toList ib k];exact kN _ hy
  have hx:∀x,x∈(b.toList.drop ib).take k->an x a[ia]=true:=fun x hx=>by
   obtain⟨i,hi,e⟩:=uB.mp hx;rw[pA,pU,kT] at hi;rw[←e,ui,uX,uC];exact h i (by omega) (by omega)
  refine⟨prm_b p k hk,?_,?_,?_⟩
  ·rw[et,zb5];exact⟨u,cut.1,fun x hx y hy=>jb x hx y (sub y hy)⟩
  ·rw[et];intro x hx' y hy;rcases kY.mp hx' with z|z
   ·exact ja x z y hy
   ·exact T.cut _ _ _ (zjc T ua ha y hy) (T.asymm (hx x z))
  ·rw[et];intro x hx' y hy;rcases kY.mp hx' with z|z
   ·exact jb x z y (subd y hy)
   ·exact cut.2.2 x z y hy
 refine⟨fun h=>?_,fun{out ia ib} J h=>?_,fun{out ia ib} J h=>?_,fun{out ia ib} J ha hb e=>?_,fun{out ia ib} J ha hb e=>?_,ak,bk⟩
 ·refine⟨prm_0 h,Qm _ _,fun x hx y hy=>?_,fun x hx y hy=>?_⟩
  ·rw[show x=b[0] by simpa using hx]
   exact hz y (by simpa using hy)
  ·rw[show x=b[0] by simpa using hx]
   exact zjc T ub h y (Uq (i:=1) (by simpa using hy))
 ·obtain⟨p,u,ja,jb⟩:=J;refine⟨prm_done p,?_⟩;rw[kq,kq,zeu,zeu];rcases h with h|h
  ·have e:b.toList.drop ib=[]:=jp (by rw[kT];omega)
   rw[e,uv,zb5];exact⟨u,zeh ua _,ja⟩
  ·have e:a.toList.drop ia=[]:=jp (by rw[kT];omega)
   rw[e,uv,zb5];exact⟨u,zeh ub _,jb⟩
 ·obtain⟨p,u,ja,jb⟩:=J;refine⟨prm_last p,?_⟩;rw[kq,kq,zeu,zeu,zb5,zb5];refine⟨⟨u,zeh ub _,jb⟩,zeh ua _,fun x hx y hy=>?_⟩;have hi:ia<a.toList.length:=by rw[kT];omega
  have ey:y=a[a.size-1]:=by
   rw[uk hi,jp (by rw[kT];omega),kf] at hy
   rw[hy,uC]
   congr 1
   omega
  rcases kY.mp hx with z|z
  ·exact ja x z y hy
  ·rw[ey];exact hl x (Uq z)
 ·rw[zh9 _ _ _ hb];refine bk J ha (by omega) fun i hi h=>?_
  have e0:i=0:=by omega
  subst e0;exact e
 ·rw[zh9 _ _ _ ha];refine ak J hb (by omega) fun i hi h=>?_
  have e0:i=0:=by omega
  subst e0;exact e
def HiJ(an:kc->kc->Bool)(a b out:Array kc)(na nb:Nat):Prop:=PrmH a b out na nb/\UpL an out.toList.reverse/\(∀x,x∈out.toList->∀y,y∈a.toList.take na->an x y=false)/\∀x,x∈out.toList->∀y,y∈b.toList.take nb->an x y=false
theorem zg5(l:List kc){k n:Nat}(h:k<=n):l.take n=l.take k++(l.take n).drop k:=by
 have:=uJ k (l.take n);rw[AH,gS h] at this;exact this.symm
theorem zs2(a:Array kc)(k n:Nat):(a.extract k n).reverse.toList=((a.toList.take n).drop k).reverse:=by
 rw[QN,zbu,jn]
theorem hiIv(T:WkT an)(ua:UpL an a.toList)(ub:UpL an b.toList)(a1:0<a.size)(b1:0<b.size)(hz:∀y,y∈a.toList->an y b[0]=false)(hl:∀y,y∈b.toList->an a[a.size-1] y=false):HiIv an a b (HiJ an a b) (MgR an a b):=by
 have ak:∀{out:Array kc}{na nb k:Nat},HiJ an a b out na nb->∀(_:0<nb)(hb:nb-1<b.size),k<=na->(∀i,k<=i->i<na->∀(h:0+i<a.size),an b[nb-1] a[0+i]=true)->HiJ an a b (out++(a.extract k na).reverse) k nb:=fun{out na nb k} J h0 hb hk h=>by
  obtain⟨p,u,ja,jb⟩:=J;have lna:=p.2.1;have et:(out++(a.extract k na).reverse).toList=out.toList++((a.toList.take na).drop k).reverse:=by rw[kq,zs2]
  have cut:=zed ua na;rw[zg5 a.toList hk,zb5] at cut;have sub:∀y,y∈(a.toList.take na).drop k->y∈a.toList.take na:=fun y hy=>Uq hy;have subd:∀y,y∈a.toList.take k->y∈a.toList.take na:=fun y hy=>by rw[zg5 a.toList hk];exact pR _ hy
  have hx:∀x,x∈(a.toList.take na).drop k->an b[nb-1] x=true:=fun x hx=>by
   obtain⟨i,hi,e⟩:=uB.mp hx;rw[pU,pA,kT] at hi;rw[←e,uX,ui,uC];have:=h (k+i) (by omega) (by omega) (by omega)
   simpa using this
  refine⟨prmh_a p k hk,?_,?_,?_⟩
  ·rw[et,CI,Bx,zb5];exact⟨cut.2.1,u,fun x hx y hy=>ja y (QX.mp hy) x (sub x hx)⟩
  ·rw[et];intro x hx' y hy;rcases kY.mp hx' with z|z
   ·exact ja x z y (subd y hy)
   ·exact cut.2.2 y hy x (QX.mp z)
  ·rw[et];intro x hx' y hy;rcases kY.mp hx' with z|z
   ·exact jb x z y hy
   ·exact T.cut _ _ _ (T.asymm (hx x (QX.mp z))) (zjd T ub h0 hb y hy)
 have bk:∀{out:Array kc}{na nb k:Nat},HiJ an a b out na nb->∀(_:0<na)(ha:na-1<a.size),k<=nb->(∀i,k<=i->i<nb->∀(h:0+i<b.size),an b[0+i] a[na-1]=false)->HiJ an a b (out++(b.extract k nb).reverse) na k:=fun{out na nb k} J h0 ha hk h=>by
  obtain⟨p,u,ja,jb⟩:=J;have lnb:=p.2.2;have et:(out++(b.extract k nb).reverse).toList=out.toList++((b.toList.take nb).drop k).reverse:=by rw[kq,zs2]
  have cut:=zed ub nb;rw[zg5 b.toList hk,zb5] at cut;have sub:∀y,y∈(b.toList.take nb).drop k->y∈b.toList.take nb:=fun y hy=>Uq hy;have subd:∀y,y∈b.toList.take k->y∈b.toList.take nb:=fun y hy=>by rw[zg5 b.toList hk];exact pR _ hy
  have hx:∀x,x∈(b.toList.take nb).drop k->an x a[na-1]=false:=fun x hx=>by
   obtain⟨i,hi,e⟩:=uB.mp hx;rw[pU,pA,kT] at hi;rw[←e,uX,ui,uC];have:=h (k+i) (by omega) (by omega) (by omega)
   simpa using this
  refine⟨prmh_b p k hk,?_,?_,?_⟩
  ·rw[et,CI,Bx,zb5];exact⟨cut.2.1,u,fun x hx y hy=>jb y (QX.mp hy) x (sub x hx)⟩
  ·rw[et];intro x hx' y hy;rcases kY.mp hx' with z|z
   ·exact ja x z y hy
   ·exact T.cut _ _ _ (hx x (QX.mp z)) (zjd T ua h0 ha y hy)
  ·rw[et];intro x hx' y hy;rcases kY.mp hx' with z|z
   ·exact jb x z y (subd y hy)
   ·exact cut.2.2 y hy x (QX.mp z)
 refine⟨fun h=>?_,fun{out na nb} J=>J.1.2,fun{out na nb} J h=>?_,fun{out na nb} J h=>?_,fun{out na nb} J h0 h1 ha hb e=>?_,fun{out na nb} J h0 h1 ha hb e=>?_,ak,bk⟩
 ·refine⟨prmh_0 h,Qm _ _,fun x hx y hy=>?_,fun x hx y hy=>?_⟩
  ·rw[show x=a[a.size-1] by simpa using hx]
   exact zjd T ua h (by omega) y (by rw[pH (by rw[kT];exact kM _)];exact Qn hy)
  ·rw[show x=a[a.size-1] by simpa using hx]
   exact hl y (Qn hy)
 ·obtain⟨p,u,ja,jb⟩:=J;refine⟨zpj p,?_⟩;rw[kq,kq,zke,zke,QN];have ju:∀x,x∈a.toList.take na->∀y,y∈out.toList.reverse->an y x=false:=fun x hx y hy=>ja y (QX.mp hy) x hx;have jv:∀x,x∈b.toList.take nb->∀y,y∈out.toList.reverse->an y x=false:=fun x hx y hy=>jb y (QX.mp hy) x hx;rcases h with h|h
  ·subst h;rw[uG,vX,zb5];exact⟨zed ub _,u,jv⟩
  ·subst h;rw[uG,uv,zb5];exact⟨zed ua _,u,ju⟩
 ·obtain⟨p,u,ja,jb⟩:=J;refine⟨znq p,?_⟩;rw[kq,kq,zke,zke,QN,zb5,zb5];subst h;refine⟨⟨zed ub _,zed ua _,fun x hx y hy=>?_⟩,u,fun x hx y hy=>?_⟩
  ·have hb':0<b.toList.length:=by rw[kT];exact b1
   have ex:x=b[0]:=by
    rw[show(1:Nat)=0+1 from rfl,jo hb',uG,vX,kf] at hx;rw[hx,uC]
   rw[ex];exact hz y (Qn hy)
  ·rcases kY.mp hx with z|z
   ·exact jb y (QX.mp hy) x z
   ·exact ja y (QX.mp hy) x z
 ·rw[zj1 _ _ _ h0 ha];refine ak J h1 hb (by omega) fun i hi hi' h=>?_
  have e0:i=na-1:=by omega
  subst e0
  simpa using e
 ·rw[zj1 _ _ _ h1 hb];refine bk J h0 ha (by omega) fun i hi hi' h=>?_
  have e0:i=nb-1:=by omega
  subst e0
  simpa using e
end
section
variable{prog:ko}{w:pN}{A:pO}{E:kB->kC->Prop}{s:kC}{a₀:Array kc}{κ:QJ}{an:kc->kc->Bool}
abbrev gK(xs:Array kc)(lo k:Nat):kc:=xs.getD (lo+k) (.none,.none)
def UpF(an:kc->kc->Bool)(f:Nat->kc)(m:Nat):Prop:=∀i j,i<j->j<m->an (f j) (f i)=false
def DnF(an:kc->kc->Bool)(f:Nat->kc)(m:Nat):Prop:=∀i j,i<j->j<m->an (f i) (f j)=false
def EqF(an:kc->kc->Bool)(f:Nat->kc)(m q:Nat):Prop:=∀i j,m<=i+q+1->i<m->m<=j+q+1->j<m->an (f i) (f j)=false
def FrL(xs ys:Array kc)(lo:Nat):Prop:=∀k,k<lo->xs[k]?=ys[k]?
theorem UpF.step(T:WkT an){f:Nat->kc}{m:Nat}(u:UpF an f m)(h:1<=m->an (f m) (f (m-1))=false):UpF an f (m+1):=fun i j hij hj=>by
 by_cases e:j=m
 ·subst e;have h':=h (by omega)
  by_cases e2:i=j-1
  ·rw[e2];exact h'
  ·exact T.cut _ _ _ h' (u i (j-1) (by omega) (by omega))
 ·exact u i j hij (by omega)
theorem DnF.step(T:WkT an){f:Nat->kc}{m:Nat}(u:DnF an f m)(h:1<=m->an (f (m-1)) (f m)=false):DnF an f (m+1):=fun i j hij hj=>by
 by_cases e:j=m
 ·subst e;have h':=h (by omega)
  by_cases e2:i=j-1
  ·rw[e2];exact h'
  ·exact T.cut _ _ _ (u i (j-1) (by omega) (by omega)) h'
 ·exact u i j hij (by omega)
theorem zfe{xs:Array kc}{lo a m:Nat}(hm:lo+m<=xs.size)(k:Nat):gK (mirror xs (lo+a) (lo+m) ((lo+m-(lo+a))/2)) lo k=if a<=k/\k<m then gK xs lo (a+m-1-k) else gK xs lo k:=by
 unfold gK;rw[ke,vv hm]
 by_cases c:a<=k/\k<m
 ·rw[if_pos c,if_pos (by omega),ke]
  congr 2
  omega
 ·rw[if_neg c,if_neg (by omega),ke]
theorem zep{xs ys:Array kc}{lo a m:Nat}(hm:lo+m<=xs.size)(h:FrL xs ys lo):FrL (mirror xs (lo+a) (lo+m) ((lo+m-(lo+a))/2)) ys lo:=fun k hk=>by
 rw[vv hm,if_neg (by omega)]
 exact h k hk
theorem zrm(T:WkT an){xs:Array kc}{lo m q:Nat}(hm:lo+m<=xs.size)(d:DnF an (gK xs lo) m)(e:EqF an (gK xs lo) m q):DnF an (gK (mirror xs (lo+(m-(q+1))) (lo+m) ((lo+m-(lo+(m-(q+1))))/2)) lo) m:=fun i j hij hj=>by
 rw[zfe hm,zfe hm]
 by_cases c1:m-(q+1)<=i/\i<m
 ·rw[if_pos c1,if_pos (by omega)]
  exact e _ _ (by omega) (by omega) (by omega) (by omega)
 ·rw[if_neg c1]
  by_cases c2:m-(q+1)<=j/\j<m
  ·rw[if_pos c2];exact d _ _ (by omega) (by omega)
  ·rw[if_neg c2];exact d _ _ hij hj
theorem zn5{xs:Array kc}{lo m:Nat}(hm:lo+m<=xs.size)(d:DnF an (gK xs lo) m):UpF an (gK (mirror xs (lo+0) (lo+m) ((lo+m-(lo+0))/2)) lo) m:=fun i j hij hj=>by
 rw[zfe hm,zfe hm,if_pos (by omega),if_pos (by omega)]
 exact d _ _ (by omega) (by omega)
theorem zrg(T:WkT an){xs:Array kc}{lo m q:Nat}(hm:lo+m<xs.size)(h1:q+1<=m)(d:DnF an (gK xs lo) m)(e:EqF an (gK xs lo) m q)(c:an (gK xs lo m) (gK xs lo (m-1))=true):DnF an (gK (mirror xs (lo+(m-(q+1))) (lo+m) ((lo+m-(lo+(m-(q+1))))/2)) lo) (m+1):=by
 refine(zrm T (by omega) d e).step T fun h1=>?_
 rw[zfe (by omega),zfe (by omega),if_pos (by omega),if_neg (by omega)]
 refine T.asymm ?_
 cases y:an (gK xs lo m) (gK xs lo (m-(q+1)+m-1-(m-1))) with
 |true=>rfl
 |false=>
  have:=T.cut _ _ _ y (e (m-(q+1)+m-1-(m-1)) (m-1) (by omega) (by omega) (by omega) (by omega))
  rw[c] at this
  cases this
theorem zio(T:WkT an){f:Nat->kc}(m:Nat):EqF an f (m+1) 0:=fun i j a b a' b'=>by
 have e1:i=m:=by omega
 have e2:j=m:=by omega
 rw[e1,e2];exact T.irr _
theorem zp4(T:WkT an){f:Nat->kc}{m q:Nat}(h1:1<=m)(e:EqF an f m q)(c:an (f m) (f (m-1))=false)(y:an (f (m-1)) (f m)=false):EqF an f (m+1) (q+1):=fun i j i1 i2 j1 j2=>by
 by_cases ei:i=m
 ·subst ei
  by_cases ej:j=i
  ·rw[ej];exact T.irr _
  ·exact T.cut _ _ _ c (e (i-1) j (by omega) (by omega) (by omega) (by omega))
 ·by_cases ej:j=m
  ·subst ej;exact T.cut _ _ _ (e i (j-1) (by omega) (by omega) (by omega) (by omega)) y
  ·exact e i j (by omega) (by omega) (by omega) (by omega)
theorem all_eq(T:WkT an){f:Nat->kc}{m:Nat}(u:UpF an f m)(c:an (f 0) (f (m-1))=false):∀i j,i<m->j<m->an (f i) (f j)=false:=fun i j hi hj=>by
 have le:∀a b,a<=b->b<m->an (f b) (f a)=false:=fun a b hab hb=>by
  rcases vS hab with z|z
  ·exact u a b z hb
  ·rw[z];exact T.irr _
 exact T.cut _ _ _ (T.cut _ _ _ (le 0 i (by omega) hi) c) (le j (m-1) (by omega) (by omega))
theorem ltG(hq:QR prog w A E s κ a₀ an){lo i j i' j':Nat}{st:uO}{Q:Option Bool->uO->Prop}(hp:(arrOf st).Perm a₀)(ei:i'=lo+i)(ej:j'=lo+j)(hi:lo+i<a₀.size)(hj:lo+j<a₀.size)(hκ:kindOf st=κ)(h:Q (some (an (gK (arrOf st) lo i) (gK (arrOf st) lo j))) st):wpS (model prog w) A E s (ltAt' i' j') Q st:=by
 have sz:(arrOf st).size=a₀.size:=hp.size_eq;subst ei ej;rw[ltAt'_eq];refine kH (jL ?_);refine kH (zaw (show lo+i<(arrOf st).size by omega) (kH (zaw (show lo+j<(arrOf st).size by omega) ?_)))
 refine hq _ _ _ _ (hp.mem_iff.mp (Qb _)) (hp.mem_iff.mp (Qb _)) hκ ?_;have e:∀{k:Nat}(h:lo+k<(arrOf st).size),gK (arrOf st) lo k=(arrOf st)[lo+k]:=fun{k} h=>by
  unfold gK;rw[ke,pK h];rfl
 rw[e (by omega),e (by omega)] at h
 exact h
theorem countG(T:WkT an)(hq:QR prog w A E s κ a₀ an){lo nrem:Nat}{st:uO}{Q:Option Nat->uO->Prop}(hp:(arrOf st).Perm a₀)(h1:1<=nrem)(hz:lo+nrem<=a₀.size)(hκ:kindOf st=κ)
  (h:∀m xs,1<=m->m<=nrem->xs.Perm a₀->FrL xs (arrOf st) lo->UpF an (gK xs lo) m->Q (some m) (uZ st xs)):wpS (model prog w) A E s (countRun' lo nrem) Q st:=by
 have sz:(arrOf st).size=a₀.size:=hp.size_eq;have f0:FrL (arrOf st) (arrOf st) lo:=fun _ _=>rfl;refine kH (QZ (uD (I:=fun x(c:Option (Option Nat)×Nat) st'=>st=st'/\c.1=none/\1<=c.2/\c.2=x/\UpF an (gK (arrOf st) lo) c.2) (Q:=fun c st'=>st=st'/\c.1=none/\1<=c.2/\c.2<=nrem/\UpF an (gK (arrOf st) lo) c.2/\(c.2<nrem->an (gK (arrOf st) lo c.2) (gK (arrOf st) lo (c.2-1))=true)) ?_ ?_ ⟨rfl,rfl,kM _,rfl,fun i j _ hj=>(by have:j<1:=hj;omega)⟩) ?_)
 ·rintro x ⟨r,n⟩ st' hx1 hx ⟨rfl,e,hn1,hn2,u⟩;dsimp only at e hn1 hn2 u⊢;refine kH (ltG hq hp (i:=n) (j:=n-1) rfl (by omega) (by omega) (by omega) hκ ?_)
  cases eb:an (gK (arrOf st) lo n) (gK (arrOf st) lo (n-1)) with
  |true=>exact kG ⟨rfl,rfl,hn1,(by show n<=nrem;omega),u,fun _=>eb⟩
  |false=>exact kG ⟨rfl,rfl,(by show 1<=n+1;omega),(by show n+1=x+1;omega),u.step T fun _=>eb⟩
 ·rintro⟨r,n⟩ st' ⟨e,e1,hn1,hn2,u⟩;dsimp only at e e1 hn1 hn2 u⊢;exact⟨e,e1,hn1,by show n<=nrem;omega,u,fun z=>by have:n<nrem:=z;omega⟩
 rintro⟨r,n⟩ st' ⟨rfl,e,hn1,hn2,u,us⟩;dsimp only at e hn1 hn2 u us⊢;subst e;dsimp only
 by_cases c1:(n==nrem)=true
 ·rw[if_pos c1];exact kG (h n (arrOf st) hn1 hn2 hp f0 u)
 rw[if_neg c1];have c1':n≠nrem:=fun z=>c1 (by rw[z];exact beq_self_eq_true _)
 have us':=us (by omega)
 by_cases c2:n>1
 ·rw[if_pos c2];refine kH (ltG hq hp (i:=0) (j:=n-1) rfl (by omega) (by omega) (by omega) hκ ?_)
  cases er:an (gK (arrOf st) lo 0) (gK (arrOf st) lo (n-1)) with
  |true=>exact kG (h n (arrOf st) hn1 hn2 hp f0 u)
  |false=>
   have al:=all_eq T u er;have d1:DnF an (gK (mirror (arrOf st) (lo+0) (lo+n) ((lo+n-(lo+0))/2)) lo) (n+1):=by
    refine DnF.step T (fun i j hij hj=>?_) fun _=>?_
    ·rw[zfe (by omega),zfe (by omega),if_pos (by omega),if_pos (by omega)]
     exact al _ _ (by omega) (by omega)
    ·rw[zfe (by omega),zfe (by omega),if_pos (by omega),if_neg (by omega)]
     refine T.asymm ?_
     cases y:an (gK (arrOf st) lo n) (gK (arrOf st) lo (0+n-1-(n-1))) with
     |true=>rfl
     |false=>
      have:=T.cut _ _ _ y (al (0+n-1-(n-1)) (n-1) (by omega) (by omega))
      rw[us'] at this
      cases this
   refine kH (uP ?_);refine kH (AI (QM ⟨rfl,?_⟩));refine kH (QZ (uD (I:=fun x(c:Option (Option Nat)×Nat×Nat) st'=>(c.1=none/\1<=c.2.1/\c.2.1=x/\c.2.2+1<=c.2.1)/\∃xs,xs.Perm a₀/\FrL xs (arrOf st) lo/\DnF an (gK xs lo) c.2.1/\EqF an (gK xs lo) c.2.1 c.2.2/\st'=uZ st xs) (Q:=fun c st'=>(c.1=none/\1<=c.2.1/\c.2.1<=nrem/\c.2.2+1<=c.2.1)/\∃xs,xs.Perm a₀/\FrL xs (arrOf st) lo/\DnF an (gK xs lo) c.2.1/\EqF an (gK xs lo) c.2.1 c.2.2/\st'=uZ st xs) ?_ ?_ ⟨⟨rfl,(by show 1<=n+1;omega),rfl,(by show 0+1<=n+1;omega)⟩,_,(Up _ _ _ _).trans hp,zep (a:=0) (by omega) f0,d1,zio T n,rfl⟩) ?_)
   ·rintro x ⟨r,n2,q2⟩ st' hx1 hx ⟨⟨e,hn1,hn2,hq2⟩,xs,px,fx,dx,ex,rfl⟩;dsimp only at e hn1 hn2 hq2 dx ex⊢;have sx:xs.size=a₀.size:=px.size_eq;refine kH (ltG hq px (i:=n2) (j:=n2-1) rfl (by omega) (by omega) (by omega) hκ ?_)
    cases eb:an (gK (arrOf (uZ st xs)) lo n2) (gK (arrOf (uZ st xs)) lo (n2-1)) with
    |true=>
     try dsimp only
     rw[if_pos rfl]
     by_cases qq:q2>0
     ·rw[if_pos qq];refine kH (uP (kG ⟨⟨rfl,(by show 1<=n2+1;omega),(by show n2+1=x+1;omega),(by show 0+1<=n2+1;omega)⟩,mirror xs (lo+(n2-(q2+1))) (lo+n2) ((lo+n2-(lo+(n2-(q2+1))))/2),(Up _ _ _ _).trans px,zep (by omega) fx,zrg T (by omega) hq2 dx ex eb,zio T n2,?_⟩))
      rw[show lo+n2-(q2+1)=lo+(n2-(q2+1)) by omega];rfl
     ·rw[if_neg qq];exact kG ⟨⟨rfl,(by show 1<=n2+1;omega),(by show n2+1=x+1;omega),(by show 0+1<=n2+1;omega)⟩,_,px,fx,dx.step T fun _=>T.asymm eb,zio T n2,rfl⟩
    |false=>
     refine kH (ltG hq px (i:=n2-1) (j:=n2) (by omega) rfl (by omega) (by omega) hκ ?_)
     cases ec:an (gK (arrOf (uZ st xs)) lo (n2-1)) (gK (arrOf (uZ st xs)) lo n2) with
     |true=>exact kG ⟨⟨rfl,hn1,(by show n2<=nrem;omega),hq2⟩,_,px,fx,dx,ex,rfl⟩
     |false=>exact kG ⟨⟨rfl,(by show 1<=n2+1;omega),(by show n2+1=x+1;omega),(by show q2+1+1<=n2+1;omega)⟩,_,px,fx,dx.step T fun _=>ec,zp4 T hn1 ex eb ec,rfl⟩
   ·rintro⟨r,n2,q2⟩ st' ⟨⟨e,hn1,hn2,hq2⟩,z⟩;dsimp only at e hn1 hn2 hq2 z⊢;exact⟨⟨e,hn1,by show n2<=nrem;omega,hq2⟩,z⟩
   ·rintro⟨r,n2,q2⟩ st' ⟨⟨e,hn1,hn2,hq2⟩,xs2,px2,fx2,dx2,ex2,rfl⟩;dsimp only at e hn1 hn2 hq2 dx2 ex2⊢;subst e;dsimp only;have sx:xs2.size=a₀.size:=px2.size_eq
    by_cases qq:q2>0
    ·rw[if_pos qq];have dr:=zrm T (by omega) dx2 ex2
     have er:lo+n2-(q2+1)=lo+(n2-(q2+1)):=by omega
     refine kH (uP ?_);refine kH (uP ?_);rw[er];have pr:(mirror xs2 (lo+(n2-(q2+1))) (lo+n2) ((lo+n2-(lo+(n2-(q2+1))))/2)).Perm a₀:=(Up _ _ _ _).trans px2;have fr:FrL (mirror xs2 (lo+(n2-(q2+1))) (lo+n2) ((lo+n2-(lo+(n2-(q2+1))))/2)) (arrOf st) lo:=zep (by omega) fx2
     have sx3:(mirror xs2 (lo+(n2-(q2+1))) (lo+n2) ((lo+n2-(lo+(n2-(q2+1))))/2)).size=a₀.size:=pr.size_eq;refine kH (QZ (uD (I:=fun x(c:Option (Option Nat)×Nat) st'=>(c.1=none/\1<=c.2/\c.2=x)/\∃xs,xs.Perm a₀/\FrL xs (arrOf st) lo/\UpF an (gK xs lo) c.2/\st'=uZ st xs) (Q:=fun c st'=>(c.1=none/\1<=c.2/\c.2<=nrem)/\∃xs,xs.Perm a₀/\FrL xs (arrOf st) lo/\UpF an (gK xs lo) c.2/\st'=uZ st xs) ?_ ?_ ⟨⟨rfl,(by show 1<=n2;omega),rfl⟩,_,(Up _ _ _ _).trans pr,zep (a:=0) (by omega) fr,zn5 (by omega) dr,rfl⟩) ?_)
     ·rintro x ⟨r,n3⟩ st' hx1 hx ⟨⟨e,hn1,hn2'⟩,xs,px,fx,ux,rfl⟩;dsimp only at e hn1 hn2' ux⊢;refine kH (ltG hq px (i:=n3) (j:=n3-1) rfl (by omega) (by omega) (by omega) hκ ?_)
      cases eb:an (gK (arrOf (uZ st xs)) lo n3) (gK (arrOf (uZ st xs)) lo (n3-1)) with
      |true=>exact kG ⟨⟨rfl,hn1,(by show n3<=nrem;omega)⟩,_,px,fx,ux,rfl⟩
      |false=>exact kG ⟨⟨rfl,(by show 1<=n3+1;omega),(by show n3+1=x+1;omega)⟩,_,px,fx,ux.step T fun _=>eb,rfl⟩
     ·rintro⟨r,n3⟩ st' ⟨⟨e,hn1,hn2'⟩,z⟩;dsimp only at e hn1 hn2' z⊢;exact⟨⟨e,hn1,by show n3<=nrem;omega⟩,z⟩
     ·rintro⟨r,n3⟩ st' ⟨⟨e,hn1,hn2'⟩,xs,px,fx,ux,rfl⟩;dsimp only at e hn1 hn2' ux⊢;subst e;exact kG (h n3 xs hn1 hn2' px fx ux)
    ·rw[if_neg qq];refine kH (uP ?_);refine kH (QZ (uD (I:=fun x(c:Option (Option Nat)×Nat) st'=>(c.1=none/\1<=c.2/\c.2=x)/\∃xs,xs.Perm a₀/\FrL xs (arrOf st) lo/\UpF an (gK xs lo) c.2/\st'=uZ st xs) (Q:=fun c st'=>(c.1=none/\1<=c.2/\c.2<=nrem)/\∃xs,xs.Perm a₀/\FrL xs (arrOf st) lo/\UpF an (gK xs lo) c.2/\st'=uZ st xs) ?_ ?_ ⟨⟨rfl,(by show 1<=n2;omega),rfl⟩,_,(Up _ _ _ _).trans px2,zep (a:=0) (by omega) fx2,zn5 (by omega) dx2,rfl⟩) ?_)
     ·rintro x ⟨r,n3⟩ st' hx1 hx ⟨⟨e,hn1,hn2'⟩,xs,px,fx,ux,rfl⟩;dsimp only at e hn1 hn2' ux⊢;refine kH (ltG hq px (i:=n3) (j:=n3-1) rfl (by omega) (by omega) (by omega) hκ ?_)
      cases eb:an (gK (arrOf (uZ st xs)) lo n3) (gK (arrOf (uZ st xs)) lo (n3-1)) with
      |true=>exact kG ⟨⟨rfl,hn1,(by show n3<=nrem;omega)⟩,_,px,fx,ux,rfl⟩
      |false=>exact kG ⟨⟨rfl,(by show 1<=n3+1;omega),(by show n3+1=x+1;omega)⟩,_,px,fx,ux.step T fun _=>eb,rfl⟩
     ·rintro⟨r,n3⟩ st' ⟨⟨e,hn1,hn2'⟩,z⟩;dsimp only at e hn1 hn2' z⊢;exact⟨⟨e,hn1,by show n3<=nrem;omega⟩,z⟩
     ·rintro⟨r,n3⟩ st' ⟨⟨e,hn1,hn2'⟩,xs,px,fx,ux,rfl⟩;dsimp only at e hn1 hn2' ux⊢;subst e;exact kG (h n3 xs hn1 hn2' px fx ux)
 ·rw[if_neg c2];have n1:n=1:=by omega
  have d1:DnF an (gK (arrOf st) lo) (n+1):=DnF.step T (fun i j hij hj=>by omega) fun _=>T.asymm us'
  refine kH (AI (QM ⟨rfl,?_⟩));refine kH (QZ (uD (I:=fun x(c:Option (Option Nat)×Nat×Nat) st'=>(c.1=none/\1<=c.2.1/\c.2.1=x/\c.2.2+1<=c.2.1)/\∃xs,xs.Perm a₀/\FrL xs (arrOf st) lo/\DnF an (gK xs lo) c.2.1/\EqF an (gK xs lo) c.2.1 c.2.2/\st'=uZ st xs) (Q:=fun c st'=>(c.1=none/\1<=c.2.1/\c.2.1<=nrem/\c.2.2+1<=c.2.1)/\∃xs,xs.Perm a₀/\FrL xs (arrOf st) lo/\DnF an (gK xs lo) c.2.1/\EqF an (gK xs lo) c.2.1 c.2.2/\st'=uZ st xs) ?_ ?_ ⟨⟨rfl,(by show 1<=n+1;omega),rfl,(by show 0+1<=n+1;omega)⟩,_,hp,f0,d1,zio T n,rfl⟩) ?_)
  ·rintro x ⟨r,n2,q2⟩ st' hx1 hx ⟨⟨e,hn1,hn2,hq2⟩,xs,px,fx,dx,ex,rfl⟩;dsimp only at e hn1 hn2 hq2 dx ex⊢;have sx:xs.size=a₀.size:=px.size_eq;refine kH (ltG hq px (i:=n2) (j:=n2-1) rfl (by omega) (by omega) (by omega) hκ ?_)
   cases eb:an (gK (arrOf (uZ st xs)) lo n2) (gK (arrOf (uZ st xs)) lo (n2-1)) with
   |true=>
    try dsimp only
    rw[if_pos rfl]
    by_cases qq:q2>0
    ·rw[if_pos qq];refine kH (uP (kG ⟨⟨rfl,(by show 1<=n2+1;omega),(by show n2+1=x+1;omega),(by show 0+1<=n2+1;omega)⟩,mirror xs (lo+(n2-(q2+1))) (lo+n2) ((lo+n2-(lo+(n2-(q2+1))))/2),(Up _ _ _ _).trans px,zep (by omega) fx,zrg T (by omega) hq2 dx ex eb,zio T n2,?_⟩))
     rw[show lo+n2-(q2+1)=lo+(n2-(q2+1)) by omega];rfl
    ·rw[if_neg qq];exact kG ⟨⟨rfl,(by show 1<=n2+1;omega),(by show n2+1=x+1;omega),(by show 0+1<=n2+1;omega)⟩,_,px,fx,dx.step T fun _=>T.asymm eb,zio T n2,rfl⟩
   |false=>
    refine kH (ltG hq px (i:=n2-1) (j:=n2) (by omega) rfl (by omega) (by omega) hκ ?_)
    cases ec:an (gK (arrOf (uZ st xs)) lo (n2-1)) (gK (arrOf (uZ st xs)) lo n2) with
    |true=>exact kG ⟨⟨rfl,hn1,(by show n2<=nrem;omega),hq2⟩,_,px,fx,dx,ex,rfl⟩
    |false=>exact kG ⟨⟨rfl,(by show 1<=n2+1;omega),(by show n2+1=x+1;omega),(by show q2+1+1<=n2+1;omega)⟩,_,px,fx,dx.step T fun _=>ec,zp4 T hn1 ex eb ec,rfl⟩
  ·rintro⟨r,n2,q2⟩ st' ⟨⟨e,hn1,hn2,hq2⟩,z⟩;dsimp only at e hn1 hn2 hq2 z⊢;exact⟨⟨e,hn1,by show n2<=nrem;omega,hq2⟩,z⟩
  ·rintro⟨r,n2,q2⟩ st' ⟨⟨e,hn1,hn2,hq2⟩,xs2,px2,fx2,dx2,ex2,rfl⟩;dsimp only at e hn1 hn2 hq2 dx2 ex2⊢;subst e;dsimp only;have sx:xs2.size=a₀.size:=px2.size_eq
   by_cases qq:q2>0
   ·rw[if_pos qq];have dr:=zrm T (by omega) dx2 ex2
    have er:lo+n2-(q2+1)=lo+(n2-(q2+1)):=by omega
    refine kH (uP ?_);refine kH (uP ?_);rw[er];have pr:(mirror xs2 (lo+(n2-(q2+1))) (lo+n2) ((lo+n2-(lo+(n2-(q2+1))))/2)).Perm a₀:=(Up _ _ _ _).trans px2;have fr:FrL (mirror xs2 (lo+(n2-(q2+1))) (lo+n2) ((lo+n2-(lo+(n2-(q2+1))))/2)) (arrOf st) lo:=zep (by omega) fx2
    have sx3:(mirror xs2 (lo+(n2-(q2+1))) (lo+n2) ((lo+n2-(lo+(n2-(q2+1))))/2)).size=a₀.size:=pr.size_eq;refine kH (QZ (uD (I:=fun x(c:Option (Option Nat)×Nat) st'=>(c.1=none/\1<=c.2/\c.2=x)/\∃xs,xs.Perm a₀/\FrL xs (arrOf st) lo/\UpF an (gK xs lo) c.2/\st'=uZ st xs) (Q:=fun c st'=>(c.1=none/\1<=c.2/\c.2<=nrem)/\∃xs,xs.Perm a₀/\FrL xs (arrOf st) lo/\UpF an (gK xs lo) c.2/\st'=uZ st xs) ?_ ?_ ⟨⟨rfl,(by show 1<=n2;omega),rfl⟩,_,(Up _ _ _ _).trans pr,zep (a:=0) (by omega) fr,zn5 (by omega) dr,rfl⟩) ?_)
    ·rintro x ⟨r,n3⟩ st' hx1 hx ⟨⟨e,hn1,hn2'⟩,xs,px,fx,ux,rfl⟩;dsimp only at e hn1 hn2' ux⊢;refine kH (ltG hq px (i:=n3) (j:=n3-1) rfl (by omega) (by omega) (by omega) hκ ?_)
     cases eb:an (gK (arrOf (uZ st xs)) lo n3) (gK (arrOf (uZ st xs)) lo (n3-1)) with
     |true=>exact kG ⟨⟨rfl,hn1,(by show n3<=nrem;omega)⟩,_,px,fx,ux,rfl⟩
     |false=>exact kG ⟨⟨rfl,(by show 1<=n3+1;omega),(by show n3+1=x+1;omega)⟩,_,px,fx,ux.step T fun _=>eb,rfl⟩
    ·rintro⟨r,n3⟩ st' ⟨⟨e,hn1,hn2'⟩,z⟩;dsimp only at e hn1 hn2' z⊢;exact⟨⟨e,hn1,by show n3<=nrem;omega⟩,z⟩
    ·rintro⟨r,n3⟩ st' ⟨⟨e,hn1,hn2'⟩,xs,px,fx,ux,rfl⟩;dsimp only at e hn1 hn2' ux⊢;subst e;exact kG (h n3 xs hn1 hn2' px fx ux)
   ·rw[if_neg qq];refine kH (uP ?_);refine kH (QZ (uD (I:=fun x(c:Option (Option Nat)×Nat) st'=>(c.1=none/\1<=c.2/\c.2=x)/\∃xs,xs.Perm a₀/\FrL xs (arrOf st) lo/\UpF an (gK xs lo) c.2/\st'=uZ st xs) (Q:=fun c st'=>(c.1=none/\1<=c.2/\c.2<=nrem)/\∃xs,xs.Perm a₀/\FrL xs (arrOf st) lo/\UpF an (gK xs lo) c.2/\st'=uZ st xs) ?_ ?_ ⟨⟨rfl,(by show 1<=n2;omega),rfl⟩,_,(Up _ _ _ _).trans px2,zep (a:=0) (by omega) fx2,zn5 (by omega) dx2,rfl⟩) ?_)
    ·rintro x ⟨r,n3⟩ st' hx1 hx ⟨⟨e,hn1,hn2'⟩,xs,px,fx,ux,rfl⟩;dsimp only at e hn1 hn2' ux⊢;refine kH (ltG hq px (i:=n3) (j:=n3-1) rfl (by omega) (by omega) (by omega) hκ ?_)
     cases eb:an (gK (arrOf (uZ st xs)) lo n3) (gK (arrOf (uZ st xs)) lo (n3-1)) with
     |true=>exact kG ⟨⟨rfl,hn1,(by show n3<=nrem;omega)⟩,_,px,fx,ux,rfl⟩
     |false=>exact kG ⟨⟨rfl,(by show 1<=n3+1;omega),(by show n3+1=x+1;omega)⟩,_,px,fx,ux.step T fun _=>eb,rfl⟩
    ·rintro⟨r,n3⟩ st' ⟨⟨e,hn1,hn2'⟩,z⟩;dsimp only at e hn1 hn2' z⊢;exact⟨⟨e,hn1,by show n3<=nrem;omega⟩,z⟩
    ·rintro⟨r,n3⟩ st' ⟨⟨e,hn1,hn2'⟩,xs,px,fx,ux,rfl⟩;dsimp only at e hn1 hn2' ux⊢;subst e;exact kG (h n3 xs hn1 hn2' px fx ux)
end
section
variable{prog:ko}{w:pN}{A:pO}{E:kB->kC->Prop}{s:kC}{a₀:Array kc}{κ:QJ}{an:kc->kc->Bool}
theorem gK_bub{xs:Array kc}{lo l k:Nat}(hk:lo+k<xs.size)(hl:l<=k)(j:Nat):gK (bubble xs (lo+k) (lo+k-(lo+l))) lo j=if j=l then gK xs lo k else if l<j/\j<=k then gK xs lo (j-1) else gK xs lo j:=by
 unfold gK;rw[ke,BW hk _ (by omega)]
 by_cases c1:j=l
 ·rw[if_pos c1,if_pos (by omega),ke]
 ·rw[if_neg c1,if_neg (by omega)]
  by_cases c2:l<j/\j<=k
  ·rw[if_pos c2,if_pos (by omega),ke]
   congr 2
   omega
  ·rw[if_neg c2,if_neg (by omega),ke]
theorem frL_bub{xs ys:Array kc}{lo l k:Nat}(hk:lo+k<xs.size)(hl:l<=k)(h:FrL xs ys lo):FrL (bubble xs (lo+k) (lo+k-(lo+l))) ys lo:=fun j hj=>by
 rw[BW hk _ (by omega),if_neg (by omega),if_neg (by omega)]
 exact h j hj
theorem up_bub(T:WkT an){xs:Array kc}{lo l k:Nat}(hk:lo+k<xs.size)(hl:l<=k)(u:UpF an (gK xs lo) k)(h1:∀i,i<l->an (gK xs lo k) (gK xs lo i)=false)(h2:∀i,l<=i->i<k->an (gK xs lo k) (gK xs lo i)=true):UpF an (gK (bubble xs (lo+k) (lo+k-(lo+l))) lo) (k+1):=fun i j hij hj=>by
 rw[gK_bub hk hl,gK_bub hk hl]
 by_cases a1:j=l
 ·rw[if_pos a1,if_neg (by omega),if_neg (by omega)]
  exact h1 i (by omega)
 ·rw[if_neg a1]
  by_cases a2:l<j/\j<=k
  ·rw[if_pos a2]
   by_cases b1:i=l
   ·rw[if_pos b1];exact T.asymm (h2 (j-1) (by omega) (by omega))
   ·rw[if_neg b1]
    by_cases b2:l<i/\i<=k
    ·rw[if_pos b2];exact u (i-1) (j-1) (by omega) (by omega)
    ·rw[if_neg b2];exact u i (j-1) (by omega) (by omega)
  ·rw[if_neg a2,if_neg (by omega),if_neg (by omega)]
   exact u i j hij (by omega)
theorem binG(T:WkT an)(hq:QR prog w A E s κ a₀ an){lo n ok:Nat}{st:uO}{Q:Bool->uO->Prop}(hp:(arrOf st).Perm a₀)(hz:lo+n<=a₀.size)(hκ:kindOf st=κ)(u:UpF an (gK (arrOf st) lo) ok)
  (h:∀xs,xs.Perm a₀->FrL xs (arrOf st) lo->UpF an (gK xs lo) n->Q true (uZ st xs)):wpS (model prog w) A E s (binarySort' lo n ok) Q st:=by
 refine kH (QZ (uD (I:=fun x(c:Option Bool×Unit) st'=>c.1=none/\∃xs,xs.Perm a₀/\FrL xs (arrOf st) lo/\UpF an (gK xs lo) x/\st'=uZ st xs) (Q:=fun c st'=>c.1=none/\∃xs,xs.Perm a₀/\FrL xs (arrOf st) lo/\UpF an (gK xs lo) n/\st'=uZ st xs) ?_ ?_ ⟨rfl,_,hp,fun _ _=>rfl,fun i j hij hj=>?_,rfl⟩) ?_)
 ·rintro x ⟨r,un⟩ st' hx1 hx ⟨e,xs,px,fx,ux,rfl⟩;dsimp only at e⊢;have sx:xs.size=a₀.size:=px.size_eq;refine kH (QZ (uD (I:=fun y(c:Option Bool×Nat×Nat) st'=>c.1=none/\(c.2.1<=c.2.2/\c.2.2<=x/\c.2.2-c.2.1<=x-y)/\(∀i,i<c.2.1->an (gK xs lo x) (gK xs lo i)=false)/\(∀i,c.2.2<=i->i<x->an (gK xs lo x) (gK xs lo i)=true)/\st'=uZ st xs) (Q:=fun c st'=>c.1=none/\c.2.1<=x/\(∀i,i<c.2.1->an (gK xs lo x) (gK xs lo i)=false)/\(∀i,c.2.1<=i->i<x->an (gK xs lo x) (gK xs lo i)=true)/\st'=uZ st xs) ?_ ?_ ⟨rfl,⟨pG _,kM _,(by show x-0<=x-0;omega)⟩,fun i hi=>absurd hi (Dj _),fun i hi hi'=>(by have:x<=i:=hi;omega),rfl⟩) ?_)
  ·rintro y ⟨r1,l,r⟩ st' _ hy ⟨e1,⟨q1,q2,q3⟩,q4,q5,rfl⟩;dsimp only at e1 q1 q2 q3 q4 q5⊢
   by_cases c:l≥r
   ·rw[if_pos c];have el:l=r:=by omega
    subst el;exact kG ⟨rfl,q2,q4,q5,rfl⟩
   ·rw[if_neg c];refine kH (ltG hq px (i:=x) (j:=(l+r)/2) rfl rfl (by omega) (by omega) hκ ?_)
    cases eb:an (gK (arrOf (uZ st xs)) lo x) (gK (arrOf (uZ st xs)) lo ((l+r)/2)) with
    |true=>
     refine kG ⟨rfl,⟨(by show l<=(l+r)/2;omega),(by show(l+r)/2<=x;omega),(by show(l+r)/2-l<=x-(y+1);omega)⟩,q4,fun i hi hi'=>?_,rfl⟩
     have hi2:(l+r)/2<=i:=hi
     cases z:an (gK xs lo x) (gK xs lo i) with
     |true=>rfl
     |false=>
      rcases vS hi2 with y1|y1
      ·have:=T.cut _ _ _ z (ux _ i y1 hi');rw[show an (gK xs lo x) (gK xs lo ((l+r)/2))=true from eb] at this
       cases this
      ·rw[←y1] at z;rw[show an (gK xs lo x) (gK xs lo ((l+r)/2))=true from eb] at z
       cases z
    |false=>
     refine kG ⟨rfl,⟨(by show(l+r)/2+1<=r;omega),q2,(by show r-((l+r)/2+1)<=x-(y+1);omega)⟩,fun i hi=>?_,q5,rfl⟩
     have hi2:i<(l+r)/2+1:=hi;rcases vS (Cy hi2) with y1|y1
     ·exact T.cut _ _ _ eb (ux i _ y1 (by omega))
     ·rw[y1];exact eb
  ·rintro⟨r1,l,r⟩ st' ⟨e1,⟨q1,q2,q3⟩,q4,q5,rfl⟩;dsimp only at e1 q1 q2 q3 q4 q5⊢;have el:l=r:=by omega
   subst el;exact⟨e1,q2,q4,q5,rfl⟩
  ·rintro⟨r1,l,r⟩ st' ⟨e1,q2,q4,q5,rfl⟩;dsimp only at e1 q2 q4 q5⊢;subst e1;exact kH (uP (kG ⟨rfl,_,(DW _ _ _).trans px,frL_bub (by omega) q2 fx,up_bub T (by omega) q2 ux q4 q5,rfl⟩))
 ·rintro⟨r,un⟩ st' ⟨e,xs,px,fx,ux,rfl⟩;exact⟨e,xs,px,fx,fun i j hij hj=>ux i j hij (by omega),rfl⟩
 ·by_cases o:ok=0
  ·have:j<max ok 1:=hj;omega
  ·exact u i j hij (by have:j<max ok 1:=hj;omega)
 ·rintro⟨r,un⟩ st' ⟨e,xs,px,fx,ux,rfl⟩;dsimp only at e⊢;subst e;exact kG (h xs px fx ux)
end
section
variable{prog:ko}{w:pN}{A:pO}{E:kB->kC->Prop}{s:kC}{a₀:Array kc}{κ:QJ}{an:kc->kc->Bool}
theorem zev{xs:Array kc}{lo k:Nat}(h:lo+k<xs.size):gK xs lo k=xs[lo+k]:=by
 unfold gK;rw[ke,pK h];rfl
theorem zf1{xs:Array kc}{lo n:Nat}(h:lo+n<=xs.size):UpF an (gK xs lo) n↔UpL an ((xs.toList.drop lo).take n):=by
 have ln:((xs.toList.drop lo).take n).length=n:=by rw[pA,pU,kT];omega
 have at_:∀{i:Nat}(hi:i<((xs.toList.drop lo).take n).length),((xs.toList.drop lo).take n)[i]=gK xs lo i:=fun{i} hi=>by
  rw[ln] at hi;rw[ui,uX,uC,zev (by omega)]
 unfold UpL;rw[List.pairwise_iff_getElem]
 constructor
 ·intro u i j hi hj hij;rw[at_ hi,at_ hj];exact u i j hij (by omega)
 ·intro u i j hij hj;have:=u i j (by omega) (by omega) hij
  rw[at_ (by omega),at_ (by omega)] at this
  exact this
theorem zla{xs:Array kc}{lo n:Nat}(u:UpF an (gK xs lo) n):SrtS an xs lo n:=fun i j hij hj hi hj'=>by
 have:=u i j hij hj;rw[zev hj',zev hi] at this;exact this
theorem zjm{a:Array kc}(u:UpL an a.toList):SrtS an a 0 a.size:=zla ((zf1 (by omega)).mpr (by
 rw[vk,pH (by rw[kT];exact kM _)]
 exact u))
def FrO(xs ys:Array kc)(lo hi:Nat):Prop:=∀k,k<lo∨hi<=k->xs[k]?=ys[k]?
theorem mergedS(T:WkT an){arr m:Array kc}{sa na nb k n:Nat}(hz:sa+na+nb<=arr.size)(hk:k<na)(hn:n<=nb)(ua:UpF an (gK arr sa) na)(ub:UpF an (gK arr (sa+na)) nb)
  (h1:∀i,i<k->an (gK arr (sa+na) 0) (gK arr sa i)=false)(h0:0<nb)(h2:∀i,n<=i->i<nb->an (gK arr (sa+na) i) (gK arr sa (na-1))=false)
  (hm:m.toList.Perm ((arr.extract (sa+k) (sa+na)).toList++(arr.extract (sa+na) (sa+na+n)).toList))(um:UpL an m.toList):
  UpF an (gK (m.toList.zipIdx.foldl (fun a(x:kc×Nat)=>match x with|(p,j)=>a.setIfInBounds (sa+k+j) p) arr) sa) (na+nb)/\
  FrO (m.toList.zipIdx.foldl (fun a(x:kc×Nat)=>match x with|(p,j)=>a.setIfInBounds (sa+k+j) p) arr) arr sa (sa+na+nb):=by
 have lm:m.toList.length=na-k+n:=by
  rw[hm.length_eq,kO,zbu,zbu,pA,pA,pU,pU,kT];omega
 have e:=zlr (sa+k) m.toList 0 arr (by omega)
 rw[EX,lm] at e;have pm:(m.toList.zipIdx.foldl (fun a(x:kc×Nat)=>match x with|(p,j)=>a.setIfInBounds (sa+k+j) p) arr).Perm arr:=zhu (sa:=sa+k) (sb:=sa+na) (nb:=n) (by omega) (by omega) hm
 have sz:=pm.size_eq;generalize m.toList.zipIdx.foldl (fun a(x:kc×Nat)=>match x with|(p,j)=>a.setIfInBounds (sa+k+j) p) arr=ys at*
 rw[zf1 (by omega)] at ua ub
 have eA:(arr.toList.drop sa).take na=(arr.toList.drop sa).take k++(arr.extract (sa+k) (sa+na)).toList:=by
  rw[zbu,show sa+na-(sa+k)=na-k by omega,←UL]
  have:=uJ k ((arr.toList.drop sa).take na);rw[AH,gS (by omega),jn] at this
  exact this.symm
 have eB:(arr.toList.drop (sa+na)).take nb=(arr.extract (sa+na) (sa+na+n)).toList++((arr.toList.drop (sa+na)).take nb).drop n:=by
  rw[zi9];have:=uJ n ((arr.toList.drop (sa+na)).take nb);rw[AH,gS hn] at this;exact this.symm
 have ey:(ys.toList.drop sa).take (na+nb)=(arr.toList.drop sa).take k++m.toList++((arr.toList.drop (sa+na)).take nb).drop n:=by
  rw[e,pM,List.drop_append_of_le_length (by rw[pA,kT];omega),jn,show sa+k-sa=k by omega,pM]
  rw[DR,pA,pU,kT,pH (by rw[pA];omega)]
  rw[DR,pH (l:=m.toList) (by rw[lm];omega),lm]
  congr 2
  rw[jn,UL]
  congr 1
  ·omega
  ·congr 1
   omega
 rw[eA,zb5] at ua;rw[eB,zb5] at ub;have mA:∀x,x∈(arr.toList.drop sa).take k->an (gK arr (sa+na) 0) x=false:=fun x hx=>by
  obtain⟨i,hi,ei⟩:=uB.mp hx;rw[pA,pU,kT] at hi;rw[←ei,ui,uX,uC,←zev (by omega)]
  exact h1 i (by omega)
 have b0:∀y,y∈(arr.toList.drop (sa+na)).take nb->an y (gK arr (sa+na) 0)=false:=fun y hy=>by
  have u:=(zf1 (an:=an) (xs:=arr) (lo:=sa+na) (n:=nb) (by omega)).mpr (by rw[eB,zb5];exact ub)
  obtain⟨i,hi,ei⟩:=uB.mp hy;rw[pA,pU,kT] at hi;rw[←ei,ui,uX,uC,←zev (by omega)]
  by_cases z:i=0
  ·rw[z];exact T.irr _
  ·exact u 0 i (by omega) (by omega)
 have mB:∀y,y∈((arr.toList.drop (sa+na)).take nb).drop n->an y (gK arr sa (na-1))=false:=fun y hy=>by
  obtain⟨i,hi,ei⟩:=uB.mp hy;rw[pU,pA,pU,kT] at hi;rw[←ei,uX,ui,uX,uC,←zev (by omega)]
  exact h2 (n+i) (by omega) (by omega)
 have al:∀x,x∈(arr.extract (sa+k) (sa+na)).toList->an (gK arr sa (na-1)) x=false:=fun x hx=>by
  have u:=(zf1 (an:=an) (xs:=arr) (lo:=sa) (n:=na) (by omega)).mpr (by rw[eA,zb5];exact ua)
  rw[zbu] at hx;obtain⟨i,hi,ei⟩:=uB.mp hx;rw[pA,pU,kT] at hi;rw[←ei,ui,uX,uC];have ge:arr[sa+k+i]'(by omega)=gK arr sa (k+i):=by rw[zev (by omega)];congr 1;omega
  rw[ge]
  by_cases z:k+i=na-1
  ·rw[z];exact T.irr _
  ·exact u (k+i) (na-1) (by omega) (by omega)
 have mm:∀x,x∈m.toList->x∈(arr.extract (sa+k) (sa+na)).toList∨x∈(arr.extract (sa+na) (sa+na+n)).toList:=fun x hx=>kY.mp (hm.mem_iff.mp hx);have inB:∀x,x∈(arr.extract (sa+na) (sa+na+n)).toList->x∈(arr.toList.drop (sa+na)).take nb:=fun x hx=>by rw[eB];exact pR _ hx
 have inB2:∀x,x∈((arr.toList.drop (sa+na)).take nb).drop n->x∈(arr.toList.drop (sa+na)).take nb:=fun x hx=>by rw[eB];exact kN _ hx
 refine⟨(zf1 (by omega)).mpr ?_,fun j hj=>?_⟩
 ·rw[ey,zb5,zb5];refine⟨⟨ua.1,um,fun x hx y hy=>?_⟩,ub.2.1,fun x hx y hy=>?_⟩
  ·rcases mm y hy with z|z
   ·exact ua.2.2 x hx y z
   ·exact T.cut _ _ _ (b0 y (inB y z)) (mA x hx)
  ·rcases kY.mp hx with hx|hx
   ·exact T.cut _ _ _ (b0 y (inB2 y hy)) (mA x hx)
   ·rcases mm x hx with z|z
    ·exact T.cut _ _ _ (mB y hy) (al x z)
    ·exact ub.2.2 x z y hy
 ·rw[←pW,e,←pW];rcases hj with hj|hj
  ·rw[pM,pj (by rw[pA,kT];omega),List.getElem?_take,if_pos (by omega)]
  ·rw[pY (by rw[kO,pA,kT,lm];omega),kO,pA,kT,lm,AB]
   congr 1
   omega
end
section
variable{prog:ko}{w:pN}{A:pO}{E:kB->kC->Prop}{s:kC}{a₀:Array kc}{κ:QJ}{an:kc->kc->Bool}
theorem zka(xs:Array kc)(a n j:Nat):gK xs a (n+j)=gK xs (a+n) j:=by unfold gK;rw[jD]
theorem upF_cat(T:WkT an){arr:Array kc}{sa na nb:Nat}(ua:UpF an (gK arr sa) na)(ub:UpF an (gK arr (sa+na)) nb)(h:∀i,i<na->an (gK arr (sa+na) 0) (gK arr sa i)=false):UpF an (gK arr sa) (na+nb):=fun i j hij hj=>by
 by_cases c1:j<na
 ·exact ua i j hij c1
 ·have ej:j=na+(j-na):=by omega
  have bj:∀x,x<nb->an (gK arr (sa+na) x) (gK arr (sa+na) 0)=false:=fun x hx=>by
   by_cases z:x=0
   ·rw[z];exact T.irr _
   ·exact ub 0 x (by omega) hx
  by_cases c2:i<na
  ·rw[ej,zka];exact T.cut _ _ _ (bj _ (by omega)) (h i c2)
  ·have ei:i=na+(i-na):=by omega
   rw[ej,ei,zka,zka];exact ub _ _ (by omega) (by omega)
theorem mergeG(T:WkT an)(hq:QR prog w A E s κ a₀ an){i sa na p1 nb p2:Nat}{st:uO}{Q:Bool->uO->Prop}(hp:(arrOf st).Perm a₀)(hκ:kindOf st=κ)(hf:jA st=none)(e1:(pF st)[i]?=some (sa,na,p1))(e2:(pF st)[i+1]?=some (sa+na,nb,p2))(n1:0<na)(n2:0<nb)(hz:sa+na+nb<=a₀.size)
  (ua:UpF an (gK (arrOf st) sa) na)(ub:UpF an (gK (arrOf st) (sa+na)) nb)
  (h:∀xs g,xs.Perm a₀->FrO xs (arrOf st) sa (sa+na+nb)->UpF an (gK xs sa) (na+nb)->Q true (pSt st xs (((pF st).setIfInBounds i (sa,na+nb,p1)).eraseIdxIfInBounds (i+1)) g)):wpS (model prog w) A E s (mergeAt' i) Q st:=by
 have sz:(arrOf st).size=a₀.size:=hp.size_eq;have mem:∀x,x∈arrOf st->x∈a₀:=fun x hx=>hp.mem_iff.mp hx;refine kH (jL ?_);show wpS _ _ _ _ (match((pF st)[i]?,(pF st)[i+1]?) with|_=>_) _ _
 rw[e1,e2];dsimp only;refine kH (wpS_set ?_);refine kH (zaw (show sa+na<(arrOf st).size by omega) ?_)
 refine kH (galR T hq (mem _ (Qb _)) mem (by show sa+na<=(arrOf st).size;omega) n1 hκ (zla ua) fun k hk t1 t2=>?_)
 dsimp only;have g0:gK (arrOf st) (sa+na) 0=(arrOf st)[sa+na]:=zev (by omega)
 have r1:∀j,j<k->an (gK (arrOf st) (sa+na) 0) (gK (arrOf st) sa j)=false:=fun j hj=>by
  rw[g0,zev (by omega)]
  exact t1 j hj (show sa+j<(arrOf st).size by omega)
 have r2:∀j,k<=j->j<na->an (gK (arrOf st) (sa+na) 0) (gK (arrOf st) sa j)=true:=fun j hj hj'=>by
  rw[g0,zev (by omega)]
  exact t2 j hj hj' (show sa+j<(arrOf st).size by omega)
 by_cases c1:(na-k==0)=true
 ·rw[if_pos c1];have z:na-k=0:=pE c1;exact kG (h _ _ hp (fun _ _=>rfl) (upF_cat T ua ub fun j hj=>r1 j (by omega)))
 rw[if_neg c1];have c1':na-k≠0:=fun z=>c1 (by rw[z];rfl)
 refine kH (zaw (show sa+k+(na-k)-1<(arrOf st).size by omega) ?_)
 refine kH (galL T hq (mem _ (Qb _)) mem (by show sa+na+nb<=(arrOf st).size;omega) (by omega) hκ (zla ub) fun m hm u1 u2=>?_)
 dsimp only;have gl:(arrOf st)[sa+k+(na-k)-1]'(by omega)=gK (arrOf st) sa (na-1):=by
  rw[zev (by omega)]
  congr 1
  omega
 have v1:∀j,j<m->an (gK (arrOf st) (sa+na) j) (gK (arrOf st) sa (na-1))=true:=fun j hj=>by
  rw[zev (by omega),←gl]
  exact u1 j hj (show sa+na+j<(arrOf st).size by omega)
 have v2:∀j,m<=j->j<nb->an (gK (arrOf st) (sa+na) j) (gK (arrOf st) sa (na-1))=false:=fun j hj hj'=>by
  rw[zev (by omega),←gl]
  exact u2 j hj hj' (show sa+na+j<(arrOf st).size by omega)
 by_cases c2:(m==0)=true
 ·exfalso
  have z:m=0:=pE c2;have x1:=v2 0 (by omega) n2
  rw[r2 (na-1) (by omega) (by omega)] at x1
  cases x1
 rw[if_neg c2];have c2':m≠0:=fun z=>c2 (by rw[z];rfl)
 have s1:0<((arrOf st).extract (sa+k) (sa+na)).size:=by rw[jO];omega
 have s2:0<((arrOf st).extract (sa+na) (sa+na+m)).size:=by rw[jO];omega
 have z1:((arrOf st).extract (sa+k) (sa+na)).size=na-k:=by rw[jO];omega
 have z2:((arrOf st).extract (sa+na) (sa+na+m)).size=m:=by rw[jO];omega
 have inX:∀y,y∈((arrOf st).extract (sa+k) (sa+na)).toList->∃j,k<=j/\j<na/\y=gK (arrOf st) sa j:=fun y hy=>by
  rw[zbu] at hy;obtain⟨j,hj,ej⟩:=uB.mp hy;rw[pA,pU,kT] at hj;refine⟨k+j,by omega,by omega,?_⟩
  rw[←ej,ui,uX,uC,zev (by omega)]
  congr 1
  omega
 have inY:∀y,y∈((arrOf st).extract (sa+na) (sa+na+m)).toList->∃j,j<m/\y=gK (arrOf st) (sa+na) j:=fun y hy=>by
  rw[zi9] at hy;obtain⟨j,hj,ej⟩:=uB.mp hy;rw[pA,pU,kT] at hj;exact⟨j,by omega,by rw[←ej,ui,uX,uC,zev (by omega)]⟩
 have ux:UpL an ((arrOf st).extract (sa+k) (sa+na)).toList:=by
  have:UpF an (gK (arrOf st) (sa+k)) (na-k):=fun a b hab hb=>by
   rw[←zka,←zka];exact ua _ _ (by omega) (by omega)
  rw[zf1 (by omega)] at this
  rw[zbu,show sa+na-(sa+k)=na-k by omega]
  exact this
 have uy:UpL an ((arrOf st).extract (sa+na) (sa+na+m)).toList:=by
  have:UpF an (gK (arrOf st) (sa+na)) m:=fun a b hab hb=>ub a b hab (by omega)
  rw[zf1 (by omega)] at this
  rw[zi9];exact this
 have hz':∀y,y∈((arrOf st).extract (sa+k) (sa+na)).toList->an y ((arrOf st).extract (sa+na) (sa+na+m))[0]=false:=fun y hy=>by
  obtain⟨j,hj,hj',ey⟩:=inX y hy;have e0:((arrOf st).extract (sa+na) (sa+na+m))[0]=gK (arrOf st) (sa+na) 0:=by rw[Be,zev (by omega)]
  rw[e0,ey];exact T.asymm (r2 j hj hj')
 have hl':∀y,y∈((arrOf st).extract (sa+na) (sa+na+m)).toList->an (((arrOf st).extract (sa+k) (sa+na))[((arrOf st).extract (sa+k) (sa+na)).size-1]'(by omega)) y=false:=fun y hy=>by
  obtain⟨j,hj,ey⟩:=inY y hy;have e0:((arrOf st).extract (sa+k) (sa+na))[((arrOf st).extract (sa+k) (sa+na)).size-1]'(by omega)=gK (arrOf st) sa (na-1):=by
   rw[Be,zev (by omega)]
   congr 1
   omega
  rw[e0,ey];exact T.asymm (v1 j hj)
 have fin:∀(r:Array kc)(g:Nat),MgR an ((arrOf st).extract (sa+k) (sa+na)) ((arrOf st).extract (sa+na) (sa+na+m)) r->Q true (pSt st (r.toList.zipIdx.foldl (fun a(x:kc×Nat)=>match x with|(p,j)=>a.setIfInBounds (sa+k+j) p) (arrOf st)) (((pF st).setIfInBounds i (sa,na+nb,p1)).eraseIdxIfInBounds (i+1)) g):=fun r g hr=>by
  have ms:=mergedS T (by omega) (show k<na by omega) hm ua ub r1 n2 v2 hr.1 hr.2
  exact h _ g ((zhu (by omega) (show sa+na+m<=(arrOf st).size by omega) hr.1).trans hp) ms.2 ms.1
 by_cases c3:na-k<=m
 ·rw[if_pos c3];refine kH (loG T hq (fun x hx=>mem x (zja hx)) (fun x hx=>mem x (zja hx)) s1 s2 hκ (loIv T ux uy s1 s2 hz' hl') (zjm ux) (zjm uy) fun r g hr=>?_);refine kH (uP (kH (jL (kG ?_))));show Q (jA st).isNone _;rw[hf];exact fin r g hr
 ·rw[if_neg c3];refine kH (hiG T hq (fun x hx=>mem x (zja hx)) (fun x hx=>mem x (zja hx)) s1 s2 hκ (hiIv T ux uy s1 s2 hz' hl') (zjm ux) (zjm uy) fun r g hr=>?_);refine kH (uP (kH (jL (kG ?_))));show Q (jA st).isNone _;rw[hf];exact fin r g hr
end
theorem Cov.in_:∀{l:List (Nat×Nat×Nat)}{b e j a n p:Nat},Cov l b e->l[j]?=some (a,n,p)->b<=a/\a+n<=e
 |(x,m,q)::r,b,e,0,a,n,p,h,e1=>by
  cases e1;obtain⟨h1,h2,h3⟩:=h;have:=Cov.le h3;exact⟨by omega,by omega⟩
 |(x,m,q)::r,b,e,j+1,a,n,p,h,e1=>by
  obtain⟨h1,h2,h3⟩:=h;have:=Cov.in_ h3 (show r[j]?=some (a,n,p) by simpa using e1)
  exact⟨by omega,this.2⟩
 |[],b,e,j,a,n,p,h,e1=>by cases j<;>cases e1
theorem Cov.lt_:∀{l:List (Nat×Nat×Nat)}{b e i j a n p a' n' p':Nat},Cov l b e->l[i]?=some (a,n,p)->l[j]?=some (a',n',p')->i<j->a+n<=a'
 |(x,m,q)::r,b,e,0,j+1,a,n,p,a',n',p',h,e1,e2,hij=>by
  cases e1;obtain⟨h1,h2,h3⟩:=h;have:=Cov.in_ h3 (show r[j]?=some (a',n',p') by simpa using e2)
  omega
 |(x,m,q)::r,b,e,i+1,j+1,a,n,p,a',n',p',h,e1,e2,hij=>Cov.lt_ h.2.2 (show r[i]?=some (a,n,p) by simpa using e1) (show r[j]?=some (a',n',p') by simpa using e2) (by omega)
 |[],b,e,i,j,a,n,p,a',n',p',h,e1,e2,hij=>by cases i<;>cases e1
 |_::_,b,e,i,0,a,n,p,a',n',p',h,e1,e2,hij=>by omega
theorem Cov.len:∀{l:List (Nat×Nat×Nat)}{b e:Nat},Cov l b e->l.length+b<=e
 |[],b,e,h=>by
  have h:b=e:=h
  simp[h]
 |(x,m,q)::r,b,e,h=>by
  obtain⟨h1,h2,h3⟩:=h;have:=Cov.len h3;rw[uA];omega
theorem zo5{α:Type}{l:List α}{i:Nat}{x y:α}(h:y∈(l.set i x).eraseIdx (i+1)):y=x∨∃j,j≠i/\j≠i+1/\l[j]?=some y:=by
 obtain⟨j,hj⟩:=pX.mp h;rw[List.getElem?_eraseIdx] at hj
 by_cases c:j<i+1
 ·rw[if_pos c] at hj
  by_cases e:i=j
  ·subst e
   by_cases c2:i<l.length
   ·rw[vK c2] at hj;exact .inl (pV hj).symm
   ·rw[QD (by rw[Dk];omega)] at hj
    cases hj
  ·rw[vg e] at hj;exact .inr ⟨j,fun z=>e z.symm,by omega,hj⟩
 ·rw[if_neg c,vg (by omega)] at hj
  exact .inr ⟨j+1,by omega,by omega,hj⟩
section
variable{prog:ko}{w:pN}{A:pO}{E:kB->kC->Prop}{s:kC}{a₀:Array kc}{κ:QJ}{an:kc->kc->Bool}
theorem zn6{xs ys:Array kc}{a n:Nat}(h:∀k,a<=k->k<a+n->xs[k]?=ys[k]?)(u:UpF an (gK ys a) n):UpF an (gK xs a) n:=fun i j hij hj=>by
 have e:∀k,k<n->gK xs a k=gK ys a k:=fun k hk=>by
  unfold gK;rw[ke,ke,h (a+k) (by omega) (by omega)]
 rw[e i (by omega),e j hj]
 exact u i j hij hj
def SIvG(an:kc->kc->Bool)(a₀:Array kc)(κ:QJ)(lo:Nat)(st:uO):Prop:=SIv a₀ κ lo st/\∀a n p,(a,n,p)∈(pF st).toList->UpF an (gK (arrOf st) a) n
theorem zhh(T:WkT an)(hq:QR prog w A E s κ a₀ an){i lo:Nat}{st:uO}{Q:Bool->uO->Prop}(iv:SIvG an a₀ κ lo st)(hi:i+1<(pF st).size)(h:∀st',SIvG an a₀ κ lo st'->(pF st').size+1=(pF st).size->(∀k,lo<=k->(arrOf st')[k]?=(arrOf st)[k]?)->Q true st'):wpS (model prog w) A E s (mergeAt' i) Q st:=by
 obtain⟨⟨h1,h2,h3,h4,h5⟩,hr⟩:=iv;have e1:(pF st)[i]?=some (pF st)[i]:=pK (by omega)
 have e2:(pF st)[i+1]?=some (pF st)[i+1]:=pK hi;generalize (pF st)[i]=u1 at e1;generalize (pF st)[i+1]=u2 at e2;obtain⟨sa,na,p1⟩:=u1;obtain⟨sb,nb,p2⟩:=u2;have l1:(pF st).toList[i]?=some (sa,na,p1):=by rw[pW];exact e1
 have l2:(pF st).toList[i+1]?=some (sb,nb,p2):=by rw[pW];exact e2
 obtain⟨g1,g2,g3,g4,g5⟩:=h4.at l1 l2;subst g1;have ee:(((pF st).setIfInBounds i (sa,na+nb,p1)).eraseIdxIfInBounds (i+1)).toList=((pF st).toList.set i (sa,na+nb,p1)).eraseIdx (i+1):=by simp
 refine mergeG T hq h1 h2 h3 e1 e2 g2 g3 (by omega) (hr _ _ _ (kZ l1)) (hr _ _ _ (kZ l2)) fun xs g px fo uo=>h _ ⟨⟨px,h2,h3,?_,h5⟩,fun a n p hm=>?_⟩ ?_ fun k hk=>fo k (.inr (by omega))
 ·show Cov (((pF st).setIfInBounds i (sa,na+nb,p1)).eraseIdxIfInBounds (i+1)).toList 0 lo
  rw[ee];exact g5
 ·have hm':(a,n,p)∈(((pF st).setIfInBounds i (sa,na+nb,p1)).eraseIdxIfInBounds (i+1)).toList:=hm;rw[ee] at hm';rcases zo5 hm' with z|⟨j,j1,j2,j3⟩
  ·cases z;exact uo
  ·refine zn6 (fun k k1 k2=>fo k ?_) (hr a n p (kZ j3));rcases Cu j i with z|z
   ·have:=Cov.lt_ h4 j3 l1 z;exact .inl (by omega)
   ·have:=Cov.lt_ h4 l2 j3 (by omega)
    exact .inr (by omega)
 ·show(((pF st).setIfInBounds i (sa,na+nb,p1)).eraseIdxIfInBounds (i+1)).size+1=_
  have:=congrArg vH ee;rw[kT,List.length_eraseIdx,Dk,kT,if_pos hi] at this;omega
theorem zhb{lo n:Nat}{st:uO}(iv:SIvG an a₀ κ lo st)(hn:0<n)(hz:lo+n<=a₀.size)(u:UpF an (gK (arrOf st) lo) n):SIvG an a₀ κ (lo+n) (Ca st ((pF st).push (lo,n,0))):=by
 refine⟨push_iv iv.1 hn hz,fun a m p hm=>?_⟩;have hm':(a,m,p)∈((pF st).push (lo,n,0)).toList:=hm;rw[AZ] at hm';rcases kY.mp hm' with z|z
 ·exact iv.2 a m p z
 ·cases kf.mp z;exact u
theorem zkm{lo j w:Nat}{st:uO}(iv:SIvG an a₀ κ lo st):SIvG an a₀ κ lo (Ca st ((pF st).modify j fun x=>(x.1,x.2.1,w))):=by
 refine⟨power_iv iv.1,fun a m p hm=>?_⟩;have hm':(a,m,p)∈((pF st).modify j fun x=>(x.1,x.2.1,w)).toList:=hm;rw[CG] at hm';obtain⟨k,hk⟩:=pX.mp hm';rw[List.getElem?_modify] at hk
 cases e:(pF st).toList[k]? with
 |none=>rw[e] at hk;cases hk
 |some y=>
  rw[e] at hk;obtain⟨y1,y2,y3⟩:=y
  by_cases c:j=k
  ·simp only[c,if_true,uU,Qa,CO] at hk;obtain⟨rfl,rfl,_⟩:=hk;exact iv.2 _ _ _ (kZ e)
  ·simp only[c,if_false,uU,Qa,CO] at hk;have hk':(y1,y2,y3)=(a,m,p):=by simpa using hk
   cases hk';exact iv.2 _ _ _ (kZ e)
theorem SIvG.arr{lo:Nat}{st:uO}{xs:Array kc}(iv:SIvG an a₀ κ lo st)(px:xs.Perm a₀)(fx:FrL xs (arrOf st) lo):SIvG an a₀ κ lo (uZ st xs):=by
 refine⟨⟨px,iv.1.2.1,iv.1.2.2.1,iv.1.2.2.2.1,iv.1.2.2.2.2⟩,fun a n p hm=>?_⟩;have hm':(a,n,p)∈(pF st).toList:=hm;obtain⟨j,hj⟩:=pX.mp hm';have:=Cov.in_ iv.1.2.2.2.1 hj;exact zn6 (fun k k1 k2=>fx k (by omega)) (iv.2 a n p hm')
theorem runsG(T:WkT an)(hq:QR prog w A E s κ a₀ an){st:uO}{Q:Unit->uO->Prop}(iv:SIvG an a₀ κ 0 st)(h:∀st',(arrOf st').Perm a₀->jA st'=none->UpL an (arrOf st').toList->Q () st'):wpS (model prog w) A E s sortRuns' Q st:=by
 have sz:(arrOf st).size=a₀.size:=iv.1.1.size_eq;rw[sortRuns'_eq];refine kH (jL ?_);dsimp only;rw[sz];refine kH (QZ (uD (I:=fun x(c:Option Unit×Nat) st'=>c.1=none/\SIvG an a₀ κ c.2 st'/\x<=c.2) (Q:=fun c st'=>c.1=none/\SIvG an a₀ κ c.2 st'/\a₀.size<=c.2) ?_ (fun c _ z=>⟨z.1,z.2.1,pP (DS _ _) z.2.2⟩) ⟨rfl,iv,pG _⟩) ?_)
 ·rintro x ⟨r,lo⟩ st' _ hx ⟨e,iv,xl⟩;dsimp only at e iv xl⊢
  by_cases c1:lo≥a₀.size
  ·rw[if_pos c1];exact kG ⟨rfl,iv,c1⟩
  rw[if_neg c1];refine kH (countG T hq iv.1.1 (by omega) (by omega) iv.1.2.1 fun m xs hm1 hm2 px fx ux=>?_)
  dsimp only;have iv1:SIvG an a₀ κ lo (uZ st' xs):=iv.arr px fx
  by_cases c2:m<minRun' a₀.size a₀.size 0
  ·rw[if_pos c2];generalize minRun' a₀.size a₀.size 0=mr at*;refine kH (AI (QM ⟨rfl,?_⟩));refine kH (binG T hq (st:=uZ st' xs) px (by omega) iv.1.2.1 ux fun ys py fy uy=>?_)
   rw[if_neg (by simp)]
   have iv2:SIvG an a₀ κ lo (uZ st' ys):=SIvG.arr (st:=uZ st' xs) iv1 py fy;refine kH (jL ?_)
   cases eb:(pF (uZ st' ys)).back? with
   |none=>
    dsimp only;exact kH (uP (kG ⟨rfl,zhb iv2 (by omega) (by omega) uy,(by show x+1<=lo+_;omega)⟩))
   |some q=>
    obtain⟨s1,n1,p1⟩:=q;dsimp only;refine kH (QZ (uD (I:=fun _(c:Option Unit×Unit) st2=>c.1=none/\SIvG an a₀ κ lo st2/\UpF an (gK (arrOf st2) lo) (min (a₀.size-lo) mr)) (Q:=fun c st2=>c.1=none/\SIvG an a₀ κ lo st2/\UpF an (gK (arrOf st2) lo) (min (a₀.size-lo) mr)) ?_ (fun _ _ z=>z) ⟨rfl,iv2,uy⟩) ?_)
    ·rintro y ⟨r2,u⟩ st2 _ _ ⟨e2,iv2,uu⟩;dsimp only at e2 iv2 uu⊢;refine kH (jL ?_)
     by_cases c2:(pF st2).size>1
     ·rw[if_pos c2,pK (show(pF st2).size-2<(pF st2).size by omega)]
      generalize (pF st2)[(pF st2).size-2]=q3;obtain⟨q31,q32,q33⟩:=q3;dsimp only
      split
      ·exact kG ⟨rfl,iv2,uu⟩
      ·exact kH (zhh T hq iv2 (by omega) fun st3 iv3 _ fr3=>kG ⟨rfl,iv3,zn6 (fun k k1 _=>fr3 k k1) uu⟩)
     ·rw[if_neg c2];exact kG ⟨rfl,iv2,uu⟩
    ·rintro⟨r2,u⟩ st2 ⟨e2,iv2,uu⟩;dsimp only at e2 iv2 uu⊢;subst e2;exact kH (uP (kH (uP (kG ⟨rfl,zhb (zkm iv2) (by omega) (by omega) uu,(by show x+1<=lo+_;omega)⟩))))
  ·rw[if_neg c2];refine kH (jL ?_)
   cases eb:(pF (uZ st' xs)).back? with
   |none=>
    dsimp only;exact kH (uP (kG ⟨rfl,zhb iv1 (by omega) (by omega) ux,(by show x+1<=lo+_;omega)⟩))
   |some q=>
    obtain⟨s1,n1,p1⟩:=q;dsimp only;refine kH (QZ (uD (I:=fun _(c:Option Unit×Unit) st2=>c.1=none/\SIvG an a₀ κ lo st2/\UpF an (gK (arrOf st2) lo) (m)) (Q:=fun c st2=>c.1=none/\SIvG an a₀ κ lo st2/\UpF an (gK (arrOf st2) lo) (m)) ?_ (fun _ _ z=>z) ⟨rfl,iv1,ux⟩) ?_)
    ·rintro y ⟨r2,u⟩ st2 _ _ ⟨e2,iv2,uu⟩;dsimp only at e2 iv2 uu⊢;refine kH (jL ?_)
     by_cases c2:(pF st2).size>1
     ·rw[if_pos c2,pK (show(pF st2).size-2<(pF st2).size by omega)]
      generalize (pF st2)[(pF st2).size-2]=q3;obtain⟨q31,q32,q33⟩:=q3;dsimp only
      split
      ·exact kG ⟨rfl,iv2,uu⟩
      ·exact kH (zhh T hq iv2 (by omega) fun st3 iv3 _ fr3=>kG ⟨rfl,iv3,zn6 (fun k k1 _=>fr3 k k1) uu⟩)
     ·rw[if_neg c2];exact kG ⟨rfl,iv2,uu⟩
    ·rintro⟨r2,u⟩ st2 ⟨e2,iv2,uu⟩;dsimp only at e2 iv2 uu⊢;subst e2;exact kH (uP (kH (uP (kG ⟨rfl,zhb (zkm iv2) (by omega) (by omega) uu,(by show x+1<=lo+_;omega)⟩))))
 ·rintro⟨r,lo⟩ st' ⟨e,iv,xl⟩;dsimp only at e iv xl⊢;subst e;dsimp only;have el:lo=a₀.size:=by have:=iv.1.2.2.2.2;omega
  have pl:(pF st').size<=a₀.size:=by
   have:=Cov.len iv.1.2.2.2.1;rw[kT] at this;omega
  refine kH (QZ (uD (I:=fun y(c:Option Unit×Unit) st2=>c.1=none/\SIvG an a₀ κ lo st2/\((pF st2).size<=1∨(pF st2).size+y<=a₀.size)) (Q:=fun c st2=>c.1=none/\SIvG an a₀ κ lo st2/\(pF st2).size<=1) ?_ (fun c _ z=>⟨z.1,z.2.1,z.2.2.elim id fun z=>by have:=DS 0 a₀.size;omega⟩) ⟨rfl,iv,.inr pl⟩) ?_)
  ·rintro y ⟨r2,u⟩ st2 _ _ ⟨e2,iv2,ps⟩;dsimp only at e2 iv2 ps⊢;refine kH (jL ?_)
   by_cases c2:(pF st2).size<=1
   ·rw[if_pos c2];exact kG ⟨rfl,iv2,c2⟩
   ·rw[if_neg c2];exact kH (zhh T hq iv2 (ite_lt (by omega) (by omega)) fun st3 iv3 z3 _=>kG ⟨rfl,iv3,.inr (by omega)⟩)
  ·rintro⟨r2,u⟩ st2 ⟨e2,iv2,ps⟩;dsimp only at e2 iv2 ps⊢;subst e2;refine kG (h st2 iv2.1.1 iv2.1.2.2.1 ?_);have s2:(arrOf st2).size=a₀.size:=iv2.1.1.size_eq;have all:UpF an (gK (arrOf st2) 0) a₀.size:=by
    have cv:=iv2.1.2.2.2.1;have rr:=iv2.2;rw[el] at cv
    cases ep:(pF st2).toList with
    |nil=>
     rw[ep] at cv;have z:0=a₀.size:=cv;exact fun i j hij hj=>by omega
    |cons q l=>
     obtain⟨qa,qn,qp⟩:=q;have hl:l=[]:=by
      have:=congrArg vH ep;rw[kT,uA] at this;exact List.length_eq_zero_iff.mp (by omega)
     subst hl;rw[ep] at cv;obtain⟨z1,z2,z3⟩:=cv;have z3':0+qn=a₀.size:=z3;have:=rr qa qn qp (by rw[ep];exact kf.mpr rfl)
     rw[z1,show qn=a₀.size by omega] at this
     exact this
   rw[zf1 (by omega),vk,pH (by rw[kT];omega)] at all
   exact all
end
open PySem.W (kla_fn kla_obj envX tabObj CodeHd KasT kas_sort kas_ask kas_item)
theorem zkl{α β:Type}{g:α->β}:∀{l:List β}{m:List α},l.Perm (m.map g)->∃p:List α,p.Perm m/\l=p.map g:=by
 intro l m h;generalize e:m.map g=r at h
 induction h generalizing m with
 |nil=>
  cases m with
  |nil=>exact⟨[],.refl _,rfl⟩
  |cons x xs=>cases e
 |@cons x l1 l2 _ ih=>
  cases m with
  |nil=>cases e
  |cons y ys=>
   rw[pC] at e
   cases e;obtain⟨p,h1,h2⟩:=ih rfl;exact⟨y::p,h1.cons y,by rw[h2,pC]⟩
 |swap x y l=>
  cases m with
  |nil=>cases e
  |cons a as=>
   cases as with
   |nil=>cases e
   |cons b bs=>
    rw[pC,pC] at e
    cases e;exact⟨b::a::bs,.swap a b bs,rfl⟩
 |trans _ _ i1 i2=>
  obtain⟨p2,h1,h2⟩:=i2 e;obtain⟨p1,h3,h4⟩:=i1 h2.symm;exact⟨p1,h3.trans h1,h4⟩
section
variable{prog:ko}{w:pN}{A:pO}{E:kB->kC->Prop}{s:kC}{vs ks:List kB}{g:Heap}{a kS:Addr}{e e1:Nat}{f:kB}
def zmu(prog:ko)(w:pN)(A:pO)(a kS:Addr)(e1:Nat)(vs ks:List kB)(P:UQ->kC->Prop)(s:kC):Prop:=
 s.heap.get? a=some (kz "list" #[] e1)/\∃(κ:QJ)(ans:Nat->Nat->Bool),Wk ans/\(∀i j,i<ks.length->j<ks.length->ks[i]?=ks[j]?->∀k,ans i k=ans j k/\ans k i=ans k j)/\
  (2<=vs.length->∀Q':QJ->kC->Prop,Q' κ s->wpAny (model prog w) A (Co ks.toArray) Q' (fun _ _=>False) s)/\
  (2<=vs.length->∀i j,i<ks.length->j<ks.length->∀C,C (ans i j) s->wpAny (model prog w) A (keyLt' κ (ks.getD i .none) (ks.getD j .none)) C (fun _ _=>False) s)/\
  ∀p:List Nat,p.Perm (QL vs.length)->p.Pairwise (fun i j=>ans j i=false)->P (.done (.ret .none)) {s with heap:=(s.heap.update kS (kx fun _=>(#[]:Array kB))).update a (kx fun _=>(p.map fun i=>vs.getD i .none).toArray)}
open Classical in
noncomputable def kIdx(ks:List kB)(u:kB):Nat:=if h:∃i,i<ks.length/\ks[i]?=some u then Classical.choose h else 0
theorem zj7{ks:List kB}{i:Nat}{u:kB}(h:ks[i]?=some u):kIdx ks u<ks.length/\ks[kIdx ks u]?=some u:=by
 have ex:∃i,i<ks.length/\ks[i]?=some u:=⟨i,(kF.mp h).1,h⟩;unfold kIdx;rw[dif_pos ex];exact Classical.choose_spec ex
theorem qr_ofK{κ:QJ}{ans:Nat->Nat->Bool}(hc:∀i j,i<ks.length->j<ks.length->∀C,C (ans i j) s->wpAny (model prog w) A (keyLt' κ (ks.getD i .none) (ks.getD j .none)) C (fun _ _=>False) s):QR prog w A E s κ (ks.toArray.zip vs.toArray) (fun x y=>ans (kIdx ks x.1) (kIdx ks y.1)):=by
 intro x y st Q hx hy hκ h;rw[lt'_eq];refine kH (jL ?_);rw[hκ];obtain⟨i,hi⟩:=pX.mp (zme hx);obtain⟨j,hj⟩:=pX.mp (zme hy);obtain⟨i1,i2⟩:=zj7 hi;obtain⟨j1,j2⟩:=zj7 hj;have z:=hc _ _ i1 j1 (fun b s'=>b=ans (kIdx ks x.1) (kIdx ks y.1)/\s'=s) ⟨rfl,rfl⟩;rw[kD,kD,i2,j2] at z;refine kH (AI (vY (uS z (fun b s' e=>?_) fun _ _ z=>z.elim)));obtain⟨e1,e2⟩:=e;subst e1 e2;exact⟨rfl,kG h⟩
theorem znt{P:UQ->kC->Prop}(hl:ks.length=vs.length)(zl:vs.length<=sizeLine)(nak:a≠kS)(hk:s.heap.get? kS=some (kz "list" ks.toArray e))(h:zmu prog w A a kS e1 vs ks P s):
  wpAny (model prog w) A (EU a false vs.toArray e1 (.ref kS) ks.toArray) P E s:=by
 obtain⟨ha,κ,ans,wk,cons,hkind,hask,q⟩:=h;have z0:vs.toArray.size=vs.length:=rfl;have zz:(ks.toArray.zip vs.toArray).toList=(QL vs.length).map fun i=>(ks.getD i .none,vs.getD i .none):=by
  rw[DP];refine ve fun i=>?_;rw[kj]
  by_cases c:i<vs.length
  ·rw[gX c,kK (by simp[hl,c])]
   simp[List.getElem_zip,kD,c,hl]
  ·rw[QD (by simp;omega),QD (by simp;omega)]
   rfl
 have tk:WkT (fun x y:kc=>ans (kIdx ks x.1) (kIdx ks y.1)):=⟨fun _=>wk.irr _,fun _ _ _ h1 h2=>wk.tr _ _ _ h1 h2,fun _ _ _ h1 h2=>wk.cut _ _ _ h1 h2⟩;have fin:∀st:uO,(arrOf st).Perm (ks.toArray.zip vs.toArray)->UpL (fun x y:kc=>ans (kIdx ks x.1) (kIdx ks y.1)) (arrOf st).toList->∃p:List Nat,p.Perm (QL vs.length)/\p.Pairwise (fun i j=>ans j i=false)/\(arrOf st).map (·.2)=(p.map fun i=>vs.getD i .none).toArray:=fun st hp hu=>by
  have h1:=gz.mp hp;rw[zz] at h1;obtain⟨p,p1,p2⟩:=zkl h1;refine⟨p,p1,?_,?_⟩
  ·rw[p2] at hu;have hu':=vf.mp hu;refine jE (fun{i j} hi hj z=>?_) hu';have bi:i<ks.length:=by rw[hl];exact Qe.mp (p1.mem_iff.mp hi)
   have bj:j<ks.length:=by rw[hl];exact Qe.mp (p1.mem_iff.mp hj)
   have gi:ks[i]?=some (ks.getD i .none):=by rw[kD,kK bi];rfl
   have gj:ks[j]?=some (ks.getD j .none):=by rw[kD,kK bj];rfl
   obtain⟨k1,k2⟩:=zj7 gi;obtain⟨l1,l2⟩:=zj7 gj;have c1:=(cons _ _ l1 bj (l2.trans gj.symm) (kIdx ks (ks.getD i .none))).1;have c2:=(cons _ _ k1 bi (k2.trans gi.symm) j).2;rw[←c2,←c1];exact z
  ·apply hV.mp
   rw[Array.toList_map,p2,QV];rfl
 unfold EU;dsimp only;simp only[pJ,if_false]
 by_cases h2:vs.length<2
 ·rw[z0,if_pos h2,if_pos h2,EQ];rw[Dd];refine kA (kL ?_);obtain⟨p,p1,p2,p3⟩:=fin (CZ general' (ks.toArray.zip vs.toArray) #[] 7 none) (Dl _) (by
   show UpL _ (ks.toArray.zip vs.toArray).toList
   have ll:(ks.toArray.zip vs.toArray).toList.length<2:=by rw[zz,kP,uN];exact h2
   generalize (ks.toArray.zip vs.toArray).toList=l at ll
   cases l with
   |nil=>exact .nil
   |cons x l=>cases l with
    |nil=>exact Qm _ _
    |cons y l=>exact absurd ll (by simp only[uA];omega))
  exact zhk (ys:=p.map fun i=>vs.getD i .none) p3 rfl (by rw[kP,p1.length_eq,uN]) zl (by omega) nak hk ha (q p p1 p2)
 ·have h2':2<=vs.length:=by omega
  rw[z0,if_neg h2,if_neg h2];refine kA (uS (hkind h2' (fun κ' s'=>κ'=κ/\s'=s) ⟨rfl,rfl⟩) (fun κ' s' hs=>?_) fun _ _ z=>z.elim);obtain⟨rfl,rfl⟩:=hs;have run:=runsG (E:=E) tk (qr_ofK (vs:=vs) (hask h2')) (st:=CZ κ' (ks.toArray.zip vs.toArray) #[] 7 none) (Q:=fun _ st'=>(arrOf st').Perm (ks.toArray.zip vs.toArray)/\jA st'=none/\UpL (fun x y:kc=>ans (kIdx ks x.1) (kIdx ks y.1)) (arrOf st').toList) ⟨⟨Dl _,rfl,rfl,rfl,pG _⟩,fun a n p hm=>by cases hm⟩ fun st' x y z=>⟨x,y,z⟩
  refine kA (uS run ?_ fun _ _ e=>e);rintro⟨⟨⟩,st⟩ s'' ⟨rfl,hp,hf,hu⟩;dsimp only at hp hf hu⊢;obtain⟨p,p1,p2,p3⟩:=fin st hp hu;exact zhk (ys:=p.map fun i=>vs.getD i .none) p3 hf (by rw[kP,p1.length_eq,uN]) zl (by omega) nak hk ha (q p p1 p2)
structure zj4(prog:ko)(w:pN)(A:pO)(a kS:Addr)(e1:Nat)(f:kB)(vs:List kB)(P:UQ->kC->Prop)(J:Nat->List kB->Nat->kC->Prop):Prop where
 store:∀i ks e s,J i ks e s->s.heap.get? kS=some (kz "list" ks.toArray e)/\ks.length=i
 turn:∀i x ks e s,vs[i]?=some x->J i ks e s->wpAny (model prog w) A (call f [x]) (fun k s'=>s'.heap.get? kS=some (kz "list" ks.toArray e)/\
  ∀c,(s'.heap.update kS (kx (·.push k))).get? kS=some (kz "list" (ks++[k]).toArray c)->J (i+1) (ks++[k]) c {s' with heap:=s'.heap.update kS (kx (·.push k))}) (fun _ _=>False) s
 fin:∀ks e s,J vs.length ks e s->zmu prog w A a kS e1 vs ks P s
theorem zhw{P:UQ->kC->Prop}{J:Nat->List kB->Nat->kC->Prop}{body:kB->PUnit->Sem (ForInStep PUnit)}(R:zj4 prog w A a kS e1 f vs P J)
  (hb:∀i x ks e(s:kC),vs[i]?=some x->J i ks e s->wpAny (model prog w) A (body x ⟨⟩) (fun r s'=>r=.yield ⟨⟩/\∃k c,J (i+1) (ks++[k]) c s') E s):
  ∀(r:List kB)(i:Nat)(ks:List kB)(e:Nat)(s:kC),i<=vs.length->vs.drop i=r->J i ks e s->wpAny (model prog w) A (forIn r Er body) (fun _ s'=>∃ks e,J vs.length ks e s') E s
 |[],i,ks,e,s,hi,hr,h=>by
  rw[gv];have e0:i=vs.length:=BU hi (gH.mp hr);subst e0;exact kL ⟨ks,e,h⟩
 |x::r,i,ks,e,s,hi,hr,h=>by
  rw[jI];have hx:vs[i]?=some x:=by
   have z:=congrArg (fun l=>l[0]?) hr
   simpa[AB] using z
  have hr2:vs.drop (i+1)=r:=by
   have z:=congrArg (List.drop 1) hr
   simpa[UL,EV] using z
  refine kA (uS (hb i x ks e s hx h) (fun q s' hq=>?_) fun _ _ z=>z);obtain⟨rfl,k,c,h2⟩:=hq;exact zhw R hb r (i+1) (ks++[k]) c s' (kF.mp hx).1 hr2 h2
theorem zm3{P:UQ->kC->Prop}{J:Nat->List kB->Nat->kC->Prop}(R:zj4 prog w A a kS e1 f vs P J)(zl:vs.length<=sizeLine)(nak:a≠kS)(h0:J 0 [] 0 s):
  wpAny (model prog w) A (Dz a f false vs.toArray e1 (.ref kS)) P E s:=by
 unfold Dz;refine kA (QM ?_);rw[CU];refine kA (uS (zhw R (fun i x ks e s' hx hJ=>?_) vs 0 [] 0 s (pG _) vk h0) (fun _ s' hd=>?_) fun _ _ z=>z)
 ·have hi:=(kF.mp hx).1;have hl:=(R.store i ks e s' hJ).2;refine kA (vY (uS (R.turn i x ks e s' hx hJ) (fun k s'' hk=>?_) fun _ _ hF=>hF.elim));obtain⟨hk1,hk2⟩:=hk;have pk:(ur ks).push k=ur (ks++[k]):=by rw[Cp]
  obtain⟨c2,hc2⟩:∃c2,(s''.heap.update kS (kx (·.push k))).get? kS=some (kz "list" (ur (ks++[k])) c2):=⟨_,by rw[←pk];exact US hk1 (·.push k)⟩
  try dsimp only
  refine kA (Uu hk1 rfl ?_ (by rw[kt];omega) (pP (UF (De ..)) (by rw[kt];omega)))
  exact kL ⟨rfl,k,c2,hk2 c2 hc2⟩
 ·obtain⟨ks,e,hJ⟩:=hd;obtain⟨hk,hl⟩:=R.store _ _ _ _ hJ
  try dsimp only
  refine kA (QQ hk rfl ?_);exact znt hl zl nak hk (R.fin ks e s' hJ)
theorem zld{n:Nat}{P:UQ->kC->Prop}(hg:Keeps g s.heap)(ga:g.objs.size<=a)(ho:s.heap.get? a=some (kz "list" vs.toArray n))(zl:vs.length<=sizeLine)
  (h:∀kS e1 h',Keeps g h'->a<kS->h'.get? a=some (kz "list" #[] e1)->h'.get? kS=some (kz "list" #[] 0)->∃J,zj4 prog w A a kS e1 f vs P J/\J 0 [] 0 {s with heap:=h'}):
  wpAny (model prog w) A (EA a f false) P E s:=by
 have k1:Keeps g (s.heap.update a (kx fun _=>(#[]:Array kB))):=hg.upd ga;obtain⟨c1,o1⟩:∃c1,(s.heap.update a (kx fun _=>(#[]:Array kB))).get? a=some (kz "list" #[] c1):=⟨_,US ho _⟩;have k3:=(k1.push (kz "tuple" vs.toArray 0)).push (kz "list" #[] 0);have o3:=kI (kz "list" #[] 0) (kI (kz "tuple" vs.toArray 0) o1);have lt:a<((s.heap.update a (kx fun _=>(#[]:Array kB))).push (kz "tuple" vs.toArray 0)).objs.size:=ki (kI _ o1);obtain⟨J,R,h0⟩:=h _ c1 _ k3 lt o3 (kh _ rfl);unfold EA;refine kA (QQ ho rfl (kA (Uu ho rfl (kA (Bq o1 rfl (kA (Bm (kA (jB (UG ?_) (pG _))) zl)))) zl (pG _))));exact zm3 (s:={s with heap:=((s.heap.update a (kx fun _=>(#[]:Array kB))).push (kz "tuple" vs.toArray 0)).push (kz "list" #[] 0)}) R zl (pL lt) h0
theorem zlc{l fa:Addr}{Q:kB->kC->Prop}(hl:s.heap.IsList l vs.toArray)(zl:vs.length<=sizeLine)
  (h:∀D kS e1 h',D=s.heap.objs.size+1->Keeps s.heap h'->D<kS->h'.get? D=some (kz "list" #[] e1)->h'.get? kS=some (kz "list" #[] 0)->∃J,zj4 prog w A.in1.in1 D kS e1 (.ref fa) vs (fun r s'=>r=.done (.ret .none)->Q (.ref D) s') J/\J 0 [] 0 {s with heap:=h'}):
  wpAny (model prog w) A (call (.builtin "sorted") [.ref l] [(pQ "key",.ref fa)]) Q E s:=by
 have k0:Keeps s.heap s.heap:=fun _ _ e=>e;have k2:=((k0.push (kz "list" #[] 0)).upd (a:=s.heap.objs.size) (f:=kx (·++vs.toArray)) (kM _)).push (kz "list" vs.toArray 0);have z2:((s.heap.push (kz "list" #[] 0)).update s.heap.objs.size (kx (·++vs.toArray))).objs.size=s.heap.objs.size+1:=by
  rw[DQ,size_push']
 have o2:(((s.heap.push (kz "list" #[] 0)).update s.heap.objs.size (kx (·++vs.toArray))).push (kz "list" vs.toArray 0)).get? (s.heap.objs.size+1)=some (kz "list" vs.toArray 0):=
  z2▸kh _ rfl
 refine BM kind_sorted plain_sorted entry_sorted (ksk_s1 _ _) ?_;unfold vn.«sorted»;refine kA (m:=checkCount _ _ _ _) (kL (kA (collect_list hl (kA (jB ?_ zl)) zl)));rw[show(({s with heap:=(s.heap.push (kz "list" #[] 0)).update s.heap.objs.size (kx (·++vs.toArray))}:kC).heap.objs.size)=s.heap.objs.size+1 from z2];refine kA (UG (CH slot_list_sort ⟨_,o2,rfl⟩ Dg ?body (ksk_l1 _ _)))
 case body=>
  show wpAny (model prog w) A.in1.in1 (vn.«list.sort» ⟨[.ref (s.heap.objs.size+1)],[(pQ "key",.ref fa)]⟩) _ _ _
  rw[ksk_t1];refine uS (zld (s:={s with heap:=((s.heap.push (kz "list" #[] 0)).update s.heap.objs.size (kx (·++vs.toArray))).push (kz "list" vs.toArray 0)}) (P:=fun r s'=>r=.done (.ret .none)/\(r=.done (.ret .none)->Q (.ref (s.heap.objs.size+1)) s')) k2 (jU _) o2 zl fun kS e1 h' kk lt ha hk=>?_) (fun r s' hq=>?_) fun _ _ z=>z
  ·obtain⟨J,R,h0⟩:=h _ kS e1 h' rfl kk lt ha hk;refine⟨J,⟨R.store,R.turn,fun ks e s' hJ=>?_⟩,h0⟩;obtain⟨f1,κ,ans,f0,f5,f2,f3,f4⟩:=R.fin ks e s' hJ;exact⟨f1,κ,ans,f0,f5,f2,f3,fun p p1 p2=>⟨rfl,f4 p p1 p2⟩⟩
  ·obtain⟨rfl,hq⟩:=hq;exact⟨_,rfl,kL ⟨_,rfl,hq rfl⟩⟩
end
open PySem.W (kla_fn kla_obj envX tabObj CodeHd KasT kas_sort kas_ask kas_item)
structure zmw(KP:KPT):Prop where
 wk:∀{H zs ans},KP H zs ans->Wk ans
 cons:∀{H zs ans},KP H zs ans->∀i j,i<zs.length->j<zs.length->zs[i]?=zs[j]?->∀k,ans i k=ans j k/\ans k i=ans k j
structure KeyRS(KP:KPT)(te:TE)(vy:V)(c':Addr)(q:Str)(vs:List V)(H:Hp)(Q:VK)(Pv:Nat->List V->Hp->Prop):Prop where
 start:Pv 0 [] H
 code:∀i zs H',Pv i zs H'->H' c'=some (zh0 c' q)
 len:∀i zs H',Pv i zs H'->zs.length=i
 turn:∀i zs H' v,vs[i]?=some v->Pv i zs H'->te [some v,some vy] H' fun k H''=>Pv (i+1) (zs++[k]) H''
 fin:∀zs H',Pv vs.length zs H'->∃ans,KP H' zs ans/\∀D(p:List Nat),H' D=none->p.Perm (QL vs.length)->p.Pairwise (fun i j=>ans j i=false)->Q (.ref D) (upd H' D (.lst (p.map fun i=>vs.getD i .non)))
theorem zkg{vs:List V}{us:List kB}(r:Vals vs us):∀{p:List Nat},(∀i,i∈p->i<vs.length)->Vals (p.map fun i=>vs.getD i .non) (p.map fun i=>us.getD i .none)
 |[],_=>.nil
 |i::p,h=>by
  have hi:=h i pD;obtain⟨u,hu,ru⟩:=r.get (kK hi);refine .cons ?_ (zkg r fun j hj=>h j (pB _ hj));show RelV (vs.getD i .non) (us.getD i .none);rw[kD,kK hi,kD,hu];exact ru
section
variable{X:Cx}{pins:List (Addr×Obj)}{σ:St}{H:Hp}{s:kC}
theorem zop{KP:KPT}{k i0:Nat}{x y ql:Str}{params:jS}{body:Expr}{sc:Scope}{fa c c' l:Addr}{pm ctv:kB}{vy:V}{vs:List V}{te:TE}{Q:VK}{Pv:Nat->List V->Hp->Prop}(I:Inv X pins σ H s)(hKP:zlj X KP)(hG:zmw KP)(hr:Room (k+2) X.A)(S:zh7 x y sc)
  (hN:X.N[i0]?=some y)(hσ:σ[i0]?=some (some vy))(hk:X.env.scope.names.lookup y=some .cell)(hcl:X.env.cells.lookup y=some c)(hfa:FpOk X pins H fa)(hfo:s.heap.get? fa=some (kla_obj "<lambda>" ql params body sc [(y,c)] pm c' ctv))
  (hbind:∀u,gq (kla_fn "<lambda>" ql params body sc [(y,c)] pm (.ref c') ctv) ⟨[u],[]⟩=pure [(x,u)])(hbody:∀(A:pO)(s:kC)(H:Hp),A.units+64<cLine->PE (zpz X.prog X.w X.K X.mg X.base x y ql sc fa (.ref c') c A X.stack s H) body te)
  (hl:H l=some (.lst vs))(zl':vs.length<=sizeLine)(R:KeyRS KP te vy c' ql vs H Q Pv):wpAny (model X.prog X.w) X.A (call (.builtin "sorted") [.ref l] [(pQ "key",.ref fa)]) (EP X pins σ Q) X.xe s:=by
 obtain⟨its,rv,pl,hz⟩:=I.list (.of hl);have len:vs.length=its.length:=rv.length;have un:=hr.un;refine zlc (vs:=its) pl.isList (by omega) fun D kS e1 h' eD kk lt hD hkS=>?_
 have sD:s.heap.objs.size<=D:=by omega
 have sK:s.heap.objs.size<=kS:=by omega
 have fD:=I.fpOk sD (I.hok.fresh sD);have fK:=I.fpOk sK (I.hok.fresh sK);have faD:fa≠D:=pL (ku (ki hfo) sD);have faK:fa≠kS:=pL (ku (ki hfo) sK);have DK:D≠kS:=pL lt;have nseq:∀(b:Array kB)(m:Nat)(v:Option kB),(kz "list" b m).data≠.cell v:=fun b m v z=>nomatch (show Ej b m=Aj v from z);have nfun:∀v,(kla_obj "<lambda>" ql params body sc [(y,c)] pm c' ctv).data≠.cell v:=fun v z=>nomatch (show Data.func _=Aj v from z);have pin3:∀{ks:List kB}{e:Nat}{H':Hp}{s':kC},Inv X pins σ H' s'->H' fa=none->H' D=none->H' kS=none->s'.heap.get? fa=some (kla_obj "<lambda>" ql params body sc [(y,c)] pm c' ctv)->s'.heap.get? D=some (kz "list" #[] e1)->s'.heap.get? kS=some (kz "list" ks.toArray e)->
   Inv X (pins++[(fa,kla_obj "<lambda>" ql params body sc [(y,c)] pm c' ctv),(D,kz "list" #[] e1),(kS,kz "list" ks.toArray e)]) σ H' s':=fun{ks e H' s'} J n1 n2 n3 o1 o2 o3=>by
  refine J.pins_of fun p hp=>?_;rcases kY.mp hp with hp|hp
  ·exact J.pin p (kN _ hp)
  ·simp only[kr,uV,or_false] at hp;rcases hp with rfl|rfl|rfl
   ·exact⟨o1,n1,hfa.2.1,hfa.2.2.1,nfun⟩
   ·exact⟨o2,n2,fD.2.1,fD.2.2.1,nseq _ _⟩
   ·exact⟨o3,n3,fK.2.1,fK.2.2.1,nseq _ _⟩
 have of3:∀{ks:List kB}{e:Nat}{H':Hp}{s':kC},Inv X (pins++[(fa,kla_obj "<lambda>" ql params body sc [(y,c)] pm c' ctv),(D,kz "list" #[] e1),(kS,kz "list" ks.toArray e)]) σ H' s'->
   Inv X pins σ H' s'/\(H' fa=none/\H' D=none/\H' kS=none)/\s'.heap.get? fa=some (kla_obj "<lambda>" ql params body sc [(y,c)] pm c' ctv)/\s'.heap.get? D=some (kz "list" #[] e1)/\s'.heap.get? kS=some (kz "list" ks.toArray e):=fun{ks e H' s'} J=>by
  have p1:=J.pin (fa,kla_obj "<lambda>" ql params body sc [(y,c)] pm c' ctv) (kN _ (kN _ (by simp)))
  have p2:=J.pin (D,kz "list" #[] e1) (kN _ (kN _ (by simp)))
  have p3:=J.pin (kS,kz "list" ks.toArray e) (kN _ (kN _ (by simp)))
  exact⟨J.unpinned,⟨p1.2.1,p2.2.1,p3.2.1⟩,p1.1,p2.1,p3.1⟩
 refine⟨fun i ks e s'=>∃H' zs,Inv X (pins++[(fa,kla_obj "<lambda>" ql params body sc [(y,c)] pm c' ctv),(D,kz "list" #[] e1),(kS,kz "list" ks.toArray e)]) σ H' s'/\Vals zs ks/\Pv i zs H',⟨fun i ks e s' hJ=>?_,fun i u ks e s' hu hJ=>?_,fun ks e s' hJ=>?_⟩,H,[],?_,.nil,R.start⟩
 ·obtain⟨H',zs,J,r,p⟩:=hJ;exact⟨(of3 J).2.2.2.2,by rw[←r.length];exact R.len _ _ _ p⟩
 ·obtain⟨H',zs,J,r,p⟩:=hJ;obtain⟨J0,⟨n1,n2,n3⟩,o1,o2,o3⟩:=of3 J;obtain⟨v,hv,ru⟩:=vals_get? rv hu;obtain⟨uy,ry,hcell⟩:=zpw J hN hσ hk hcl;have hcd:s'.heap.CodeRec (.ref c') ql:=(J.hok c' _ (R.code _ _ _ p)).1;refine uS (lam_run J J.env0.in1.in1 (hr.in1.in1) S o1 hcd (hbind u) ru ry hcell (J.freeC _ _ hcl) (hbody _ s' H' (by show X.A.units+1+1+64<cLine;omega)) (R.turn i zs H' v hv p)) (fun u' s'' hs=>?_) fun _ _ z=>z
  obtain⟨kv,H'',J',rk,p'⟩:=hs;obtain⟨J1,⟨m1,m2,m3⟩,q1,q2,q3⟩:=of3 J';refine⟨q3,fun c2 hc2=>⟨H'',zs++[kv],?_,zgd r rk,p'⟩⟩;have J2:Inv X pins σ H'' {s'' with heap:=s''.heap.update kS (kx (·.push u')),toks:=s''.toks}:=J1.turned (it:=kS) (fun b o hb e=>by rw[pg _ _ _ _ hb];exact e) m3 fK.2.1 fK.2.2.2.1 fK.2.2.2.2.1 fK.2.2.2.2.2
  exact pin3 J2 m1 m2 m3 (by show(s''.heap.update kS _).get? fa=_;rw[pg _ _ _ _ faK];exact q1) (by show(s''.heap.update kS _).get? D=_;rw[pg _ _ _ _ DK];exact q2) hc2
 ·obtain⟨H',zs,J,r,p⟩:=hJ;obtain⟨J0,⟨n1,n2,n3⟩,o1,o2,o3⟩:=of3 J;rw[←len] at p;obtain⟨ans,ok,q⟩:=R.fin zs H' p;have zl:=R.len _ _ _ p;have kl:ks.length=its.length:=by rw[←r.length,zl,len]
  obtain⟨κ,k1,k2⟩:=hKP _ _ _ _ _ _ _ J0 r ok;rw[kl] at k1 k2;have zk:zs.length=ks.length:=r.length;have kv:∀{i:Nat},i<ks.length->∃v u,zs[i]?=some v/\ks[i]?=some u/\RelV v u:=fun{i} hi=>by
   obtain⟨u,hu,ru⟩:=r.get (kK (show i<zs.length by omega))
   exact⟨_,u,kK (by omega),hu,ru⟩
  refine⟨o2,κ,ans,hG.wk ok,fun i j hi hj e=>hG.cons ok i j (by omega) (by omega) ?_,k1,fun h2 i j hi hj C hC=>?_,fun p p1 p2 _=>?_⟩
  ·obtain⟨v,u,a1,a2,a3⟩:=kv hi;obtain⟨v',u',b1,b2,b3⟩:=kv hj;rw[a2,b2] at e
   cases e;rw[a1,b1,RelV.inj a3 b3]
  ·exact k2 h2 i j C (by omega) (by omega) hC
  ·have J2:Inv X pins σ H' {s' with heap:=s'.heap.update kS (kx fun _=>(#[]:Array kB)),toks:=s'.toks}:=J0.turned (it:=kS) (fun b o hb e=>by rw[pg _ _ _ _ hb];exact e) n3 fK.2.1 fK.2.2.2.1 fK.2.2.2.2.1 fK.2.2.2.2.2
   have o4:(s'.heap.update kS (kx fun _=>(#[]:Array kB))).get? D=some (kz "list" #[] e1):=by rw[pg _ _ _ _ DK];exact o2
   rw[←len] at p1;have rp:=zkg rv (p:=p) fun i hi=>Qe.mp (p1.mem_iff.mp hi);obtain⟨c5,o5⟩:∃c5,((s'.heap.update kS (kx fun _=>(#[]:Array kB))).update D (kx fun _=>(p.map fun i=>its.getD i .none).toArray)).get? D=some (kz "list" (p.map fun i=>its.getD i .none).toArray c5):=⟨_,US o4 _⟩;exact⟨.ref D,upd H' D (.lst (p.map fun i=>vs.getD i .non)),J2.track (t':=s'.toks) ⟨n2,fD.2⟩ (fun b o hb e=>by rw[pg _ _ _ _ hb];exact e) (by rw[kP,p1.length_eq,uN];exact zl') rp o5,rfl,q D p n2 p1 p2⟩
 ·have J0:Inv X pins σ H {s with heap:=h',toks:=s.toks}:=I.kept kk;exact pin3 J0 hfa.1 (I.hok.fresh sD) (I.hok.fresh sK) (kk _ _ hfo) hD hkS
end
section
variable{X:Cx}{p pos lpos kpos:Pos}{e body:Expr}{params:jS}{sc:Scope}{x y:Str}{c c0 P:Addr}{i0 k:Nat}{te tl:TE}
def zp3(KP:KPT)(P:Addr)(lpos:Pos)(ql:Str)(i0:Nat)(te tl:TE):TE:=fun σ H Q=>zbt tl tNil σ H fun xs H1=>∃l vs vy,xs=[.ref l]/\H1 l=some (.lst vs)/\vs.length<=sizeLine/\σ[i0]?=some (some vy)/\zah H1 P lpos ql/\
 ∀c' H2,zdc P H1 H2->zah H2 P lpos ql->H2 c'=some (zh0 c' ql)->∃Pv,KeyRS KP te vy c' ql vs H2 Q Pv
theorem zmb{KP:KPT}(hKP:zlj X KP)(hG:zmw KP)(hr:Room (k+2) X.A)(hg:Gl X "sorted")(hm:X.mg "sorted"=none)(ha:PA X [e] (zbt tl tNil))(S:zh7 x y sc)(hN:X.N[i0]?=some y)(hk:X.env.scope.names.lookup y=some .cell)(hcl:X.env.cells.lookup y=some c)
  (hclos:BF sc X.env=pure [(y,c)])(hdef:Dx params X.env=([],[]))(hcode:X.env.code=.ref c0)(C:CodeHd X.base c0 P)(hB:X.base.BuiltinsAt X.mg P)
  (hbind:∀(pm cd ctv u:kB),gq (kla_fn "<lambda>" (X.env.qual++"<lambda>") params body sc [(y,c)] pm cd ctv) ⟨[u],[]⟩=pure [(x,u)])
  (hbody:∀(fa c':Addr)(A:pO)(s:kC)(H:Hp),A.units+64<cLine->PE (zpz X.prog X.w X.K X.mg X.base x y (X.env.qual++"<lambda>") sc fa (.ref c') c A X.stack s H) body te)
  (he:va pos (uF [e] X.env)=(false,eval e X.env)::va pos (uF [] X.env):=by rfl)(hpl:(va pos (uF [e] X.env)).any (·.1)=false:=by rfl):
  PE X (.Call (.Name "sorted" p) [e] [⟨some "key",.Lambda params body sc lpos,kpos⟩] pos) (zp3 KP P lpos (X.env.qual++"<lambda>") i0 te tl):=by
 intro pins s σ H Q I h;refine UW (zfg I hg hm zg9 ?_);refine DY (thn (ha pos pins s σ H _ I h) fun us s1⟨vs',H1,I1,r1,q1⟩=>?_) he hpl rfl rfl;obtain⟨l,vs,vy,ev,hl,h64,hσ,ht,q⟩:=q1;subst ev;obtain⟨u,rfl,ru⟩:=vals1 r1
 cases ru;refine kws_cons (zms (C:=C) I1 hcode hB hclos hdef ht fun fa c' ctv H2 s2 I2 st lt hfo hc' ffa=>kws_nil ?_);obtain⟨Pv,R⟩:=q c' H2 st lt hc';have nl:l≠P:=fun z=>by
  obtain⟨ps,hP,_⟩:=ht;rw[z,hP] at hl
  cases hl
 exact zop I2 hKP hG hr S hN hσ hk hcl ffa hfo (fun u=>hbind _ _ _ u) (hbody fa c') (st l _ nl hl) h64 R
end
section
variable{prog:ko}{w:pN}{A:pO}{E:kB->kC->Prop}{s:kC}{K:Type}[DecidableEq K](kd:HeapKind prog w K)
theorem sdG_heap{d a:Addr}{xs:List (K×Addr×kB)}{k:K}{v:kB}{Q:kB->kC->Prop}(hu:kd.room A)(hkey:kd.is s.heap k a)(hm:s.heap.DictOfH kd d xs)(hz:xs.length<=sizeLine)
  (q1:∀p,atKey xs k=some p->Q p.2 {s with toks:=s.toks+kd.draws k})
  (q2:atKey xs k=none->∀h',h'.DictOfH kd d (Cq xs k a v)->vJ d s.heap h'->Q v {s with heap:=h',toks:=s.toks+kd.draws k}):
  wpAny (model prog w) A (By d (.ref a) v) Q E s:=by
 obtain⟨o,es,ep,ho,hc,hd,he,his,hn⟩:=hm;unfold By;refine UG (kA (kd.pyHash hu hkey (kA (wpAny_dictFind_heap (s:={s with toks:=s.toks+kd.draws k}) hu hkey ho hd he his hn (fun hno=>?_) fun j p hj=>?_))))
 ·have an:=atKey_none_of_get hno;have hnot:k∉xs.map (·.1):=not_mem_keys_of_get hno;refine kA (QM (kA (wpAny_updateDictKeys (hz:=by have e:=size_of_entries he;omega) (s:={s with toks:=s.toks+kd.draws k}) ho hd (kL (q2 an _ ⟨_,_,ep+1,QB _ ho (Obj.isFreed_of_dict (Bz hd _)),hc.mapDictKeys _,Bz hd _,?_,?_,?_⟩ (Qz ..))))))
  ·rw[Da an]
   simp[he,Dq]
  ·rw[Da an];intro x hx;rcases kY.mp hx with y|y
   ·exact kd.keeps (his x y) ho hd (Qz ..)
   ·rw[kf.mp y];exact kd.keeps hkey ho hd (Qz ..)
  ·rw[Da an,uK,jl];refine⟨hn,by simp,fun x hx y hy e=>hnot ?_⟩
   have y':y=k:=by simpa using hy
   rw[←y',←e];exact hx
 ·refine kA (jh (s:={s with toks:=s.toks+kd.draws k}) ho hd ?_);rw[entry_at he j,hj];exact kA (QM (kL (q1 p (atKey_of_get hn hj))))
theorem zpc{d a:Addr}(hd:(d==ul)=false)(v:kB):MeetsIn prog w (vn.«dict.setdefault» ⟨[.ref d,.ref a,v],[]⟩) (fun A R s=>kd.room A.in1/\∃k xs,kd.is s.heap k a/\s.heap.DictOfH kd d xs/\xs.length<=sizeLine/\
  (∀p,atKey xs k=some p->R (.ok (.ret p.2)) {s with toks:=s.toks+kd.draws k})/\
  (atKey xs k=none->∀h',h'.DictOfH kd d (Cq xs k a v)->vJ d s.heap h'->R (.ok (.ret v)) {s with heap:=h',toks:=s.toks+kd.draws k})):=
 .of_wp fun A R s⟨hu,k,xs,hkey,hm,hz,h1,h2⟩=>by
  unfold vn.«dict.setdefault» Builtin.Dict.keyAndDefault;refine kA (kA (Bb hm.typeIs ?_));show wpAny _ _ (pure (d,pz a,some v)) _ _ s;refine kL ?_;show wpAny _ _ (if(d==ul)=true then _ else(By d (pz a) v>>=_)) _ _ s;rw[if_neg (by rw[hd];decide)]
  exact kA (sdG_heap kd hu hkey hm hz (fun p hp=>kL ⟨p.2,rfl,h1 p hp⟩) fun hn h' hm' hs'=>kL ⟨v,rfl,h2 hn h' hm' hs'⟩)
end
section
variable{X:Cx}{pins:List (Addr×Obj)}{σ:St}{H:Hp}{s:kC}{P:ko}{w:pN}
theorem zq5{kvs:List N3}{xs:List (K2×Addr×kB)}(rel:KNp kvs xs){k:K2}(hn:atKey xs k=none):valN kvs k=none:=by
 have rv:=rel.val k;rw[hn] at rv
 cases hv:valN kvs k with
 |none=>rfl
 |some v=>rw[hv] at rv;exact rv.elim
def rSDN(P:ko)(w:pN)(a:Addr)(y z:V)(H:Hp)(Q:VK):Prop:=∃kvs k b,H a=some (nD P w a kvs)/\KN H kvs/\y=.ref b/\NK H b k/\kvs.length<sizeLine/\(∀v,valN kvs k=some v->Q v H)/\(valN kvs k=none->Q z (upd H a (nD P w a (putN kvs k b z))))
theorem zk2{A:pO}{E:kB->kC->Prop}{a:Addr}{y z:V}{u r:kB}{Q:VK}(hP:X.prog=P)(hw:X.w=w)(hu:A.units+64<cLine)(I:Inv X pins σ H s)(g:rSDN P w a y z H Q)(ry:RelV y u)(rz:RelV z r):
  wpAny (model X.prog X.w) A (call (.builtin "dict.setdefault") [.ref a,u,r]) (EP X pins σ Q) E s:=by
 subst hP hw;obtain⟨kvs,k,b,e,kn,rfl,nk,l,q1,q2⟩:=g
 cases(show u=pz b from ry);obtain⟨zz,hd,xs,rel,dd⟩:=nd_rd I.hok (.inl e) kn;have hz:xs.length<=sizeLine:=by rw[←gA rel];exact zz
 have hl:(putN kvs k b z).length<=sizeLine:=by have:=zmn kvs k b z;omega
 obtain⟨⟨_,_,nd,_⟩,_⟩:=I.hok a _ e;refine call_meetsIn gT dd.typeIs PySem.F.entry_dict_setdefault (PySem.F.args_dict_setdefault_3 _ _ _) (zpc (zeg (zbq X.prog X.w)) hd r) ⟨zjs (by omega),k,xs,ziy I.hok nk,dd,hz,fun p hp=>?_,fun hn h' dd' hs=>?_⟩
 ·have rv:=rel.val k;rw[hp] at rv
  cases hv:valN kvs k with
  |none=>rw[hv] at rv;exact rv.elim
  |some v=>
   rw[hv] at rv;exact⟨v,H,I.tok _,rv,q1 v hv⟩
 ·have he:∃q,h'.get? a=some q:=let⟨q,_,_,hq,_⟩:=dd';⟨q,hq⟩;exact⟨z,upd H a (nD X.prog X.w a (putN kvs k b z)),zl5 I (by rw[e];exact AC) hs he (nd_ok hl hd (zid nd) (rel.put k rz) dd'),rz,q2 (zq5 rel hn)⟩
theorem isN_at{a:Addr}{kvs:List N3}(I:Inv X pins σ H s)(e:H a=some (nD X.prog X.w a kvs)):
  s.TypeIs (.ref a) "dict"/\(∀b,pz a=.ref b->∃ob,s.heap.get? b=some ob/\ob.dict=none)/\(a==ul)=false:=by
 obtain⟨⟨hd,_,_,_,_,ob,es,ep,h1,h2,_⟩,_⟩:=I.hok a _ e;exact⟨⟨ob,h1,h2.1⟩,fun b q=>by cases q;exact⟨ob,h1,h2.2.1⟩,hd⟩
variable{o e f i:Expr}{td ty tx:TE}{apos cpos pos:Pos}
def tNSd(P:ko)(w:pN)(td ty tx:TE):TE:=fun σ H Q=>td σ H fun x H1=>∃a,x=.ref a/\(∃kvs,H1 a=some (nD P w a kvs))/\ty σ H1 fun y H2=>tx σ H2 fun z H3=>rSDN P w a y z H3 Q
theorem pe_nsd(hP:X.prog=P)(hw:X.w=w)(hu:X.A.units+64<cLine)(ho:PE X o td)(he:PE X e ty)(hf:PE X f tx)(m:M2 X o "setdefault" apos e f cpos):PE X (.Call (.Attribute o "setdefault" apos) [e,f] [] cpos) (tNSd P w td ty tx):=by
 subst hP hw;intro pins s σ H Q I h;refine wpAny_Call_method m.base m.few m.line PySem.F.plainAttrs_dict gT PySem.F.type_dict_setdefault (thn (ho pins s σ H _ I h) fun u s1⟨x,H1,I1,rx,a,ex,⟨kvs,d⟩,q1⟩=>?_);subst ex;obtain rfl:u=pz a:=rx;obtain⟨t1,t2,_⟩:=isN_at I1 d;refine⟨t1,t2,?_⟩;rw[m.trees];exact BE rfl (Bi (jM (thn (he pins s1 σ H1 _ I1 q1) fun iv s2⟨y,H2,I2,ry,q2⟩=>jM (thn (hf pins s2 σ H2 _ I2 q2) fun fv s3⟨z,H3,I3,rz,g⟩=>AW (zk2 rfl rfl hu I3 g ry rz)))))
def tNGet(P:ko)(w:pN)(td ty:TE):TE:=fun σ H Q=>td σ H fun x H1=>ty σ H1 fun y H2=>∃a kvs b k v,x=.ref a/\y=.ref b/\H2 a=some (nD P w a kvs)/\KN H2 kvs/\NK H2 b k/\valN kvs k=some v/\Q v H2
theorem pe_nget(hP:X.prog=P)(hw:X.w=w)(hu:X.A.units+64<cLine)(ho:PE X o td)(hi:PE X i ty)(hs:NoSl i):PE X (.Subscript o i pos) (tNGet P w td ty):=by
 subst hP hw;intro pins s σ H Q I h;refine zpd AO.lookup hs (thn (ho pins s σ H _ I h) fun u s1⟨x,H1,I1,rx,q1⟩=>thn (hi pins s1 σ H1 _ I1 q1) fun iv s2⟨y,H2,I2,ry,a,kvs,b,k,v,ex,ey,e,kn,nk,hv,q2⟩=>?_);subst ex ey;obtain rfl:u=pz a:=rx;obtain rfl:iv=pz b:=ry;obtain⟨zz,hd,xs,rel,dd⟩:=nd_rd I2.hok (.inl e) kn;have rv:=rel.val k;rw[hv] at rv
 cases ha:atKey xs k with
 |none=>rw[ha] at rv;exact rv.elim
 |some p=>
  rw[ha] at rv;exact⟨dd.typeIs,CV (zjs (by omega)) (ziy I2.hok nk) dd ha ⟨v,H2,I2.tok _,rv,q2⟩⟩
def rListN(P:ko)(w:pN):List V->Hp->VK->Prop:=fun xs H Q=>∃d kvs,xs=[.ref d]/\H d=some (nD P w d kvs)/\∀l,H l=none->Q (.ref l) (upd H l (.lst (kvs.map fun p=>.ref p.2.1)))
theorem zny(hP:X.prog=P)(hw:X.w=w)(hc:X.calm=true):zdk X (.type "list") (rListN P w):=by
 subst hP hw;intro pins s σ H xs us Q I r h;obtain⟨d,kvs,rfl,e,q⟩:=h;obtain⟨u,rfl,rx⟩:=vals1 r
 cases rx;obtain⟨⟨hd,z,_,xs,rel,o,es,ep,ho,hx,hdat,he⟩,_⟩:=I.hok d _ e;have ek:=rel.keys.2;have hk:es.toList.map (·.key)=(kvs.map fun p=>p.2.1).map pz:=by
  rw[he,QV,←ek,QV];rfl
 have ls:es.size=kvs.length:=by
  have:=congrArg vH hk
  simpa using this
 refine ze1 (I.ok.hd hc) hd ho hx.1 hdat (fun h' tk acc' c' kp hS hacc=>?_) (by omega)
 have ea:acc'.toList=(kvs.map fun p=>p.2.1).map pz:=by
  rw[←hk];refine ve fun j=>?_;rw[kj,pW,pW];have ha:acc'.size=es.size:=hacc.1
  by_cases hj:j<es.size
  ·have hj':j<acc'.size:=by omega
   obtain⟨e,e1,e2⟩:=hacc.2 j acc'[j] (pK hj');rw[pK hj',e1,e2];rfl
  ·rw[QU (by omega),QU (by omega)]
   rfl
 have em:(kvs.map fun p=>V.ref p.2.1)=(kvs.map fun p=>p.2.1).map V.ref:=by rw[QV];rfl
 refine⟨.ref s.heap.objs.size,_,I.laid (t':=tk) kp (kM _) (o:=.lst (kvs.map fun p=>V.ref p.2.1)) ⟨by rw[kP];exact z,acc'.toList,c',by rw[em];exact zis ea,by simpa using hS⟩,rfl,q _ (I.hok.fresh (kM _))⟩
end
theorem sto_K:STO ltK:=by
 have e:ltK=lt2:=by
  funext a b
  unfold ltK lt2 lexB
  by_cases h:a.1=b.1
  ·rw[if_pos h,if_pos h]
   by_cases h2:a.2=b.2
   ·rw[if_pos h2];exact(decide_eq_false (by omega)).symm
   ·rw[if_neg h2]
  ·rw[if_neg h,if_neg h]
 rw[e];exact sto2
theorem zrx:zmw KPp:=by
 refine⟨fun{H zs ans} h=>?_,fun{H zs ans} h i j hi hj e k=>?_⟩
 ·obtain⟨kp,_,rfl⟩:=h;exact Wk.of sto_K kp
 ·obtain⟨kp,ok,rfl⟩:=h;obtain⟨q,e1,h1⟩:=ok i hi;obtain⟨q',e2,h2⟩:=ok j hj;rw[e,e2] at e1
  cases e1;rw[h1] at h2;have:kp i=kp j:=by
   injection h2 with h2
   injection h2 with h2
   injection h2 with x1 h2
   injection h2 with x2 _
   injection x1 with x1
   injection x2 with x2
   exact EC x1 x2
  show ltK (kp i) (kp k)=ltK (kp j) (kp k)/\ltK (kp k) (kp i)=ltK (kp k) (kp j)
  rw[this];exact⟨rfl,rfl⟩
theorem zh6(x y:Int×Int)(xs ys:List (Int×Int)):ltL (x::xs) (y::ys)=if x=y then ltL xs ys else lt2 x y:=by rw[ltL,lex2]
theorem ltL_tr:∀(a b c:List (Int×Int)),ltL a b=true->ltL b c=true->ltL a c=true
 |[],[],[],_,h2=>h2
 |[],_::_,[],_,h2=>by rw[ltL] at h2;cases h2
 |[],_,_::_,_,_=>by rw[ltL];exact decide_eq_true (Cz _)
 |_::_,[],_,h1,_=>by rw[ltL] at h1;cases h1
 |_::_,_::_,[],_,h2=>by rw[ltL] at h2;cases h2
 |x::xs,y::ys,z::zs,h1,h2=>by
  rw[zh6] at*
  by_cases e1:x=y
  ·rw[if_pos e1] at h1
   by_cases e2:y=z
   ·rw[if_pos e2] at h2;rw[if_pos (e1.trans e2)];exact ltL_tr xs ys zs h1 h2
   ·rw[if_neg e2] at h2;rw[e1,if_neg e2];exact h2
  ·rw[if_neg e1] at h1
   by_cases e2:y=z
   ·rw[←e2,if_neg e1];exact h1
   ·rw[if_neg e2] at h2;have t:=sto2.tr _ _ _ h1 h2;rw[if_neg (fun e=>by rw[e,sto2.irr] at t;cases t)]
    exact t
theorem zsp:∀(a b:List (Int×Int)),a≠b->ltL a b=true∨ltL b a=true
 |[],[],n=>absurd rfl n
 |[],_::_,_=>.inl (by rw[ltL];exact decide_eq_true (Cz _))
 |_::_,[],_=>.inr (by rw[ltL];exact decide_eq_true (Cz _))
 |x::xs,y::ys,n=>by
  rw[zh6,zh6]
  by_cases e:x=y
  ·rw[if_pos e,if_pos e.symm];exact zsp xs ys fun z=>n (by rw[e,z])
  ·rw[if_neg e,if_neg (fun z=>e z.symm)];exact sto2.tot _ _ e
theorem zr8:∀a:List (Int×Int),ltL a a=false
 |[]=>rfl
 |x::xs=>by rw[zh6,if_pos rfl];exact zr8 xs
theorem kpG_lsts:zmw KPl:=by
 refine⟨fun{H zs ans} h=>?_,fun{H zs ans} h i j hi hj e k=>?_⟩
 ·obtain⟨kp,_,rfl⟩:=h;exact Wk.of ⟨zr8,ltL_tr,zsp⟩ kp
 ·obtain⟨kp,ok,rfl⟩:=h;obtain⟨q,qs,e1,h1,l1,o1⟩:=ok i hi;obtain⟨q',qs',e2,h2,l2,o2⟩:=ok j hj;rw[kD,e,←kD,e2] at e1
  cases e1;rw[h1] at h2
  cases h2;have:kp i=kp j:=by
   refine DM (l1.symm.trans l2) fun n n1 n2=>?_;obtain⟨b,b1,b2⟩:=o1 n _ (kK n1);obtain⟨b',c1,c2⟩:=o2 n _ (kK n2);rw[b1] at c1
   cases c1;rw[b2] at c2
   injection c2 with c2
   injection c2 with c2
   injection c2 with x1 c2
   injection c2 with x2 _
   injection x1 with x1
   injection x2 with x2
   exact EC x1 x2
  show ltL (kp i) (kp k)=ltL (kp j) (kp k)/\ltL (kp k) (kp i)=ltL (kp k) (kp j)
  rw[this];exact⟨rfl,rfl⟩
section
variable{t u:TS}{te ta tb:TE}{c c':TT}{D:Ends}{σ:St}{H:Hp}{Q:VK}{g:TG}{gs:TGs}{a:TA}{v w x y:V}{xs l:List V}{p:Addr}{i j k:Int}{b:Bool}
def yB(v:V)(Q:Bool->Prop):Prop:=∃k,v=.bl k/\Q k
def yI(v:V)(Q:Int->Prop):Prop:=∃k,v=.int k/\Q k
def yTw(vs:List V)(Q:V->V->Prop):Prop:=∃v w,vs=[v,w]/\Q v w
def yX(xs:List V)(i:Int)(Q:V->Prop):Prop:=∃v,atI xs i=some v/\Q v
def yJ(o:Option Nat)(Q:Nat->Prop):Prop:=∃j,o=some j/\Q j
theorem yB_bl{Q:Bool->Prop}:yB (.bl b) Q=Q b:=propext ⟨fun⟨k,e,q⟩=>by cases e;exact q,fun q=>⟨_,rfl,q⟩⟩
theorem yI_int{Q:Int->Prop}:yI (.int i) Q=Q i:=propext ⟨fun⟨k,e,q⟩=>by cases e;exact q,fun q=>⟨_,rfl,q⟩⟩
theorem yX_of{Q:V->Prop}{v:V}(h:atI xs i=some v):yX xs i Q=Q v:=propext ⟨fun⟨k,e,q⟩=>by rw[h] at e;cases e;exact q,fun q=>⟨_,h,q⟩⟩
theorem yX_0{Q:V->Prop}{x0:V}:yX (x0::l) 0 Q=Q x0:=yX_of at0
theorem yX_1{Q:V->Prop}{x0 x1:V}:yX (x0::x1::l) 1 Q=Q x1:=yX_of at1
theorem yX_2{Q:V->Prop}{x0 x1 x2:V}:yX (x0::x1::x2::l) 2 Q=Q x2:=yX_of at2
theorem y_next:zpf D σ H=D.nx σ H:=rfl
theorem y_seq:tSeq t u D σ H=t {D with nx:=u D} σ H:=rfl
theorem y_ret:tRet te D σ H=te σ H D.rt:=rfl
theorem y_ifS:tIfS c t u D σ H=c σ H fun b H1=>if b=true then t D σ H1 else u D σ H1:=rfl
theorem y_asg:tAsg te g D σ H=te σ H fun x H1=>g x σ H1 D.nx:=rfl
theorem y_drop:zt7 te D σ H=te σ H fun _ H1=>D.nx σ H1:=rfl
theorem y_c:tC v σ H Q=Q v H:=rfl
theorem y_op{r:R2}:tOp r ta tb σ H Q=ta σ H fun x H1=>tb σ H1 fun y H2=>r x y H2 Q:=rfl
theorem y_un{r:V->Hp->VK->Prop}:tUn r ta σ H Q=ta σ H fun x H1=>r x H1 Q:=rfl
theorem y_rI{C:Int->Int->Prop}{g:Int->Int->V}:rI C g (.int i) (.int j) H Q=(C i j/\Q (g i j) H):=propext ⟨fun⟨a,b,e,f,q⟩=>by cases e;cases f;exact q,fun q=>⟨_,_,rfl,rfl,q⟩⟩
theorem y_rI0{g:Int->Int->V}:rI0 g (.int i) (.int j) H Q=Q (g i j) H:=propext ⟨fun⟨a,b,e,f,q⟩=>by cases e;cases f;exact q,fun q=>⟨_,_,rfl,rfl,q⟩⟩
theorem y_rU{g:Int->V}:rU g (.int i) H Q=Q (g i) H:=propext ⟨fun⟨a,e,q⟩=>by cases e;exact q,fun q=>⟨_,rfl,q⟩⟩
theorem y_eq:rEq x y H Q=(scal x y=true/\Q (.bl (decide (x=y))) H):=rfl
theorem y_ne:rNe x y H Q=(scal x y=true/\Q (.bl (!decide (x=y))) H):=rfl
section
variable{Q:Bool->Hp->Prop}
theorem y_test:zsc te σ H Q=te σ H fun x H'=>yB x fun k=>Q k H':=rfl
theorem y_B:tB te σ H Q=te σ H fun x H'=>yB x fun k=>Q k H':=rfl
theorem y_not:tNot c σ H Q=c σ H fun c H1=>Q (!c) H1:=rfl
theorem y_and:tAnd c c' σ H Q=c σ H fun b H1=>if b=true then c' σ H1 Q else Q false H1:=rfl
theorem y_or:tOr c c' σ H Q=c σ H fun b H1=>if b=true then Q true H1 else c' σ H1 Q:=rfl
theorem y_yes:tYes σ H Q=Q true H:=rfl
end
theorem y_andV:zpx ta tb σ H Q=ta σ H fun x H1=>yB x fun c=>if c=true then tb σ H1 Q else Q (.bl false) H1:=rfl
theorem y_notV:zou ta σ H Q=ta σ H fun x H1=>yB x fun c=>Q (.bl (!c)) H1:=rfl
theorem y_if:tIf c ta tb σ H Q=c σ H fun c H1=>if c=true then ta σ H1 Q else tb σ H1 Q:=rfl
theorem y_cb{r:List V->Hp->VK->Prop}:tCB r a σ H Q=a σ H fun vs H1=>r vs H1 Q:=rfl
theorem y_call{sp:Sp}{dvs:List V}{E:XK}:zm2 sp dvs E a σ H Q=a σ H fun vs H1=>sp (vs++dvs) H1 Q E:=rfl
section
variable{Q:List V->Hp->Prop}
theorem y_nil:tNil σ H Q=Q [] H:=rfl
theorem y_cons:zbt te a σ H Q=te σ H fun x H1=>a σ H1 fun xs H2=>Q (x::xs) H2:=rfl
end
theorem y_tup:tTup a σ H Q=a σ H fun xs H1=>xs.length<=sizeLine/\∀p,H1 p=none->Q (.ref p) (upd H1 p (.tup xs)):=rfl
theorem y_lst:tLst a σ H Q=a σ H fun xs H1=>xs.length<=sizeLine/\∀p,H1 p=none->Q (.ref p) (upd H1 p (.lst xs)):=rfl
section
variable{Q:St->Hp->Prop}
theorem y_gnil:gNil [] σ H Q=Q σ H:=propext ⟨fun h=>h.2,fun h=>⟨rfl,h⟩⟩
theorem y_gcons:gCons g gs (v::l) σ H Q=g v σ H fun σ' H'=>gs l σ' H' Q:=propext ⟨fun⟨a,b,e,q⟩=>by cases e;exact q,fun q=>⟨_,_,rfl,q⟩⟩
theorem y_gtup{n:Nat}:gTupH n gs (.ref p) σ H Q=match H p with|some (.tup xs)=>(xs.length=n/\gs xs σ H Q)|_=>False:=by
 refine propext ⟨fun⟨a,xs,e,h,q⟩=>?_,fun q=>?_⟩
 ·cases e;rw[h];exact q
 ·split at q
  ·exact⟨_,_,rfl,‹_›,q⟩
  ·exact q.elim
end
theorem y_ixT:rIxTH (.ref p) (.int i) H Q=match H p with|some (.tup xs)=>yX xs i fun v=>Q v H|_=>False:=by
 refine propext ⟨fun⟨a,xs,k,v,e,f,h,g,q⟩=>?_,fun q=>?_⟩
 ·cases e;cases f;rw[h];exact⟨v,g,q⟩
 ·split at q
  ·obtain⟨v,g,q⟩:=q;exact⟨_,_,_,v,rfl,rfl,‹_›,g,q⟩
  ·exact q.elim
theorem y_ixL:rIxLH (.ref p) (.int i) H Q=match H p with|some (.lst xs)=>yX xs i fun v=>Q v H|_=>False:=by
 refine propext ⟨fun⟨a,xs,k,v,e,f,h,g,q⟩=>?_,fun q=>?_⟩
 ·cases e;cases f;rw[h];exact⟨v,g,q⟩
 ·split at q
  ·obtain⟨v,g,q⟩:=q;exact⟨_,_,_,v,rfl,rfl,‹_›,g,q⟩
  ·exact q.elim
theorem y_len:rLenH [.ref p] H Q=match H p with|some (.lst ys)=>Q (.int ys.length) H|some (.tup ys)=>Q (.int ys.length) H|_=>False:=by
 refine propext ⟨fun⟨a,xs,e,h,q⟩=>?_,fun q=>?_⟩
 ·cases e;rcases h with h|h<;>(rw[h];exact q)
 ·split at q
  ·exact⟨_,_,rfl,.inl ‹_›,q⟩
  ·exact⟨_,_,rfl,.inr ‹_›,q⟩
  ·exact q.elim
theorem y_list:rListH [.ref p] H Q=match H p with|some (.lst ys)=>(∀l,H l=none->Q (.ref l) (upd H l (.lst ys)))|some (.tup ys)=>(∀l,H l=none->Q (.ref l) (upd H l (.lst ys)))|_=>False:=by
 refine propext ⟨fun⟨a,xs,e,h,q⟩=>?_,fun q=>?_⟩
 ·cases e;rcases h with h|h<;>(rw[h];exact q)
 ·split at q
  ·exact⟨_,_,rfl,.inl ‹_›,q⟩
  ·exact⟨_,_,rfl,.inr ‹_›,q⟩
  ·exact q.elim
theorem y_slH{lo hi:Option Int}:rSlH (.ref p) lo hi H Q=match H p with|some (.lst xs)=>(∀q,H q=none->Q (.ref q) (upd H q (.lst (cutV xs lo hi))))|_=>False:=by
 refine propext ⟨fun⟨a,xs,e,h,q⟩=>?_,fun q=>?_⟩
 ·cases e;rw[h];exact q
 ·split at q
  ·exact⟨_,_,rfl,‹_›,q⟩
  ·exact q.elim
theorem y_isi{T:String}:rIsiF T [x,.ty T] H Q=match tyF H x with|some S=>Q (.bl (isiB S T)) H|none=>False:=by
 refine propext ⟨fun⟨a,S,e,h,q⟩=>?_,fun q=>?_⟩
 ·cases e;rw[h];exact q
 ·split at q
  ·exact⟨_,_,rfl,‹_›,q⟩
  ·exact q.elim
theorem y_intB:rIntB [.bl b] H Q=Q (.int (if b=true then 1 else 0)) H:=propext ⟨fun⟨k,e,q⟩=>by cases e;exact q,fun q=>⟨_,rfl,q⟩⟩
theorem y_append:rAppend (.ref p) [y] H Q=match H p with|some (.lst xs)=>(xs.length<sizeLine/\Q .non (upd H p (.lst (xs++[y]))))|_=>False:=by
 refine propext ⟨fun⟨a,xs,z,e,f,h,q⟩=>?_,fun q=>?_⟩
 ·cases e;cases f;rw[h];exact q
 ·split at q
  ·exact⟨_,_,_,rfl,rfl,‹_›,q⟩
  ·exact q.elim
theorem ym_tup{o:Option HO}{Q:List V->Prop}:(match o with|some (.tup xs)=>Q xs|_=>False)=∃xs,o=some (.tup xs)/\Q xs:=by
 refine propext ⟨fun q=>?_,fun⟨xs,e,q⟩=>by subst e;exact q⟩
 split at q
 ·exact⟨_,rfl,q⟩
 ·exact q.elim
theorem ym_lst{o:Option HO}{Q:List V->Prop}:(match o with|some (.lst xs)=>Q xs|_=>False)=∃xs,o=some (.lst xs)/\Q xs:=by
 refine propext ⟨fun q=>?_,fun⟨xs,e,q⟩=>by subst e;exact q⟩
 split at q
 ·exact⟨_,rfl,q⟩
 ·exact q.elim
theorem ym_two{o:Option HO}{Q:List V->Prop}:(match o with|some (.lst xs)=>Q xs|some (.tup xs)=>Q xs|_=>False)=∃xs,(o=some (.lst xs)∨o=some (.tup xs))/\Q xs:=by
 refine propext ⟨fun q=>?_,fun⟨xs,e,q⟩=>by rcases e with e|e<;>(subst e;exact q)⟩
 split at q
 ·exact⟨_,.inl rfl,q⟩
 ·exact⟨_,.inr rfl,q⟩
 ·exact q.elim
theorem ym_ty{o:Option String}{Q:String->Prop}:(match o with|some S=>Q S|none=>False)=∃S,o=some S/\Q S:=by
 refine propext ⟨fun q=>?_,fun⟨xs,e,q⟩=>by subst e;exact q⟩
 split at q
 ·exact⟨_,rfl,q⟩
 ·exact q.elim
section
variable{Q:Option Int->Hp->Prop}
theorem y_nopart:zsd σ H Q=Q none H:=rfl
theorem y_part:tPart te σ H Q=te σ H fun x H1=>yI x fun i=>Q (some i) H1:=rfl
end
theorem y_sl{r:V->Option Int->Option Int->Hp->VK->Prop}{tl th:TO}:tSl r te tl th σ H Q=te σ H fun x H1=>tl σ H1 fun l H2=>th σ H2 fun u H3=>r x l u H3 Q:=rfl
theorem y_bm{K:kJ}{T:String}{r:V->List V->Hp->VK->Prop}:tBM K T r te a σ H Q=te σ H fun x H1=>tyV K T x H1/\a σ H1 fun xs H2=>r x xs H2 Q:=rfl
theorem y_v0:tVar 0 (some v::σ) H Q=Q v H:=propext ⟨fun⟨_,e,q⟩=>by cases e;exact q,fun q=>⟨v,rfl,q⟩⟩
theorem y_n0{a0:Option V}{Q:St->Hp->Prop}:gName 0 v (a0::σ) H Q=Q (some v::σ) H:=rfl
theorem y_v1{a0:Option V}:tVar 1 (a0::some v::σ) H Q=Q v H:=propext ⟨fun⟨_,e,q⟩=>by cases e;exact q,fun q=>⟨v,rfl,q⟩⟩
theorem y_n1{a0 a1:Option V}{Q:St->Hp->Prop}:gName 1 v (a0::a1::σ) H Q=Q (a0::some v::σ) H:=rfl
theorem y_v2{a0 a1:Option V}:tVar 2 (a0::a1::some v::σ) H Q=Q v H:=propext ⟨fun⟨_,e,q⟩=>by cases e;exact q,fun q=>⟨v,rfl,q⟩⟩
theorem y_n2{a0 a1 a2:Option V}{Q:St->Hp->Prop}:gName 2 v (a0::a1::a2::σ) H Q=Q (a0::a1::some v::σ) H:=rfl
theorem y_v3{a0 a1 a2:Option V}:tVar 3 (a0::a1::a2::some v::σ) H Q=Q v H:=propext ⟨fun⟨_,e,q⟩=>by cases e;exact q,fun q=>⟨v,rfl,q⟩⟩
theorem y_n3{a0 a1 a2 a3:Option V}{Q:St->Hp->Prop}:gName 3 v (a0::a1::a2::a3::σ) H Q=Q (a0::a1::a2::some v::σ) H:=rfl
theorem y_v4{a0 a1 a2 a3:Option V}:tVar 4 (a0::a1::a2::a3::some v::σ) H Q=Q v H:=propext ⟨fun⟨_,e,q⟩=>by cases e;exact q,fun q=>⟨v,rfl,q⟩⟩
theorem y_n4{a0 a1 a2 a3 a4:Option V}{Q:St->Hp->Prop}:gName 4 v (a0::a1::a2::a3::a4::σ) H Q=Q (a0::a1::a2::a3::some v::σ) H:=rfl
theorem y_v5{a0 a1 a2 a3 a4:Option V}:tVar 5 (a0::a1::a2::a3::a4::some v::σ) H Q=Q v H:=propext ⟨fun⟨_,e,q⟩=>by cases e;exact q,fun q=>⟨v,rfl,q⟩⟩
theorem y_n5{a0 a1 a2 a3 a4 a5:Option V}{Q:St->Hp->Prop}:gName 5 v (a0::a1::a2::a3::a4::a5::σ) H Q=Q (a0::a1::a2::a3::a4::some v::σ) H:=rfl
theorem y_v6{a0 a1 a2 a3 a4 a5:Option V}:tVar 6 (a0::a1::a2::a3::a4::a5::some v::σ) H Q=Q v H:=propext ⟨fun⟨_,e,q⟩=>by cases e;exact q,fun q=>⟨v,rfl,q⟩⟩
theorem y_n6{a0 a1 a2 a3 a4 a5 a6:Option V}{Q:St->Hp->Prop}:gName 6 v (a0::a1::a2::a3::a4::a5::a6::σ) H Q=Q (a0::a1::a2::a3::a4::a5::some v::σ) H:=rfl
theorem y_v7{a0 a1 a2 a3 a4 a5 a6:Option V}:tVar 7 (a0::a1::a2::a3::a4::a5::a6::some v::σ) H Q=Q v H:=propext ⟨fun⟨_,e,q⟩=>by cases e;exact q,fun q=>⟨v,rfl,q⟩⟩
theorem y_n7{a0 a1 a2 a3 a4 a5 a6 a7:Option V}{Q:St->Hp->Prop}:gName 7 v (a0::a1::a2::a3::a4::a5::a6::a7::σ) H Q=Q (a0::a1::a2::a3::a4::a5::a6::some v::σ) H:=rfl
theorem y_n8{a0 a1 a2 a3 a4 a5 a6 a7 a8:Option V}{Q:St->Hp->Prop}:gName 8 v (a0::a1::a2::a3::a4::a5::a6::a7::a8::σ) H Q=Q (a0::a1::a2::a3::a4::a5::a6::a7::some v::σ) H:=rfl
theorem y_n9{a0 a1 a2 a3 a4 a5 a6 a7 a8 a9:Option V}{Q:St->Hp->Prop}:gName 9 v (a0::a1::a2::a3::a4::a5::a6::a7::a8::a9::σ) H Q=Q (a0::a1::a2::a3::a4::a5::a6::a7::a8::some v::σ) H:=rfl
theorem y_n10{a0 a1 a2 a3 a4 a5 a6 a7 a8 a9 a10:Option V}{Q:St->Hp->Prop}:gName 10 v (a0::a1::a2::a3::a4::a5::a6::a7::a8::a9::a10::σ) H Q=Q (a0::a1::a2::a3::a4::a5::a6::a7::a8::a9::some v::σ) H:=rfl
theorem y_v11{a0 a1 a2 a3 a4 a5 a6 a7 a8 a9 a10:Option V}:tVar 11 (a0::a1::a2::a3::a4::a5::a6::a7::a8::a9::a10::some v::σ) H Q=Q v H:=propext ⟨fun⟨_,e,q⟩=>by cases e;exact q,fun q=>⟨v,rfl,q⟩⟩
theorem y_n11{a0 a1 a2 a3 a4 a5 a6 a7 a8 a9 a10 a11:Option V}{Q:St->Hp->Prop}:gName 11 v (a0::a1::a2::a3::a4::a5::a6::a7::a8::a9::a10::a11::σ) H Q=Q (a0::a1::a2::a3::a4::a5::a6::a7::a8::a9::a10::some v::σ) H:=rfl
theorem y_n12{a0 a1 a2 a3 a4 a5 a6 a7 a8 a9 a10 a11 a12:Option V}{Q:St->Hp->Prop}:gName 12 v (a0::a1::a2::a3::a4::a5::a6::a7::a8::a9::a10::a11::a12::σ) H Q=Q (a0::a1::a2::a3::a4::a5::a6::a7::a8::a9::a10::a11::some v::σ) H:=rfl
theorem y_n13{a0 a1 a2 a3 a4 a5 a6 a7 a8 a9 a10 a11 a12 a13:Option V}{Q:St->Hp->Prop}:gName 13 v (a0::a1::a2::a3::a4::a5::a6::a7::a8::a9::a10::a11::a12::a13::σ) H Q=Q (a0::a1::a2::a3::a4::a5::a6::a7::a8::a9::a10::a11::a12::some v::σ) H:=rfl
end
section
variable{K:kJ}{a l l1 l2:Addr}{xs ys:List V}{lo:Int}{n:Nat}{g:TG}{tb:TS}{D:Ends}{σ:St}{H:Hp}
theorem zbh(Pv:Nat->St->Hp->Prop)(h0:Pv 0 σ H)(hl:∀i σ H,i<=xs.length->Pv i σ H->SqL K H a xs)(hs:∀bk ct i x σ H,xs[i]?=some x->Pv i σ H->g x σ H fun σ2 H2=>tb {D with nx:=Pv (i+1),ct:=ct,bk:=bk} σ2 H2)(hd:∀σ H,Pv xs.length σ H->D.nx σ H):ForW (Itl K a) g tb D σ H:=for_list Pv h0 hl (fun i=>hs D.nx (Pv (i+1)) i) hd
theorem zn8(Pv:Nat->St->Hp->Prop)(h0:Pv 0 σ H)(hl:∀i σ H,i<=xs.length->Pv i σ H->SqT K H a xs)(hs:∀bk ct i x σ H,xs[i]?=some x->Pv i σ H->g x σ H fun σ2 H2=>tb {D with nx:=Pv (i+1),ct:=ct,bk:=bk} σ2 H2)(hd:∀σ H,Pv xs.length σ H->D.nx σ H):ForW (Itt K a) g tb D σ H:=for_tup Pv h0 hl (fun i=>hs D.nx (Pv (i+1)) i) hd
theorem zgq(Pv:Nat->St->Hp->Prop)(h0:Pv 0 σ H)(hs:∀bk ct i σ H,i<n->Pv i σ H->g (.int (lo+i)) σ H fun σ2 H2=>tb {D with nx:=Pv (i+1),ct:=ct,bk:=bk} σ2 H2)(hd:∀σ H,Pv n σ H->D.nx σ H):ForW (Itr lo n) g tb D σ H:=zsz Pv h0 (fun i=>hs D.nx (Pv (i+1)) i) hd
theorem for_enuO(Pv:Nat->St->Hp->Prop)(h0:Pv 0 σ H)(hl:∀i σ H,Pv i σ H->H l=some (.lst xs))(hs:∀bk ct i x T σ H,xs[i]?=some x->Pv i σ H->H T=none->g (.ref T) σ (upd H T (.tup [.int (i:Int),x])) fun σ2 H2=>tb {D with nx:=Pv (i+1),ct:=ct,bk:=bk} σ2 H2)(hd:∀σ H,Pv xs.length σ H->D.nx σ H):ForW (Ite K l) g tb D σ H:=for_enu Pv h0 hl (fun i=>hs D.nx (Pv (i+1)) i) hd
theorem znz(Pv:Nat->St->Hp->Prop)(h0:Pv 0 σ H)(hl:∀i σ H,Pv i σ H->H l1=some (.tup xs)/\H l2=some (.tup ys))(he:xs.length=ys.length)(hs:∀bk ct i x y T σ H,xs[i]?=some x->ys[i]?=some y->Pv i σ H->H T=none->g (.ref T) σ (upd H T (.tup [x,y])) fun σ2 H2=>tb {D with nx:=Pv (i+1),ct:=ct,bk:=bk} σ2 H2)(hd:∀σ H,Pv xs.length σ H->D.nx σ H):ForW (Ity K l1 l2) g tb D σ H:=zq7 Pv h0 hl he (fun i=>hs D.nx (Pv (i+1)) i) hd
end
end L2
namespace My
def G(a b:Int):Int:=(Int.gcd a b:Nat)
theorem G_nonneg(a b:Int):0<=G a b:=Int.natCast_nonneg _
theorem G_abs(a b:Int):G (if a<0 then-a else a) (if b<0 then-b else b)=G a b:=by
 unfold G
 split<;>split<;>simp[Int.gcd_neg,Int.neg_gcd]
theorem G_zero{a b:Int}(h:0<=a)(hb:b=0):a=G a b:=by
 subst hb;unfold G;rw[Int.gcd_zero_right];omega
theorem G_mod(a b:Int)(hb:0<b):G b (ED a b)=G a b:=by
 unfold G;rw[vi a (uI hb),Int.gcd_comm a b];have e:a%b+a/b*b=a:=by rw[uY];exact Int.emod_add_mul_ediv a b
 rw[←Int.gcd_add_mul_right_right b (a%b) (a/b),e]
theorem turn{c a b:Int}(h:G a b=c)(hb:0<b):0<=b/\0<=ED a b/\G b (ED a b)=c:=
 ⟨uI hb,BN a hb,by rw[G_mod a b hb,h]⟩
theorem less{a b:Int}(hb:0<b):(ED a b).toNat<b.toNat:=by
 have h0:=BN a hb;have h1:=Int.fmod_lt_of_pos a hb;omega
end My
namespace My
theorem zcl{a b:Int}(h:b ∣ a):a.fdiv b*b=a:=by
 have e:=Bf a b;have z:a.fmod b=0:=Au h;rw[z] at e;rw[uY];omega
theorem zbd{x f y:Int}(e:x*f=y)(hf:f≠0):x.natAbs<=y.natAbs:=by
 rw[←e,vE];exact Nat.le_mul_of_pos_right _ (by omega)
theorem ziq{x f y:Int}(e:x*f=y)(h:(0<f/\0<y)∨(f<0/\y<0)):0<x:=by
 rcases(by omega:0<x∨x=0∨x<0) with hx|hx|hx
 ·exact hx
 ·rw[hx,jq] at e;omega
 ·exfalso
  rcases h with⟨h1,h2⟩|⟨h1,h2⟩
  ·have:=uT hx h1;omega
  ·have:=AQ hx h1;omega
theorem zas{a b:Int}{m n:Nat}(h1:a.natAbs<2^m)(h2:b.natAbs<2^n):(a*b).natAbs<2^(m+n):=by
 rw[vE,Em];exact DT h1 h2
theorem zrr{a b:Int}{m:Nat}(h1:a.natAbs<2^m)(h2:b.natAbs<2^m):(a+b).natAbs<2^(m+1):=by
 rw[EY];omega
theorem zdv{a b:Int}{m:Nat}(h1:a.natAbs<2^m)(h2:b.natAbs<2^m):(a-b).natAbs<2^(m+1):=by
 rw[EY];omega
theorem zan{a:Int}{m n:Nat}(h:a.natAbs<2^m)(hm:m<=n):a.natAbs<2^n:=ku h (Um (by decide) hm)
end My
namespace My
end My
namespace My
end My
namespace My
def g3(a b c:Int):Nat:=Es (Es a.natAbs b.natAbs) c.natAbs
theorem G_nat(a b:Int):(G a b).natAbs=Es a.natAbs b.natAbs:=by unfold G;rw[Cc];rfl
theorem G3(a b c:Int):G (G a b) c=(g3 a b c:Int):=by
 have h:(G (G a b) c).natAbs=g3 a b c:=by rw[G_nat,G_nat];rfl
 have h0:=G_nonneg (G a b) c;omega
theorem zqe(a b c:Int):g3 c a b=g3 a b c:=by
 unfold g3;rw[Nat.gcd_assoc,Nat.gcd_comm]
theorem zky(a b c f:Int):g3 (a*f) (b*f) (c*f)=g3 a b c*f.natAbs:=by
 unfold g3;rw[vE,vE,vE,Aa,Aa]
theorem zpk{a b c:Int}(h:c≠0):0<g3 a b c:=by
 unfold g3;exact Nat.gcd_pos_of_pos_right _ (by omega)
theorem g3_da(a b c:Int):((g3 a b c:Nat):Int) ∣ a:=AJ.mpr (EM (Av _ _) (Av _ _))
theorem g3_db(a b c:Int):((g3 a b c:Nat):Int) ∣ b:=AJ.mpr (EM (Av _ _) (Ab _ _))
theorem zqt(a b c:Int):((g3 a b c:Nat):Int) ∣ c:=AJ.mpr (Ab _ _)
structure Pt(n:Nat)(x y w:Int):Prop where
 pos:0<w
 one:g3 x y w=1
 lx:x.natAbs<2^n
 ly:y.natAbs<2^n
 lw:w.natAbs<2^n
theorem Pt.ne{n:Nat}{x y w:Int}(h:Pt n x y w):w≠0:=by have:=h.pos;omega
theorem Pt.mono{m n:Nat}{x y w:Int}(h:Pt m x y w)(hm:m<=n):Pt n x y w:=⟨h.pos,h.one,zan h.lx hm,zan h.ly hm,zan h.lw hm⟩
theorem pt_of{n:Nat}{x y w f:Int}(hf:f.natAbs=g3 x y w)(hs:(0<f/\0<w)∨(f<0/\w<0))(lx:x.natAbs<2^n)(ly:y.natAbs<2^n)(lw:w.natAbs<2^n):Pt n (x.fdiv f) (y.fdiv f) (w.fdiv f):=by
 have hd:∀z:Int,((g3 x y w:Nat):Int) ∣ z->f ∣ z:=fun z h=>by
  rw[←hf] at h;exact EE.mp h
 have ex:=zcl (hd x (g3_da x y w));have ey:=zcl (hd y (g3_db x y w));have ew:=zcl (hd w (zqt x y w));have hw:w≠0:=by omega
 have fn:f≠0:=by omega
 refine⟨ziq ew hs,?_,uq (zbd ex fn) lx,uq (zbd ey fn) ly,uq (zbd ew fn) lw⟩;have e:=zky (x.fdiv f) (y.fdiv f) (w.fdiv f) f;rw[ex,ey,ew,hf] at e;have hp:=zpk (a:=x) (b:=y) hw;have e':1*g3 x y w=g3 (x.fdiv f) (y.fdiv f) (w.fdiv f)*g3 x y w:=by omega
 exact(Nat.eq_of_mul_eq_mul_right hp e').symm
def fac3(x y w:Int):Int:=if w<0 then-G (G w x) y else G (G w x) y
theorem zjf(x y w:Int):(fac3 x y w).natAbs=g3 x y w:=by
 unfold fac3;rw[G3,zqe]
 split<;>simp
theorem zi1{x y w:Int}(h:w≠0):(0<fac3 x y w/\0<w)∨(fac3 x y w<0/\w<0):=by
 unfold fac3;have hp:=zpk (a:=x) (b:=y) h;rw[G3,zqe]
 split
 ·exact .inr ⟨by omega,by omega⟩
 ·exact .inl ⟨by omega,by omega⟩
theorem zlk{x y w:Int}(h:w≠0):fac3 x y w≠0:=by rcases zi1 (x:=x) (y:=y) h with z|z<;>omega
theorem zhg(x y w z:Int)(h:((g3 x y w:Nat):Int) ∣ z):fac3 x y w ∣ z:=by
 rw[←zjf] at h;exact EE.mp h
theorem fac3_le{x y w:Int}(h:w≠0):(fac3 x y w).natAbs<=w.natAbs:=by
 rw[zjf];exact Nat.le_of_dvd (by omega) (Ab _ _)
def ptX(x y w:Int):Int:=x.fdiv (fac3 x y w)
def ptY(x y w:Int):Int:=y.fdiv (fac3 x y w)
def ptW(x y w:Int):Int:=w.fdiv (fac3 x y w)
theorem pt_mk{n:Nat}{x y w:Int}(h:w≠0)(lx:x.natAbs<2^n)(ly:y.natAbs<2^n)(lw:w.natAbs<2^n):Pt n (ptX x y w) (ptY x y w) (ptW x y w):=pt_of (zjf x y w) (zi1 h) lx ly lw
theorem zro(x y w:Int):ptX x y w*fac3 x y w=x:=zcl (zhg _ _ _ _ (g3_da x y w))
theorem zqm(x y w:Int):ptY x y w*fac3 x y w=y:=zcl (zhg _ _ _ _ (g3_db x y w))
theorem zqv(x y w:Int):ptW x y w*fac3 x y w=w:=zcl (zhg _ _ _ _ (zqt x y w))
end My
namespace My
end My
namespace My
end My
namespace My
def sgn(z:Int):Int:=if 0<z then 1 else if z<0 then-1 else 0
theorem zot{z:Int}(h:0<z):sgn z=1:=if_pos h
theorem zpo{z:Int}(h:z<0):sgn z= -1:=by unfold sgn;rw[if_neg (by omega),if_pos h]
theorem zf7:sgn 0=0:=by decide
theorem zbe(z:Int):(0<z/\sgn z=1)∨(z<0/\sgn z= -1)∨(z=0/\sgn z=0):=by
 rcases(by omega:0<z∨z<0∨z=0) with h|h|h
 ·exact .inl ⟨h,zot h⟩
 ·exact .inr (.inl ⟨h,zpo h⟩)
 ·exact .inr (.inr ⟨h,by rw[h];rfl⟩)
theorem zag{z:Int}:sgn z=0↔z=0:=by
 rcases zbe z with⟨h,e⟩|⟨h,e⟩|⟨h,e⟩<;>rw[e]<;>omega
theorem zjr{k z:Int}(hk:0<k):sgn (k*z)=sgn z:=by
 rcases zbe z with⟨h,e⟩|⟨h,e⟩|⟨h,e⟩
 ·rw[e,zot (uw hk h)]
 ·rw[e,zpo (AR hk h)]
 ·rw[h,UH]
def bef(x1 y1 w1 x2 y2 w2:Int):Bool:=if x1*w2=x2*w1 then decide (y1*w2<y2*w1) else decide (x1*w2<x2*w1)
theorem zek{a b c u v w:Int}(hu:0<u)(hv:0<v)(hw:0<w)(h1:a*v<=b*u)(h2:b*w<=c*v):a*w<=c*u/\((a*v<b*u∨b*w<c*v)->a*w<c*u):=by
 have e1:(a*v)*w<=(b*u)*w:=UB h1 (uI hw);have e2:(b*w)*u<=(c*v)*u:=UB h2 (uI hu);have i1:v*(a*w)=(a*v)*w:=by grind
 have i2:v*(c*u)=(c*v)*u:=by grind
 have i3:(b*u)*w=(b*w)*u:=by grind
 refine⟨Int.le_of_mul_le_mul_left (by omega) hv,fun h=>AS (a:=v) ?_ (uI hv)⟩
 rcases h with h|h
 ·have:=gd h hw;omega
 ·have:=gd h hu;omega
theorem bef_irr(x y w:Int):bef x y w x y w=false:=by
 unfold bef;rw[if_pos rfl];exact decide_eq_false (by omega)
theorem zcg{x1 y1 w1 x2 y2 w2:Int}:bef x1 y1 w1 x2 y2 w2=true↔(x1*w2<x2*w1∨(x1*w2=x2*w1/\y1*w2<y2*w1)):=by
 unfold bef
 split
 ·rename_i h
  rw[decide_eq_true_iff];omega
 ·rename_i h
  rw[decide_eq_true_iff];omega
theorem zca{x1 y1 w1 x2 y2 w2:Int}:bef x1 y1 w1 x2 y2 w2=false↔(x2*w1<x1*w2∨(x1*w2=x2*w1/\y2*w1<=y1*w2)):=by
 rw[←Aw,zcg];omega
theorem zqk{x1 y1 w1 x2 y2 w2 x3 y3 w3:Int}(h1:0<w1)(h2:0<w2)(h3:0<w3)(a:bef x1 y1 w1 x2 y2 w2=true)(b:bef x2 y2 w2 x3 y3 w3=true):bef x1 y1 w1 x3 y3 w3=true:=by
 rw[zcg] at a b⊢;have X:=zek (a:=x1) (b:=x2) (c:=x3) h1 h2 h3 (by omega) (by omega)
 rcases a with a|⟨a,a'⟩
 ·exact .inl (X.2 (.inl a))
 ·rcases b with b|⟨b,b'⟩
  ·exact .inl (X.2 (.inr b))
  ·have X':=zek (a:=x3) (b:=x2) (c:=x1) h3 h2 h1 (by omega) (by omega)
   have Y:=zek (a:=y1) (b:=y2) (c:=y3) h1 h2 h3 (by omega) (by omega)
   exact .inr ⟨Int.le_antisymm X.1 X'.1,Y.2 (.inl a')⟩
theorem zlq{n:Nat}{x1 y1 w1 x2 y2 w2:Int}(p:Pt n x1 y1 w1)(q:Pt n x2 y2 w2)(ex:x1*w2=x2*w1)(ey:y1*w2=y2*w1):x1=x2/\y1=y2/\w1=w2:=by
 have a:=zky x1 y1 w1 w2;have b:=zky x2 y2 w2 w1;rw[p.one,En] at a;rw[q.one,En] at b;rw[ex,ey,uY w1 w2] at a;have hw:w1=w2:=by
  have:=p.pos;have:=q.pos;omega
 subst hw;exact⟨AK p.ne ex,AK p.ne ey,rfl⟩
theorem zrb{n:Nat}{x1 y1 w1 x2 y2 w2:Int}(p:Pt n x1 y1 w1)(q:Pt n x2 y2 w2)(h:bef x1 y1 w1 x2 y2 w2=bef x2 y2 w2 x1 y1 w1):x1=x2/\y1=y2/\w1=w2:=by
 cases e:bef x1 y1 w1 x2 y2 w2 with
 |true=>
  have e':=h.symm.trans e;rw[zcg] at e e';omega
 |false=>
  have e':=h.symm.trans e;rw[zca] at e e';exact zlq p q (by omega) (by omega)
def lnA(x1 y1 w1 x2 y2 w2:Int):Int:=y1*w2-w1*y2
def lnB(x1 y1 w1 x2 y2 w2:Int):Int:=w1*x2-x1*w2
def lnC(x1 y1 w1 x2 y2 w2:Int):Int:=x1*y2-y1*x2
def det3(x1 y1 w1 x2 y2 w2 x3 y3 w3:Int):Int:=lnA x1 y1 w1 x2 y2 w2*x3+lnB x1 y1 w1 x2 y2 w2*y3+lnC x1 y1 w1 x2 y2 w2*w3
end My
namespace My
end My
namespace My
structure S6 where
 x1:Int
 y1:Int
 w1:Int
 x2:Int
 y2:Int
 w2:Int
def zl0(d:S6)(x w:Int):Bool:=if x*d.w1<d.x1*w then false else decide (x*d.w2<d.x2*w)
def abv(x y w:Int)(d:S6):Bool:=zl0 d x w&&decide (det3 d.x1 d.y1 d.w1 d.x2 d.y2 d.w2 x y w<0)
theorem sgn_diff(l:Int):(if 0<l then(1:Int) else 0)-(if l<0 then(1:Int) else 0)=sgn l:=by
 unfold sgn
 split<;>split<;>omega
theorem zng{l:Int}:sgn l<0↔l<0:=by
 rcases zbe l with⟨h,e⟩|⟨h,e⟩|⟨h,e⟩<;>rw[e]<;>omega
theorem zs7(x1 y1 w1 x2 y2 w2 x3 y3 w3:Int):x1*(y2*w3-w2*y3)-y1*(x2*w3-w2*x3)+w1*(x2*y3-y2*x3)=det3 x1 y1 w1 x2 y2 w2 x3 y3 w3:=by
 unfold det3 lnA lnB lnC;grind
end My
namespace My
theorem abv_iff{x y w:Int}{d:S6}:abv x y w d=true↔(¬x*d.w1<d.x1*w/\x*d.w2<d.x2*w/\det3 d.x1 d.y1 d.w1 d.x2 d.y2 d.w2 x y w<0):=by
 unfold abv zl0
 by_cases h:x*d.w1<d.x1*w
 ·rw[if_pos h]
  simp[h]
 ·rw[if_neg h]
  simp[h]
end My
namespace My
theorem zo9(x1 y1 w1 x2 y2 w2:Int):det3 x1 y1 w1 x2 y2 w2 x1 y1 w1=0:=by unfold det3 lnA lnB lnC;grind
theorem zlg(x1 y1 w1 x2 y2 w2:Int):det3 x1 y1 w1 x2 y2 w2 x2 y2 w2=0:=by unfold det3 lnA lnB lnC;grind
theorem bef_asym{x1 y1 w1 x2 y2 w2:Int}(h:bef x1 y1 w1 x2 y2 w2=true):bef x2 y2 w2 x1 y1 w1=false:=by
 rw[zcg] at h;rw[zca];omega
def onB(x1 y1 w1 x2 y2 w2 x3 y3 w3:Int):Bool:=if sgn (det3 x1 y1 w1 x2 y2 w2 x3 y3 w3)=0 then(!bef x3 y3 w3 x1 y1 w1&& !bef x2 y2 w2 x3 y3 w3) else false
theorem g3_one(x y:Int):g3 x y 1=1:=by unfold g3;simp
end My
namespace My
structure Q3 where
 x:Int
 y:Int
 w:Int
deriving DecidableEq
def dt(a b c:Q3):Int:=det3 a.x a.y a.w b.x b.y b.w c.x c.y c.w
def dX(a b:Q3):Int:=b.x*a.w-a.x*b.w
def dY(a b:Q3):Int:=b.y*a.w-a.y*b.w
def LP(u v:Int):Prop:=0<u∨(u=0/\0<v)
def Lt(s:Int)(a b:Q3):Prop:=LP (s*dX a b) (s*dY a b)
theorem dt_swap(a b c:Q3):dt b a c= -dt a b c:=by unfold dt det3 lnA lnB lnC;grind
theorem sc{s A B C u v w:Int}(e:A*u=B*v+C*w):A*(s*u)=B*(s*v)+C*(s*w):=by
 have:A*(s*u)=s*(A*u):=by grind
 rw[this,e]
 grind
end My
namespace My
theorem fl_lt{a b c d G:Int}(hb:0<b)(hd:0<d)(h:a*d<c*b)(hG:b*d<=G):a*G/b<c*G/d:=by
 have g0:0<=G:=EZ (uI (uw hb hd)) hG;have h0:a*G/b*b<=a*G:=Dm _ (by omega)
 have h1:=UB h0 (uI hd);have h2:G*(a*d+1)<=G*(c*b):=gJ (by omega) g0
 refine Int.lt_of_lt_of_le (Int.lt_succ _) (Bg hd (AL ?_ hb));generalize a*G/b=A at*
 calc (A+1)*d*b=A*b*d+b*d:=by grind
  _<=a*G*d+G:=Int.add_le_add h1 hG
  _=G*(a*d+1):=by grind
  _<=G*(c*b):=h2
  _=c*G*b:=by grind
theorem fl_eq{a b c d G:Int}(hb:0<b)(hd:0<d)(h:a*d=c*b):a*G/b=c*G/d:=by
 have e1:a*G/b=(a*G*d)/(b*d):=(gU (a*G) b hd).symm;have e2:c*G/d=(c*G*b)/(d*b):=(gU (c*G) d hb).symm;rw[e1,e2,uY d b]
 congr 1
 have:a*G*d=G*(a*d):=by grind
 rw[this,h]
 grind
def bq(a b:Q3):Bool:=bef a.x a.y a.w b.x b.y b.w
theorem znw{a b:Q3}:bq a b=true↔Lt 1 a b:=by
 unfold bq Lt LP dX dY;rw[zcg];omega
def PQ(n:Nat)(a:Q3):Prop:=Pt n a.x a.y a.w
theorem zr9{n:Nat}{a b:Q3}(ha:PQ n a)(hb:PQ n b)(h1:bq a b=false)(h2:bq b a=false):a=b:=by
 obtain⟨e1,e2,e3⟩:=zrb ha hb (h1.trans h2.symm);obtain⟨x,y,w⟩:=a;obtain⟨x',y',w'⟩:=b
 simp only at e1 e2 e3
 rw[e1,e2,e3]
def kyQ(g:Int)(r:Q3):Int×Int:=(r.x*(g*g)/r.w,r.y*(g*g)/r.w)
theorem ky_lt{a b:Q3}{g:Int}(ha:0<a.w)(hb:0<b.w)(ga:a.w<=g)(gb:b.w<=g)(h:bq a b=true):L2.lt2 (kyQ g a) (kyQ g b)=true:=by
 have hG:a.w*b.w<=g*g:=Int.mul_le_mul ga gb (uI hb) (EZ (uI ha) ga);unfold bq at h;rw[zcg] at h;unfold L2.lt2 L2.lexB kyQ;rcases h with h|⟨h,h'⟩
 ·have:=fl_lt ha hb h hG;rw[if_neg (by omega)]
  exact decide_eq_true this
 ·rw[if_pos (fl_eq ha hb h)];exact decide_eq_true (fl_lt ha hb h' hG)
end My
namespace Mine
open PySem L2 My
local macro_rules
  | `(tactic| simp! [$xs,*]) => do let f := fun (s : String) => (s.splitOn " ").toArray.map fun x => Lean.mkIdent x.toName; let p := f "y_next y_seq y_ret y_ifS y_asg y_drop y_c y_op y_un y_rI y_rI0 y_rU y_eq y_ne y_test y_B y_not y_and y_or y_yes y_andV y_notV y_if y_cb y_call y_nil y_cons y_tup y_lst y_gnil y_gcons y_gtup y_ixT y_ixL y_len y_list y_slH y_isi y_intB y_append y_nopart y_part y_sl y_bm yB_bl yI_int yX_0 yX_1 yX_2 y_v0 y_v1 y_v2 y_v3 y_v4 y_v5 y_v6 y_v7 y_v11 y_n0 y_n1 y_n2 y_n3 y_n4 y_n5 y_n6 y_n7 y_n8 y_n9 y_n10 y_n11 y_n12 y_n13"; let q := f "yB yI yTw yX yJ ym_tup ym_lst ym_two ym_ty gName tVar rI rI0 rU rEq rNe gTup gCons gNil L2.start rIsi rIxT rIxL cx_K tyN_non tyN_bl tyN_int tyN_str isi_ii isi_ib isi_tt scal_ii scal_bb sz0 sz1 sz2 sz3 sz4 List.map_cons List.map_nil List.length_cons List.length_nil List.replicate List.cons_append List.nil_append List.append_nil List.getElem?_cons_zero List.getElem?_cons_succ List.set_cons_zero List.set_cons_succ Option.some.injEq V.int.injEq V.bl.injEq V.ref.injEq V.ty.injEq List.cons.injEq and_true true_and exists_eq_left exists_eq_left' exists_and_left exists_and_right exists_eq exists_eq' and_assoc Nat.reduceAdd Nat.reduceSub Bool.not_true Bool.not_false Bool.false_eq_true if_true if_false reduceIte Nat.zero_add decide_true decide_false selC comp_K Option.join_some rIxTH rIxLH rLenH rIsiF at0 at1 at2 at3 at4 at5 at6 at7 HO.tup.injEq HO.lst.injEq reduceCtorEq false_or or_false tyF_non tyF_bl tyF_int tyF_str exists_const Int.reduceAdd Int.reduceMul Int.reduceSub rSlH upd_same upd_upd rIntB rListH rAppend gTupH"; `(tactic| simp only [$[↓$p:term],*, $[$q:term],*, $xs,*])
local macro_rules
  | `(tactic| dsimp! [$xs,*]) => `(tactic| simp only [List.map_cons, List.map_nil, List.length_cons, List.length_nil, List.replicate, List.cons_append, List.nil_append, Nat.reduceAdd, Nat.reduceSub, Nat.zero_add, $xs,*])
def top(i:Nat):Stmt:=PySem.Challenge.pw_acre_k21_hands.main.body.getD i (.Pass ⟨0,0,0,0⟩)
abbrev zbb:Stmt:=top 4
theorem zl8:zab ["thing"] ["thing"] (za0 zbb):=⟨rfl,rfl,rfl,by decide+kernel,rfl,by decide+kernel,by decide+kernel⟩
abbrev zd2:Stmt:=top 5
theorem zdm:zab ["one","other","great","small","rest"] ["one","other"] (za0 zd2):=⟨rfl,rfl,rfl,by decide+kernel,rfl,by decide+kernel,by decide+kernel⟩
abbrev zel:Stmt:=top 7
theorem zj3:zab ["x","y","w","factor"] ["x","y","w"] (za0 zel):=⟨rfl,rfl,rfl,by decide+kernel,rfl,by decide+kernel,by decide+kernel⟩
abbrev zdh:Stmt:=top 8
theorem zi0:zab ["P","Q","left","right"] ["P","Q"] (za0 zdh):=⟨rfl,rfl,rfl,by decide+kernel,rfl,by decide+kernel,by decide+kernel⟩
abbrev zd1:Stmt:=top 9
theorem zo1:zab ["number"] ["number"] (za0 zd1):=⟨rfl,rfl,rfl,by decide+kernel,rfl,by decide+kernel,by decide+kernel⟩
abbrev zd5:Stmt:=top 10
theorem zod:zab ["P","Q"] ["P","Q"] (za0 zd5):=⟨rfl,rfl,rfl,by decide+kernel,rfl,by decide+kernel,by decide+kernel⟩
abbrev zcs:Stmt:=top 11
theorem zns:zab ["line","P"] ["line","P"] (za0 zcs):=⟨rfl,rfl,rfl,by decide+kernel,rfl,by decide+kernel,by decide+kernel⟩
abbrev zgc:Stmt:=top 12
theorem sc_turn:zab ["P","Q","R"] ["P","Q","R"] (za0 zgc):=⟨rfl,rfl,rfl,by decide+kernel,rfl,by decide+kernel,by decide+kernel⟩
abbrev zj9:Stmt:=top 13
theorem zmf:zab ["one","other","w","x","y"] ["one","other"] (za0 zj9):=⟨rfl,rfl,rfl,by decide+kernel,rfl,by decide+kernel,by decide+kernel⟩
abbrev zg4:Stmt:=top 14
theorem sc_amid:zab ["P","Q"] ["P","Q"] (za0 zg4):=⟨rfl,rfl,rfl,by decide+kernel,rfl,by decide+kernel,by decide+kernel⟩
abbrev zb2:Stmt:=top 15
theorem zd0:zab ["points","greatest","scale","keys","P"] ["points"] (za0 zb2):=⟨rfl,rfl,rfl,by decide+kernel,rfl,by decide+kernel,by decide+kernel⟩
abbrev zb4:Stmt:=top 16
theorem zhq:zab ["points","keys"] ["points"] (za0 zb4):=⟨rfl,rfl,rfl,by decide+kernel,rfl,by decide+kernel,by decide+kernel⟩
abbrev zao:Stmt:=top 17
theorem zdy:zab ["things","points","thing","keys"] ["things"] (za0 zao):=⟨rfl,rfl,rfl,by decide+kernel,rfl,by decide+kernel,by decide+kernel⟩
abbrev zcy:Stmt:=top 19
theorem zgj:zab ["stretches","ends","S"] ["stretches"] (za0 zcy):=⟨rfl,rfl,rfl,by decide+kernel,rfl,by decide+kernel,by decide+kernel⟩
abbrev zcu:Stmt:=top 20
theorem znn:zab ["P","S"] ["P","S"] (za0 zcu):=⟨rfl,rfl,rfl,by decide+kernel,rfl,by decide+kernel,by decide+kernel⟩
abbrev zg7:Stmt:=top 21
theorem zfp:zab ["one","other","line","sides","other_line","other_sides","end","side"] ["one","other"] (za0 zg7):=⟨rfl,rfl,rfl,by decide+kernel,rfl,by decide+kernel,by decide+kernel⟩
abbrev zal:Stmt:=top 22
theorem zdq:zab ["one","other","first","second"] ["one","other"] (za0 zal):=⟨rfl,rfl,rfl,by decide+kernel,rfl,by decide+kernel,by decide+kernel⟩
abbrev zbj:Stmt:=top 24
theorem zjo:zab ["S"] ["S"] (za0 zbj):=⟨rfl,rfl,rfl,by decide+kernel,rfl,by decide+kernel,by decide+kernel⟩
abbrev ze4:Stmt:=top 25
theorem sc_above:zab ["stretches","P"] ["stretches","P"] (za0 ze4):=⟨rfl,rfl,rfl,by decide+kernel,rfl,by decide+kernel,by decide+kernel⟩
abbrev zeo:Stmt:=top 26
theorem sc_spans:zab ["S","P"] ["S","P"] (za0 zeo):=⟨rfl,rfl,rfl,by decide+kernel,rfl,by decide+kernel,by decide+kernel⟩
abbrev ze3:Stmt:=top 27
theorem zf9:zab ["S","stretches","middle","over","on","first","second"] ["S","stretches"] (za0 ze3):=⟨rfl,rfl,rfl,by decide+kernel,rfl,by decide+kernel,by decide+kernel⟩
abbrev ze5:Stmt:=top 29
theorem znd:zab ["stretches","lying"] ["stretches"] (za0 ze5):=⟨rfl,rfl,rfl,by decide+kernel,rfl,by decide+kernel,by decide+kernel⟩
abbrev zc2:Stmt:=top 30
theorem zf5:zab ["P","numbers","stretches","begins","through","ends"] ["P","numbers","stretches"] (za0 zc2):=⟨rfl,rfl,rfl,by decide+kernel,rfl,by decide+kernel,by decide+kernel⟩
abbrev zcb:Stmt:=top 31
theorem zc7:zab ["stretches","lying","number","S","P","one","other"] ["stretches"] (za0 zcb):=⟨rfl,rfl,rfl,by decide+kernel,rfl,by decide+kernel,by decide+kernel⟩
abbrev zg8:Stmt:=top 32
theorem sc_note:zab ["lying","P","number"] ["lying","P","number"] (za0 zg8):=⟨rfl,rfl,rfl,by decide+kernel,rfl,by decide+kernel,by decide+kernel⟩
abbrev zaz:Stmt:=top 33
theorem zi5:zab ["common"] ["common"] (za0 zaz):=⟨rfl,rfl,rfl,by decide+kernel,rfl,by decide+kernel,by decide+kernel⟩
abbrev zae:Stmt:=top 34
theorem zak:zab ["stretches","keys","lows","highs","lasts","pairs","standing","number","first","low","high","near"] ["stretches"] (za0 zae):=⟨rfl,rfl,rfl,by decide+kernel,rfl,by decide+kernel,by decide+kernel⟩
abbrev zda:Stmt:=top 35
theorem zcq:zab ["stretches","owners","reached","P","begins","through","ends","number"] ["stretches"] (za0 zda):=⟨rfl,rfl,rfl,by decide+kernel,rfl,by decide+kernel,by decide+kernel⟩
abbrev zay:Stmt:=top 37
theorem zi8:zab ["_law_script","_law_k"] ["_law_script","_law_k"] (za0 zay):=⟨rfl,rfl,rfl,by decide+kernel,rfl,by decide+kernel,by decide+kernel⟩
abbrev zbm:Stmt:=top 38
theorem zcr:zab ["_law_x","_law_y","_law_w","_law_d"] ["_law_x","_law_y","_law_w"] (za0 zbm):=⟨rfl,rfl,rfl,by decide+kernel,rfl,by decide+kernel,by decide+kernel⟩
abbrev zc0:Stmt:=top 39
theorem zf0:zab ["_law_cell","_law_far_here","_law_x","_law_y"] ["_law_cell","_law_far_here"] (za0 zc0):=⟨rfl,rfl,rfl,by decide+kernel,rfl,by decide+kernel,by decide+kernel⟩
abbrev zcf:Stmt:=top 40
theorem zem:zab ["_law_one","_law_two","_law_three","_law_left"] ["_law_one","_law_two","_law_three"] (za0 zcf):=⟨rfl,rfl,rfl,by decide+kernel,rfl,by decide+kernel,by decide+kernel⟩
abbrev zbk:Stmt:=top 41
theorem zix:zab ["_law_one","_law_other"] ["_law_one","_law_other"] (za0 zbk):=⟨rfl,rfl,rfl,by decide+kernel,rfl,by decide+kernel,by decide+kernel⟩
abbrev zby:Stmt:=top 42
theorem zk3:zab ["_law_one","_law_other"] ["_law_one","_law_other"] (za0 zby):=⟨rfl,rfl,rfl,by decide+kernel,rfl,by decide+kernel,by decide+kernel⟩
abbrev zbi:Stmt:=top 43
theorem zj5:zab ["_law_one","_law_other"] ["_law_one","_law_other"] (za0 zbi):=⟨rfl,rfl,rfl,by decide+kernel,rfl,by decide+kernel,by decide+kernel⟩
abbrev zb0:Stmt:=top 44
theorem zib:zab ["_law_one","_law_other"] ["_law_one","_law_other"] (za0 zb0):=⟨rfl,rfl,rfl,by decide+kernel,rfl,by decide+kernel,by decide+kernel⟩
abbrev zbx:Stmt:=top 45
theorem zdd:zab ["_law_stretches","_law_spot","_law_many","_law_one","_law_other"] ["_law_stretches","_law_spot"] (za0 zbx):=⟨rfl,rfl,rfl,by decide+kernel,rfl,by decide+kernel,by decide+kernel⟩
abbrev zdl:Stmt:=top 46
theorem zq2:zab ["_law_spot","_law_piece"] ["_law_spot","_law_piece"] (za0 zdl):=⟨rfl,rfl,rfl,by decide+kernel,rfl,by decide+kernel,by decide+kernel⟩
abbrev zcd:Stmt:=top 47
theorem zfv:zab ["_law_one","_law_other","_law_right","_law_high"] ["_law_one","_law_other"] (za0 zcd):=⟨rfl,rfl,rfl,by decide+kernel,rfl,by decide+kernel,by decide+kernel⟩
abbrev zbn:Stmt:=top 48
theorem zde:zab ["_law_script","_law_at","_law_far_here","_law_rings_here","_law_k","_law_size"] ["_law_script","_law_at","_law_far_here"] (za0 zbn):=⟨rfl,rfl,rfl,by decide+kernel,rfl,by decide+kernel,by decide+kernel⟩
abbrev zct:Stmt:=top 49
theorem zo3:zab ["_law_cell"] ["_law_cell"] (za0 zct):=⟨rfl,rfl,rfl,by decide+kernel,rfl,by decide+kernel,by decide+kernel⟩
abbrev zbz:Stmt:=top 50
theorem zco:zab ["_law_rings_here","_law_sides_here","_law_ring","_law_k","_law_one","_law_other"] ["_law_rings_here"] (za0 zbz):=⟨rfl,rfl,rfl,by decide+kernel,rfl,by decide+kernel,by decide+kernel⟩
abbrev zbf:Stmt:=top 51
theorem zbg:zab ["_law_sides_here","_law_spot","_law_many","_law_side","_law_one","_law_other"] ["_law_sides_here","_law_spot"] (za0 zbf):=⟨rfl,rfl,rfl,by decide+kernel,rfl,by decide+kernel,by decide+kernel⟩
abbrev zbs:Stmt:=top 52
theorem zdf:zab ["_law_piece","_law_sides_here","_law_middle","_law_same","_law_many"] ["_law_piece","_law_sides_here"] (za0 zbs):=⟨rfl,rfl,rfl,by decide+kernel,rfl,by decide+kernel,by decide+kernel⟩
abbrev zb3:Stmt:=top 53
theorem zdi:zab ["_law_piece","_law_stretches","_law_middle","_law_many","_law_more"] ["_law_piece","_law_stretches"] (za0 zb3):=⟨rfl,rfl,rfl,by decide+kernel,rfl,by decide+kernel,by decide+kernel⟩
abbrev zd6:Stmt:=top 54
theorem zcn:zab ["_law_script","_law_far_here","_law_stretches","_law_k","_law_one","_law_other","_law_piece","_law_owners"] ["_law_script"] (za0 zd6):=⟨rfl,rfl,rfl,by decide+kernel,rfl,by decide+kernel,by decide+kernel⟩
abbrev zgx:Stmt:=top 55
theorem zhs:zab ["_law_script","_law_sides_here","_law_handed","_law_parts","_law_piece","_law_owners","_law_found"] ["_law_script"] (za0 zgx):=⟨rfl,rfl,rfl,by decide+kernel,rfl,by decide+kernel,by decide+kernel⟩
structure FnAt(K:kJ)(mg:Str->Option kB)(x:Str)(st:Stmt)(ps:List Str)(f:Addr)(fd:UU):Prop where
 fn:Fun K x x st f fd
 bn:Binds K fd ps []
 mg:mg x=some (.ref f)
structure Txt(K:kJ)(mg:Str->Option kB)(ad:Nat->Addr)(fd:Nat->UU):Prop where
 is_whole:FnAt K mg "is_whole" zbb ["thing"] (ad 0) (fd 0)
 divisor:FnAt K mg "divisor" zd2 ["one","other"] (ad 1) (fd 1)
 point:FnAt K mg "point" zel ["x","y","w"] (ad 2) (fd 2)
 before:FnAt K mg "before" zdh ["P","Q"] (ad 3) (fd 3)
 sign_of:FnAt K mg "sign_of" zd1 ["number"] (ad 4) (fd 4)
 line_of:FnAt K mg "line_of" zd5 ["P","Q"] (ad 5) (fd 5)
 side_of:FnAt K mg "side_of" zcs ["line","P"] (ad 6) (fd 6)
 turn:FnAt K mg "turn" zgc ["P","Q","R"] (ad 7) (fd 7)
 met:FnAt K mg "met" zj9 ["one","other"] (ad 8) (fd 8)
 amid:FnAt K mg "amid" zg4 ["P","Q"] (ad 9) (fd 9)
 order_keys:FnAt K mg "order_keys" zb2 ["points"] (ad 10) (fd 10)
 in_order:FnAt K mg "in_order" zb4 ["points"] (ad 11) (fd 11)
 in_order_c:FunC K "in_order" "in_order" zb4 (ad 11) (fd 11) (ad 47) (ad 48)
 by_points:FnAt K mg "by_points" zao ["things"] (ad 12) (fd 12)
 by_points_c:FunC K "by_points" "by_points" zao (ad 12) (fd 12) (ad 49) (ad 50)
 ends_of:FnAt K mg "ends_of" zcy ["stretches"] (ad 13) (fd 13)
 lies_on:FnAt K mg "lies_on" zcu ["P","S"] (ad 14) (fd 14)
 meet:FnAt K mg "meet" zg7 ["one","other"] (ad 15) (fd 15)
 meet_on_line:FnAt K mg "meet_on_line" zal ["one","other"] (ad 16) (fd 16)
 is_upright:FnAt K mg "is_upright" zbj ["S"] (ad 17) (fd 17)
 above:FnAt K mg "above" ze4 ["stretches","P"] (ad 18) (fd 18)
 spans:FnAt K mg "spans" zeo ["S","P"] (ad 19) (fd 19)
 hands:FnAt K mg "hands" ze3 ["S","stretches"] (ad 20) (fd 20)
 stops:FnAt K mg "stops" ze5 ["stretches"] (ad 21) (fd 21)
 stop_at:FnAt K mg "stop_at" zc2 ["P","numbers","stretches"] (ad 22) (fd 22)
 lying_at:FnAt K mg "lying_at" zcb ["stretches"] (ad 23) (fd 23)
 note:FnAt K mg "note" zg8 ["lying","P","number"] (ad 24) (fd 24)
 shared_ends:FnAt K mg "shared_ends" zaz ["common"] (ad 25) (fd 25)
 near_pairs:FnAt K mg "near_pairs" zae ["stretches"] (ad 26) (fd 26)
 near_pairs_c:FunC K "near_pairs" "near_pairs" zae (ad 26) (fd 26) (ad 51) (ad 52)
 pieces:FnAt K mg "pieces" zda ["stretches"] (ad 27) (fd 27)
 law_cell_at:FnAt K mg "_law_cell_at" zay ["_law_script","_law_k"] (ad 28) (fd 28)
 law_lowest:FnAt K mg "_law_lowest" zbm ["_law_x","_law_y","_law_w"] (ad 29) (fd 29)
 law_point:FnAt K mg "_law_point" zc0 ["_law_cell","_law_far_here"] (ad 30) (fd 30)
 law_turn:FnAt K mg "_law_turn" zcf ["_law_one","_law_two","_law_three"] (ad 31) (fd 31)
 law_lefter:FnAt K mg "_law_lefter" zbk ["_law_one","_law_other"] (ad 32) (fd 32)
 law_lower:FnAt K mg "_law_lower" zby ["_law_one","_law_other"] (ad 33) (fd 33)
 law_before:FnAt K mg "_law_before" zbi ["_law_one","_law_other"] (ad 34) (fd 34)
 law_stretch:FnAt K mg "_law_stretch" zb0 ["_law_one","_law_other"] (ad 35) (fd 35)
 law_above:FnAt K mg "_law_above" zbx ["_law_stretches","_law_spot"] (ad 36) (fd 36)
 law_on:FnAt K mg "_law_on" zdl ["_law_spot","_law_piece"] (ad 37) (fd 37)
 law_amid:FnAt K mg "_law_amid" zcd ["_law_one","_law_other"] (ad 38) (fd 38)
 law_rings:FnAt K mg "_law_rings" zbn ["_law_script","_law_at","_law_far_here"] (ad 39) (fd 39)
 law_far:FnAt K mg "_law_far" zct ["_law_cell"] (ad 40) (fd 40)
 law_sides:FnAt K mg "_law_sides" zbz ["_law_rings_here"] (ad 41) (fd 41)
 law_beside:FnAt K mg "_law_beside" zbf ["_law_sides_here","_law_spot"] (ad 42) (fd 42)
 law_hands:FnAt K mg "_law_hands" zbs ["_law_piece","_law_sides_here"] (ad 43) (fd 43)
 law_by_two:FnAt K mg "_law_by_two" zb3 ["_law_piece","_law_stretches"] (ad 44) (fd 44)
 law_any:FnAt K mg "_law_any" zd6 ["_law_script"] (ad 45) (fd 45)
 law:FnAt K mg "law" zgx ["_law_script"] (ad 46) (fd 46)
 tne01:ad 48≠ad 50
 tne02:ad 48≠ad 52
 tne12:ad 50≠ad 52
 b_abs:mg "abs"=none
 b_bool:mg "bool"=none
 b_enumerate:mg "enumerate"=none
 b_int:mg "int"=none
 b_isinstance:mg "isinstance"=none
 b_len:mg "len"=none
 b_list:mg "list"=none
 b_max:mg "max"=none
 b_min:mg "min"=none
 b_range:mg "range"=none
 b_sorted:mg "sorted"=none
 b_tuple:mg "tuple"=none
 b_zip:mg "zip"=none
def zn2:Sp:=fun vs H Q _=>∃i:Int,vs=[.int i]/\Q (.bl true) H
def zif:Sp:=fun vs H Q _=>∃a b:Int,vs=[.int a,.int b]/\Q (.int (G a b)) H
def zob(a b:Int)(H₀:Hp):St->Hp->Prop:=fun σ H'=>H'=H₀/\∃(x y:Int)(r:Option V),σ=[some (.int a),some (.int b),some (.int x),some (.int y),r]/\0<=x/\0<=y/\G x y=G a b
def ze2(K:kJ):Sp:=fun vs H Q _=>∃(l:Addr)(ns:List Int)(k:Int),vs=[.ref l,.int k]/\SqL K H l (ns.map V.int)/\0<=k/\Q (.int (ns.getD k.toNat 0)) H
def PtH(n:Nat)(H:Hp)(p:Addr)(x y w:Int):Prop:=H p=some (.tup [.int x,.int y,.int w])/\Pt n x y w
theorem PtH.same{n:Nat}{H H':Hp}{p:Addr}{x y w:Int}(h:PtH n H p x y w)(g:Same H H'):PtH n H' p x y w:=⟨g _ _ h.1,h.2⟩
theorem PtH.mono{m n:Nat}{H:Hp}{p:Addr}{x y w:Int}(h:PtH m H p x y w)(hm:m<=n):PtH n H p x y w:=⟨h.1,h.2.mono hm⟩
def Bd3(n:Nat)(a b c:Int):Prop:=a.natAbs<2^n/\b.natAbs<2^n/\c.natAbs<2^n
def TB(n:Nat)(H:Hp)(p:Addr)(x y w:Int):Prop:=H p=some (.tup [.int x,.int y,.int w])/\Bd3 n x y w
theorem TB.same{n:Nat}{H H':Hp}{p:Addr}{x y w:Int}(h:TB n H p x y w)(g:Same H H'):TB n H' p x y w:=⟨g _ _ h.1,h.2⟩
theorem Bd3.mono{m n:Nat}{x y w:Int}(h:Bd3 m x y w)(hm:m<=n):Bd3 n x y w:=⟨zan h.1 hm,zan h.2.1 hm,zan h.2.2 hm⟩
theorem Pt.bd{m n:Nat}{x y w:Int}(h:Pt m x y w)(hm:m<=n:=by decide):Bd3 n x y w:=⟨zan h.lx hm,zan h.ly hm,zan h.lw hm⟩
theorem PtH.tb{m n:Nat}{H:Hp}{p:Addr}{x y w:Int}(h:PtH m H p x y w)(hm:m<=n:=by decide):TB n H p x y w:=⟨h.1,Pt.bd h.2 hm⟩
def zi2:Sp:=fun vs H Q _=>∃a b w:Int,vs=[.int a,.int b,.int w]/\w≠0/\w.natAbs<2^8000/\∀p H',Same H H'->H' p=some (.tup [.int (ptX a b w),.int (ptY a b w),.int (ptW a b w)])->Q (.ref p) H'
def sp_amid:Sp:=fun vs H Q _=>∃(p q:Addr)(x1 y1 w1 x2 y2 w2:Int),vs=[.ref p,.ref q]/\TB 1000 H p x1 y1 w1/\TB 1000 H q x2 y2 w2/\w1≠0/\w2≠0/\∀(r:Addr)(H':Hp),Same H H'->
 H' r=some (.tup [.int (ptX (x1*w2+x2*w1) (y1*w2+y2*w1) (2*w1*w2)),.int (ptY (x1*w2+x2*w1) (y1*w2+y2*w1) (2*w1*w2)),.int (ptW (x1*w2+x2*w1) (y1*w2+y2*w1) (2*w1*w2))])->Q (.ref r) H'
def zr4:Sp:=fun vs H Q _=>∃z:Int,vs=[.int z]/\Q (.int (sgn z)) H
def zp6:Sp:=fun vs H Q _=>∃(p q:Addr)(x1 y1 w1 x2 y2 w2:Int),vs=[.ref p,.ref q]/\TB 1000 H p x1 y1 w1/\TB 1000 H q x2 y2 w2/\∀(r:Addr)(H':Hp),Same H H'->
 H' r=some (.tup [.int (lnA x1 y1 w1 x2 y2 w2),.int (lnB x1 y1 w1 x2 y2 w2),.int (lnC x1 y1 w1 x2 y2 w2)])->Q (.ref r) H'
theorem zlt{x1 y1 w1 x2 y2 w2:Int}(p:Bd3 1000 x1 y1 w1)(q:Bd3 1000 x2 y2 w2):Bd3 2001 (lnA x1 y1 w1 x2 y2 w2) (lnB x1 y1 w1 x2 y2 w2) (lnC x1 y1 w1 x2 y2 w2):=
 ⟨zdv (zas p.2.1 q.2.2) (zas p.2.2 q.2.1),zdv (zas p.2.2 q.1) (zas p.1 q.2.2),zdv (zas p.1 q.2.1) (zas p.2.1 q.1)⟩
def zqq:Sp:=fun vs H Q _=>∃(l p:Addr)(a b c x y w:Int),vs=[.ref l,.ref p]/\H l=some (.tup [.int a,.int b,.int c])/\Bd3 2001 a b c/\H p=some (.tup [.int x,.int y,.int w])/\Bd3 5000 x y w/\Q (.int (sgn (a*x+b*y+c*w))) H
def sp_turn:Sp:=fun vs H Q _=>∃(p q r:Addr)(x1 y1 w1 x2 y2 w2 x3 y3 w3:Int),vs=[.ref p,.ref q,.ref r]/\TB 1000 H p x1 y1 w1/\TB 1000 H q x2 y2 w2/\TB 5000 H r x3 y3 w3/\∀H',Same H H'->Q (.int (sgn (det3 x1 y1 w1 x2 y2 w2 x3 y3 w3))) H'
def sp_met:Sp:=fun vs H Q _=>∃(p q:Addr)(a b c a' b' c':Int),vs=[.ref p,.ref q]/\H p=some (.tup [.int a,.int b,.int c])/\Bd3 2001 a b c/\H q=some (.tup [.int a',.int b',.int c'])/\Bd3 2001 a' b' c'/\
 (a*b'-b*a'=0->Q .non H)/\(a*b'-b*a'≠0->∀(r:Addr)(H':Hp),Same H H'->
  H' r=some (.tup [.int (ptX (b*c'-c*b') (c*a'-a*c') (a*b'-b*a')),.int (ptY (b*c'-c*b') (c*a'-a*c') (a*b'-b*a')),.int (ptW (b*c'-c*b') (c*a'-a*c') (a*b'-b*a'))])->Q (.ref r) H')
def zbp(H H':Hp):Prop:=∀b xs,H b=some (.tup xs)->H' b=some (.tup xs)
theorem zaf{H H':Hp}(g:Same H H'):zbp H H':=fun b xs h=>g b _ h
theorem zet{H:Hp}{D:Addr}{ys:List V}{o:HO}(h:H D=some (.lst ys)):zbp H (upd H D o):=fun b xs q=>by
 rw[za8 (ne_of q h (by intro z;cases z))]
 exact q
def StV(H:Hp)(p:Addr)(d:S6):Prop:=∃a b,H p=some (.tup [.ref a,.ref b])/\TB 1000 H a d.x1 d.y1 d.w1/\TB 1000 H b d.x2 d.y2 d.w2
def StL(H:Hp)(ys:List V)(ds:List S6):Prop:=ys.length=ds.length/\∀(j:Nat)(v:V),ys[j]?=some v->∃(p:Addr)(d:S6),v=.ref p/\ds[j]?=some d/\StV H p d
def dSt(d:S6):Bk:=.tuple [dPt d.x1 d.y1 d.w1,dPt d.x2 d.y2 d.w2]
theorem rd_stv{K:kJ}{H:Hp}{p:Addr}{d:S6}(h:StV H p d):RdD K H (dSt d) (.ref p):=by
 obtain⟨a,b,hp,ha,hb⟩:=h;unfold dSt;rw[RdD];refine⟨p,_,rfl,.of hp,?_⟩;rw[RdDs];refine⟨_,_,rfl,zfq (.of ha.1),?_⟩;rw[RdDs];refine⟨_,_,rfl,zfq (.of hb.1),?_⟩;rw[RdDs]
theorem zr1{K:kJ}{H:Hp}:∀(ys:List V)(ds:List S6),StL H ys ds->RdDs K H (ds.map dSt) ys
 |[],[],_=>by rw[vL,RdDs]
 |[],d::ds,h=>by cases h.1
 |v::ys,[],h=>by cases h.1
 |v::ys,d::ds,h=>by
  obtain⟨p,d',e,f,s⟩:=h.2 0 v rfl
  cases f;subst e;rw[pC,RdDs];exact⟨_,ys,rfl,rd_stv s,zr1 ys ds ⟨Ea h.1,fun j v z=>h.2 (j+1) v z⟩⟩
theorem rd_stl{K:kJ}{H:Hp}{l:Addr}{ys:List V}{ds:List S6}(hl:H l=some (.lst ys))(h:StL H ys ds):RdD K H (.list (ds.map dSt)) (.ref l):=by
 rw[RdD];exact⟨l,ys,rfl,.of hl,zr1 ys ds h⟩
theorem zt2(ds:List S6):uh (ds.map dSt)=true/\Qg (ds.map dSt)<=2/\Ut (ds.map dSt) (ds.map dSt)=true:=by
 induction ds with
 |nil=>simp[uh,Qg,Ut]
 |cons d ds ih=>
  obtain⟨h1,h2,h3⟩:=ih;refine⟨?_,?_,?_⟩
  ·simp[uh,dSt,dPt,Qv,h1]
  ·simp only[pC,Qg,dSt,dPt,Qw];omega
  ·simp[Ut,dSt,dPt,Qu,h3]
theorem zil(ds:List S6):Qt (.list (ds.map dSt))=true:=by
 obtain⟨h1,h2,h3⟩:=zt2 ds;unfold Qt;rw[Qv,h1,gC,Qw];exact decide_eq_true (by omega)
theorem stl_eqv(ds:List S6):Qu (.list (ds.map dSt)) (.list (ds.map dSt))=true:=by
 rw[Qu];exact(zt2 ds).2.2
def zo0:Sp:=fun vs H Q _=>∃(p:Addr)(d:S6),vs=[.ref p]/\StV H p d/\Q (.bl (decide (d.x1*d.w2=d.x2*d.w1))) H
def on3(a b p:Q3):Bool:=onB a.x a.y a.w b.x b.y b.w p.x p.y p.w
theorem Q3.ext'{a b:Q3}(h:a.x=b.x/\a.y=b.y/\a.w=b.w):a=b:=by
 cases a;cases b;obtain⟨h1,h2,h3⟩:=h
 cases h1;cases h2;cases h3;rfl
theorem zt5{c d p:Q3}{k u v:Int}(hk:0<k)(hu:0<=u)(hv:0<=v)(ex:k*p.x=u*c.x+v*d.x)(ey:k*p.y=u*c.y+v*d.y)(ew:k*p.w=u*c.w+v*d.w)(hb:bq c d=true):on3 c d p=true:=by
 unfold bq at hb;rw[zcg] at hb;have dz:det3 c.x c.y c.w d.x d.y d.w p.x p.y p.w=0:=by
  refine(pS.mp (show k*det3 c.x c.y c.w d.x d.y d.w p.x p.y p.w=0 from ?_)).resolve_left (by omega)
  have:k*det3 c.x c.y c.w d.x d.y d.w p.x p.y p.w=lnA c.x c.y c.w d.x d.y d.w*(k*p.x)+lnB c.x c.y c.w d.x d.y d.w*(k*p.y)+lnC c.x c.y c.w d.x d.y d.w*(k*p.w):=by unfold det3;grind
  rw[this,ex,ey,ew];unfold lnA lnB lnC;grind
 have x1:k*(p.x*c.w-c.x*p.w)=v*(d.x*c.w-c.x*d.w):=by
  calc _=(k*p.x)*c.w-c.x*(k*p.w):=by grind
   _=_:=by rw[ex,ew];grind
 have y1:k*(p.y*c.w-c.y*p.w)=v*(d.y*c.w-c.y*d.w):=by
  calc _=(k*p.y)*c.w-c.y*(k*p.w):=by grind
   _=_:=by rw[ey,ew];grind
 have x2:k*(d.x*p.w-p.x*d.w)=u*(d.x*c.w-c.x*d.w):=by
  calc _=d.x*(k*p.w)-(k*p.x)*d.w:=by grind
   _=_:=by rw[ex,ew];grind
 have y2:k*(d.y*p.w-p.y*d.w)=u*(d.y*c.w-c.y*d.w):=by
  calc _=d.y*(k*p.w)-(k*p.y)*d.w:=by grind
   _=_:=by rw[ey,ew];grind
 have sg:∀{z t r:Int},k*z=t*r->0<=t->0<r->0<=z/\(z=0->t=0):=fun{z t r} e ht hr=>by
  have h0:0<=t*r:=UO ht (uI hr);refine⟨?_,fun hz=>?_⟩
  ·rcases Ur z 0 with q|q
   ·have:=AR hk q;omega
   ·exact q
  ·rw[hz,UH] at e;exact(pS.mp e.symm).resolve_right (by omega)
 have zz:∀{z t r:Int},k*z=t*r->t=0∨r=0->z=0:=fun{z t r} e h=>by
  have:t*r=0:=Int.mul_eq_zero.mpr h;rw[this] at e;exact(pS.mp e).resolve_left (by omega)
 have b1:bef p.x p.y p.w c.x c.y c.w=false:=by
  rw[zca];rcases hb with hb|⟨hb,hy⟩
  ·obtain⟨n1,n2⟩:=sg x1 hv (by omega)
   by_cases q:p.x*c.w-c.x*p.w=0
   ·have:=zz y1 (.inl (n2 q));exact .inr ⟨by omega,by omega⟩
   ·exact .inl (by omega)
  ·have q:=zz x1 (.inr (by omega))
   obtain⟨n1,n2⟩:=sg y1 hv (by omega)
   exact .inr ⟨by omega,by omega⟩
 have b2:bef d.x d.y d.w p.x p.y p.w=false:=by
  rw[zca];rcases hb with hb|⟨hb,hy⟩
  ·obtain⟨n1,n2⟩:=sg x2 hu (by omega)
   by_cases q:d.x*p.w-p.x*d.w=0
   ·have:=zz y2 (.inl (n2 q));exact .inr ⟨by omega,by omega⟩
   ·exact .inl (by omega)
  ·have q:=zz x2 (.inr (by omega))
   obtain⟨n1,n2⟩:=sg y2 hu (by omega)
   exact .inr ⟨by omega,by omega⟩
 unfold on3 onB;rw[dz,zf7,if_pos rfl,b1,b2];rfl
theorem btw{c d p:Q3}{k u v:Int}(hp:0<p.w)(hc:0<c.w)(hd:0<d.w)(hk:k≠0)(h:(0<=u/\0<=v)∨(u<=0/\v<=0))(ex:k*p.x=u*c.x+v*d.x)(ey:k*p.y=u*c.y+v*d.y)(ew:k*p.w=u*c.w+v*d.w)(hb:bq c d=true):on3 c d p=true:=by
 rcases h with⟨hu,hv⟩|⟨hu,hv⟩
 ·have h1:=UO hu (uI hc);have h2:=UO hv (uI hd);have kp:0<k:=by
   rcases Ur k 0 with q|q
   ·have:=uT q hp;omega
   ·omega
  exact zt5 kp hu hv ex ey ew hb
 ·have h1:=UO (show 0<= -u by omega) (uI hc)
  have h2:=UO (show 0<= -v by omega) (uI hd)
  rw[Qc] at h1 h2;have kp:0< -k:=by
   rcases Ur k 0 with q|q
   ·omega
   ·have:=uw (show 0<k by omega) hp
    omega
  refine zt5 kp (show 0<= -u by omega) (show 0<= -v by omega) ?_ ?_ ?_ hb
  ·rw[Qc,Qc,Qc];omega
  ·rw[Qc,Qc,Qc];omega
  ·rw[Qc,Qc,Qc];omega
theorem zfu(a b c d:Q3):dt a b d*c.x+ -dt a b c*d.x=dt c d a*b.x+ -dt c d b*a.x:=by unfold dt det3 lnA lnB lnC;grind
theorem zfk(a b c d:Q3):dt a b d*c.y+ -dt a b c*d.y=dt c d a*b.y+ -dt c d b*a.y:=by unfold dt det3 lnA lnB lnC;grind
theorem zey(a b c d:Q3):dt a b d*c.w+ -dt a b c*d.w=dt c d a*b.w+ -dt c d b*a.w:=by unfold dt det3 lnA lnB lnC;grind
theorem zhm{s t:Int}(h:sgn s≠sgn t):(0<=t/\0<= -s)∨(t<=0/\ -s<=0):=by
 rcases zbe s with⟨h1,e1⟩|⟨h1,e1⟩|⟨h1,e1⟩<;>rcases zbe t with⟨h2,e2⟩|⟨h2,e2⟩|⟨h2,e2⟩<;>rw[e1,e2] at h<;>omega
theorem meet_on{a b c d p:Q3}{k:Int}(ha:0<a.w)(hb:0<b.w)(hc:0<c.w)(hd:0<d.w)(hp:0<p.w)(hk:k≠0)(bab:bq a b=true)(bcd:bq c d=true)(hs:sgn (dt a b c)≠sgn (dt a b d))(ht:sgn (dt c d a)≠sgn (dt c d b))
  (ex:k*p.x=dt a b d*c.x+ -dt a b c*d.x)(ey:k*p.y=dt a b d*c.y+ -dt a b c*d.y)(ew:k*p.w=dt a b d*c.w+ -dt a b c*d.w):on3 a b p=true/\on3 c d p=true:=by
 refine⟨?_,btw hp hc hd hk (zhm hs) ex ey ew bcd⟩;rw[zfu,DA] at ex;rw[zfk,DA] at ey;rw[zey,DA] at ew;refine btw hp ha hb hk ?_ ex ey ew bab;have:=zhm ht;omega
inductive MR where
 |none
 |spot (p:Q3)
 |part (p q:Q3)
def fst3(a c:Q3):Q3:=if bq a c=true then c else a
def snd3(b d:Q3):Q3:=if bq b d=true then b else d
def mtL(a b c d:Q3):MR:=if bq (snd3 b d) (fst3 a c)=true then .none else if(fst3 a c).x=(snd3 b d).x/\(fst3 a c).y=(snd3 b d).y/\(fst3 a c).w=(snd3 b d).w then .spot (fst3 a c) else .part (fst3 a c) (snd3 b d)
def crX(a b c d:Q3):Int:=lnB a.x a.y a.w b.x b.y b.w*lnC c.x c.y c.w d.x d.y d.w-lnC a.x a.y a.w b.x b.y b.w*lnB c.x c.y c.w d.x d.y d.w
def crY(a b c d:Q3):Int:=lnC a.x a.y a.w b.x b.y b.w*lnA c.x c.y c.w d.x d.y d.w-lnA a.x a.y a.w b.x b.y b.w*lnC c.x c.y c.w d.x d.y d.w
def crW(a b c d:Q3):Int:=lnA a.x a.y a.w b.x b.y b.w*lnB c.x c.y c.w d.x d.y d.w-lnB a.x a.y a.w b.x b.y b.w*lnA c.x c.y c.w d.x d.y d.w
theorem cr_x(a b c d:Q3):crX a b c d=dt a b d*c.x+ -dt a b c*d.x:=by unfold crX dt det3 lnA lnB lnC;grind
theorem cr_y(a b c d:Q3):crY a b c d=dt a b d*c.y+ -dt a b c*d.y:=by unfold crY dt det3 lnA lnB lnC;grind
theorem cr_w(a b c d:Q3):crW a b c d=dt a b d*c.w+ -dt a b c*d.w:=by unfold crW dt det3 lnA lnB lnC;grind
def crP(a b c d:Q3):Q3:=⟨ptX (crX a b c d) (crY a b c d) (crW a b c d),ptY (crX a b c d) (crY a b c d) (crW a b c d),ptW (crX a b c d) (crY a b c d) (crW a b c d)⟩
def mtS(a b c d:Q3):Q3:=if sgn (dt a b c)=0 then c else if sgn (dt a b d)=0 then d else if sgn (dt c d a)=0 then a else if sgn (dt c d b)=0 then b else crP a b c d
def mtF(a b c d:Q3):MR:=
 if sgn (dt a b c)=0/\sgn (dt a b d)=0 then mtL a b c d
 else if sgn (dt a b c)=sgn (dt a b d) then .none
 else if sgn (dt c d a)=sgn (dt c d b) then .none
 else .spot (mtS a b c d)
def apB(a b c d:Q3):Bool:=if sgn (dt a b c)=0/\sgn (dt a b d)=0 then(bq b c||bq d a) else(decide (sgn (dt a b c)=sgn (dt a b d))||decide (sgn (dt c d a)=sgn (dt c d b)))
theorem zcv{a b:Q3}(h:bq a b=true):bq b a=false:=bef_asym h
theorem zdp(a:Q3):bq a a=false:=bef_irr _ _ _
theorem zhc{n:Nat}{a b c:Q3}(ha:PQ n a)(hb:PQ n b)(hc:PQ n c)(h1:bq a b=true)(h2:bq b c=true):bq a c=true:=zqk ha.pos hb.pos hc.pos h1 h2
theorem zge{n:Nat}{a b:Q3}(ha:PQ n a)(hb:PQ n b)(h1:¬bq a b=true)(h2:¬bq b a=true):a=b:=Q3.ext' (zrb ha hb ((jr.mpr h1).trans (jr.mpr h2).symm))
theorem zqz{a b c d:Q3}(hc:0<c.w)(hd:0<d.w)(hs:sgn (dt a b c)≠sgn (dt a b d)):crW a b c d≠0:=by
 rw[cr_w];have h:=zhm hs;intro z;have e:∀{s w:Int},0<w->0<=s->0<=s*w:=fun hw hs=>UO hs (uI hw);rcases h with⟨h1,h2⟩|⟨h1,h2⟩
 ·have p1:=e hc h1;have p2:=e hd h2;have q1:=(pS.mp (show dt a b d*c.w=0 by omega)).resolve_right (by omega)
  have q2:=(pS.mp (show-dt a b c*d.w=0 by omega)).resolve_right (by omega)
  exact hs (by rw[show dt a b c=0 by omega,q1])
 ·have p1:=e hc (show 0<= -dt a b d by omega)
  have p2:=e hd (show 0<=dt a b c by omega)
  rw[Qc] at p1;rw[Qc] at z;have q1:=(pS.mp (show dt a b d*c.w=0 by omega)).resolve_right (by omega)
  have q2:=(pS.mp (show dt a b c*d.w=0 by omega)).resolve_right (by omega)
  exact hs (by rw[q1,q2])
theorem zm5{n:Nat}{a b c d:Q3}(ha:PQ n a)(hb:PQ n b)(hc:PQ n c)(hd:PQ n d)(bab:bq a b=true)(bcd:bq c d=true)(q:¬bq (snd3 b d) (fst3 a c)=true):bq b c=false/\bq d a=false:=by
 unfold fst3 snd3 at q
 constructor
 ·rw[←Aw];intro z;have ac:=zhc ha hb hc bab z;have bd:=zhc hb hc hd z bcd;rw[if_pos ac,if_pos bd] at q;exact q z
 ·rw[←Aw];intro z;have n1:¬bq a c=true:=fun w=>by rw[zcv (zhc hc hd ha bcd z)] at w;cases w
  have n2:¬bq b d=true:=fun w=>by rw[zcv (zhc hd ha hb z bab)] at w;cases w
  rw[if_neg n1,if_neg n2] at q;exact q z
theorem zgz{a b p:Q3}(h0:dt a b p=0)(h1:bq p a=false)(h2:bq b p=false):on3 a b p=true:=by
 unfold on3 onB;unfold dt at h0;unfold bq at h1 h2;rw[h0,zf7,if_pos rfl,h1,h2];rfl
theorem zhe(a b:Q3):dt a b a=0:=zo9 _ _ _ _ _ _
theorem zgb(a b:Q3):dt a b b=0:=zlg _ _ _ _ _ _
theorem zqr{n:Nat}{a b c d:Q3}(ha:PQ n a)(hb:PQ n b)(bab:bq a b=true)(s0:dt a b c=0)(s1:dt a b d=0):dt c d a=0/\dt c d b=0:=by
 have ex:=zfu a b c d;have ey:=zfk a b c d;have ew:=zey a b c d;rw[s0,s1] at ex ey ew;simp only[jq,Int.neg_zero,Eb] at ex ey ew;have h1:=ha.pos;have h2:=hb.pos;generalize dt c d a=t at*;generalize dt c d b=v at*;rw[Qc] at ex ey ew
 by_cases ht:t=0
 ·subst ht;rw[jq] at ew;exact⟨rfl,(pS.mp (show v*a.w=0 by omega)).resolve_right (by omega)⟩
 ·exfalso
  have k1:t*(b.x*a.w-a.x*b.w)=0:=by
   calc _=(t*b.x)*a.w-a.x*(t*b.w):=by grind
    _=(v*a.x)*a.w-a.x*(v*a.w):=by rw[show t*b.x=v*a.x by omega,show t*b.w=v*a.w by omega]
    _=0:=by grind
  have k2:t*(b.y*a.w-a.y*b.w)=0:=by
   calc _=(t*b.y)*a.w-a.y*(t*b.w):=by grind
    _=(v*a.y)*a.w-a.y*(v*a.w):=by rw[show t*b.y=v*a.y by omega,show t*b.w=v*a.w by omega]
    _=0:=by grind
  have z1:=(pS.mp k1).resolve_left ht;have z2:=(pS.mp k2).resolve_left ht;unfold bq at bab;rw[zcg] at bab;omega
theorem zrk{n:Nat}{a b c d:Q3}(ha:PQ n a)(hb:PQ n b)(hc:PQ n c)(hd:PQ n d)(bab:bq a b=true)(bcd:bq c d=true)(s0:dt a b c=0)(s1:dt a b d=0)(q:¬bq (snd3 b d) (fst3 a c)=true):
  (on3 a b (fst3 a c)=true/\on3 c d (fst3 a c)=true)/\on3 a b (snd3 b d)=true/\on3 c d (snd3 b d)=true:=by
 obtain⟨n1,n2⟩:=zm5 ha hb hc hd bab bcd q;obtain⟨t0,t1⟩:=zqr ha hb bab s0 s1;refine⟨?_,?_⟩
 ·unfold fst3
  by_cases e:bq a c=true
  ·rw[if_pos e];exact⟨zgz s0 (zcv e) n1,zgz (zhe c d) (zdp c) (zcv bcd)⟩
  ·rw[if_neg e];refine⟨zgz (zhe a b) (zdp a) (zcv bab),zgz t0 (jr.mpr e) n2⟩
 ·unfold snd3
  by_cases e:bq b d=true
  ·rw[if_pos e];exact⟨zgz (zgb a b) (zcv bab) (zdp b),zgz t1 n1 (zcv e)⟩
  ·rw[if_neg e];exact⟨zgz s1 n2 (jr.mpr e),zgz (zgb c d) (zcv bcd) (zdp d)⟩
theorem zlh{n:Nat}{a b c d p q:Q3}(ha:PQ n a)(hb:PQ n b)(hc:PQ n c)(hd:PQ n d)(bab:bq a b=true)(bcd:bq c d=true)(h:mtF a b c d=.part p q):
  apB a b c d=false/\(sgn (dt a b c)=0/\sgn (dt a b d)=0)/\PQ n p/\PQ n q/\bq p q=true/\(on3 a b p=true/\on3 c d p=true)/\(on3 a b q=true/\on3 c d q=true)/\(p=a∨p=c)/\(q=b∨q=d):=by
 unfold mtF at h;unfold apB
 by_cases l:sgn (dt a b c)=0/\sgn (dt a b d)=0
 ·rw[if_pos l] at h⊢;unfold mtL at h
  by_cases e:bq (snd3 b d) (fst3 a c)=true
  ·rw[if_pos e] at h;cases h
  ·rw[if_neg e] at h
   split at h
   ·cases h
   ·rename_i ne
    cases h;obtain⟨n1,n2⟩:=zm5 ha hb hc hd bab bcd e;obtain⟨o1,o2⟩:=zrk ha hb hc hd bab bcd (zag.mp l.1) (zag.mp l.2) e;have pf:PQ n (fst3 a c)/\(fst3 a c=a∨fst3 a c=c):=by
     unfold fst3;split
     ·exact⟨hc,.inr rfl⟩
     ·exact⟨ha,.inl rfl⟩
    have ps:PQ n (snd3 b d)/\(snd3 b d=b∨snd3 b d=d):=by
     unfold snd3;split
     ·exact⟨hb,.inl rfl⟩
     ·exact⟨hd,.inr rfl⟩
    refine⟨by rw[n1,n2];rfl,l,pf.1,ps.1,?_,o1,o2,pf.2,ps.2⟩
    cases eb:bq (fst3 a c) (snd3 b d) with
    |true=>rfl
    |false=>
     have:=zge pf.1 ps.1 (by rw[eb];decide) e
     exact absurd ⟨congrArg Q3.x this,congrArg Q3.y this,congrArg Q3.w this⟩ ne
 ·rw[if_neg l] at h
  split at h
  ·cases h
  ·split at h<;>cases h
theorem zru{n m:Nat}{a b c d p:Q3}(hm:n<=m)(ha:PQ n a)(hb:PQ n b)(hc:PQ n c)(hd:PQ n d)(bab:bq a b=true)(bcd:bq c d=true)(hx:(crX a b c d).natAbs<2^m)(hy:(crY a b c d).natAbs<2^m)(hw:(crW a b c d).natAbs<2^m)(h:mtF a b c d=.spot p):
  apB a b c d=false/\PQ m p/\on3 a b p=true/\on3 c d p=true/\((sgn (dt a b c)=0/\sgn (dt a b d)=0)->(p=b/\b=c)∨(p=d/\d=a)):=by
 have up:∀{z:Q3},PQ n z->PQ m z:=fun h=>Pt.mono h hm;unfold mtF at h;unfold apB
 by_cases l:sgn (dt a b c)=0/\sgn (dt a b d)=0
 ·rw[if_pos l] at h⊢;unfold mtL at h
  by_cases e:bq (snd3 b d) (fst3 a c)=true
  ·rw[if_pos e] at h;cases h
  ·rw[if_neg e] at h
   split at h
   ·rename_i eq
    cases h;obtain⟨n1,n2⟩:=zm5 ha hb hc hd bab bcd e;obtain⟨o1,o2⟩:=zrk ha hb hc hd bab bcd (zag.mp l.1) (zag.mp l.2) e;have eq:=Q3.ext' eq;refine⟨by rw[n1,n2];rfl,?_,o1.1,o1.2,fun _=>?_⟩
    ·unfold fst3;split
     ·exact up hc
     ·exact up ha
    ·unfold fst3 snd3 at eq;unfold fst3
     by_cases q1:bq a c=true<;>by_cases q2:bq b d=true
     ·rw[if_pos q1,if_pos q2] at eq;rw[if_pos q1];exact .inl ⟨eq,eq.symm⟩
     ·rw[if_pos q1,if_neg q2] at eq;rw[eq,zdp] at bcd;cases bcd
     ·rw[if_neg q1,if_pos q2] at eq;rw[eq,zdp] at bab;cases bab
     ·rw[if_neg q1,if_neg q2] at eq;rw[if_neg q1];exact .inr ⟨eq,eq.symm⟩
   ·cases h
 ·rw[if_neg l] at h⊢
  by_cases q1:sgn (dt a b c)=sgn (dt a b d)
  ·rw[if_pos q1] at h;cases h
  ·by_cases q2:sgn (dt c d a)=sgn (dt c d b)
   ·rw[if_neg q1,if_pos q2] at h;cases h
   ·rw[if_neg q1,if_neg q2] at h
    cases h;have wn:=zqz (a:=a) (b:=b) hc.pos hd.pos q1;have key:∀{z:Q3}{k:Int},k≠0->PQ m z->k*z.x=crX a b c d->k*z.y=crY a b c d->k*z.w=crW a b c d->PQ m z/\on3 a b z=true/\on3 c d z=true:=fun{z k} hk hz e1 e2 e3=>
     ⟨hz,meet_on ha.pos hb.pos hc.pos hd.pos hz.pos hk bab bcd q1 q2 (by rw[e1,cr_x]) (by rw[e2,cr_y]) (by rw[e3,cr_w])⟩
    have main:PQ m (mtS a b c d)/\on3 a b (mtS a b c d)=true/\on3 c d (mtS a b c d)=true:=by
     unfold mtS
     by_cases z1:sgn (dt a b c)=0
     ·rw[if_pos z1];have y1:=zag.mp z1;refine key (k:=dt a b d) (fun y=>q1 (by rw[y1,y])) (up hc) ?_ ?_ ?_
      ·rw[cr_x,y1];simp
      ·rw[cr_y,y1];simp
      ·rw[cr_w,y1];simp
     ·rw[if_neg z1]
      by_cases z2:sgn (dt a b d)=0
      ·rw[if_pos z2];have y2:=zag.mp z2;refine key (k:= -dt a b c) (fun y=>z1 (zag.mpr (by omega))) (up hd) ?_ ?_ ?_
       ·rw[cr_x,y2];simp
       ·rw[cr_y,y2];simp
       ·rw[cr_w,y2];simp
      ·rw[if_neg z2]
       by_cases z3:sgn (dt c d a)=0
       ·rw[if_pos z3];have y3:=zag.mp z3;refine key (k:= -dt c d b) (fun y=>q2 (by rw[y3,show dt c d b=0 by omega])) (up ha) ?_ ?_ ?_
        ·rw[cr_x,zfu,y3];simp
        ·rw[cr_y,zfk,y3];simp
        ·rw[cr_w,zey,y3];simp
       ·rw[if_neg z3]
        by_cases z4:sgn (dt c d b)=0
        ·rw[if_pos z4];have y4:=zag.mp z4;refine key (k:=dt c d a) (fun y=>z3 (zag.mpr y)) (up hb) ?_ ?_ ?_
         ·rw[cr_x,zfu,y4];simp
         ·rw[cr_y,zfk,y4];simp
         ·rw[cr_w,zey,y4];simp
        ·rw[if_neg z4];refine key (k:=fac3 (crX a b c d) (crY a b c d) (crW a b c d)) (zlk wn) (pt_mk wn hx hy hw) ?_ ?_ ?_
         ·rw[uY];exact zro _ _ _
         ·rw[uY];exact zqm _ _ _
         ·rw[uY];exact zqv _ _ _
    exact⟨by rw[decide_eq_false q1,decide_eq_false q2];rfl,main.1,main.2.1,main.2.2,fun z=>absurd z l⟩
def PtQ(n:Nat)(H:Hp)(p:Addr)(a:Q3):Prop:=PtH n H p a.x a.y a.w
theorem PtQ.same{n:Nat}{H H':Hp}{p:Addr}{a:Q3}(h:PtQ n H p a)(g:Same H H'):PtQ n H' p a:=PtH.same h g
theorem PtQ.tb{m n:Nat}{H:Hp}{p:Addr}{a:Q3}(h:PtQ m H p a)(hm:m<=n:=by decide):TB n H p a.x a.y a.w:=PtH.tb h hm
theorem PtQ.pt{n:Nat}{H:Hp}{p:Addr}{a:Q3}(h:PtQ n H p a):PQ n a:=h.2
def PtAt(H:Hp)(p:Addr)(a:Q3):Prop:=H p=some (.tup [.int a.x,.int a.y,.int a.w])
def MtV(H:Hp)(v:V):MR->Prop
 |.none=>v=.non
 |.spot p=>∃x y,v=.ref x/\H x=some (.tup [.str "spot",.ref y])/\PtAt H y p
 |.part p q=>∃x y m n,v=.ref x/\H x=some (.tup [.str "part",.ref y])/\H y=some (.tup [.ref m,.ref n])/\PtAt H m p/\PtAt H n q
structure St4(H:Hp)(s t p q r u:Addr)(a b c d:Q3):Prop where
 s:H s=some (.tup [.ref p,.ref q])
 t:H t=some (.tup [.ref r,.ref u])
 a:PtQ 130 H p a
 b:PtQ 130 H q b
 c:PtQ 130 H r c
 d:PtQ 130 H u d
theorem St4.same{H H':Hp}{s t p q r u:Addr}{a b c d:Q3}(h:St4 H s t p q r u a b c d)(g:Same H H'):St4 H' s t p q r u a b c d:=⟨g _ _ h.s,g _ _ h.t,h.a.same g,h.b.same g,h.c.same g,h.d.same g⟩
def sp_mol:Sp:=fun vs H Q _=>∃(s t p q r u:Addr)(a b c d:Q3),vs=[.ref s,.ref t]/\St4 H s t p q r u a b c d/\∀v H',Same H H'->MtV H' v (mtL a b c d)->Q v H'
def sp_meet:Sp:=fun vs H Q _=>∃(s t p q r u:Addr)(a b c d:Q3),vs=[.ref s,.ref t]/\St4 H s t p q r u a b c d/\∀v H',Same H H'->MtV H' v (mtF a b c d)->Q v H'
def dI2(x y:Int):Bk:=.tuple [.int x,.int y]
theorem rd_i2{K:kJ}{H:Hp}{p:Addr}{x y:Int}(h:SqT K H p [.int x,.int y]):RdD K H (dI2 x y) (.ref p):=by
 unfold dI2;rw[RdD];exact⟨p,_,rfl,h,by simp[RdDs,RdD]⟩
theorem zim(x y:Int):Qt (dI2 x y)=true:=by
 simp[dI2,Qt,Qv,uh,Qw,Qg]
theorem dI2_eqv(x y x' y':Int):Qu (dI2 x y) (dI2 x' y')=decide (x=x'/\y=y'):=by
 simp only[dI2,Qu,Ut,EH]
 by_cases h1:x=x'<;>by_cases h2:y=y'<;>simp[h1,h2]
def StQ(n:Nat)(H:Hp)(s:Addr)(a b:Q3):Prop:=∃p q,H s=some (.tup [.ref p,.ref q])/\PtQ n H p a/\PtQ n H q b/\bq a b=true
theorem StQ.ts{n:Nat}{H H':Hp}{s:Addr}{a b:Q3}(h:StQ n H s a b)(g:zbp H H'):StQ n H' s a b:=by
 obtain⟨p,q,h1,h2,h3,h4⟩:=h;exact⟨p,q,g _ _ h1,⟨g _ _ h2.1,h2.2⟩,⟨g _ _ h3.1,h3.2⟩,h4⟩
theorem ky_ge{n:Nat}{a b:Q3}{g:Int}(ha:PQ n a)(hb:PQ n b)(ga:a.w<=g)(gb:b.w<=g)(h:bq a b=false):lt2 (kyQ g a) (kyQ g b)=false:=by
 cases e:bq b a with
 |true=>
  have z:=ky_lt hb.pos ha.pos gb ga e
  cases e2:lt2 (kyQ g a) (kyQ g b) with
  |false=>rfl
  |true=>
   have:=sto2.tr _ _ _ z e2;rw[sto2.irr] at this
   cases this
 |false=>
  rw[zr9 ha hb h e];exact sto2.irr _
theorem zfa{a p b:Q3}(ha:0<a.w)(hp:0<p.w)(hb:0<b.w)(h1:bq p a=false)(h2:bq b p=false):bq b a=false:=by
 unfold bq at*;rw[zca] at*;rcases h1 with h1|⟨h1,h1'⟩<;>rcases h2 with h2|⟨h2,h2'⟩
 ·exact .inl ((zek (a:=a.x) (b:=p.x) (c:=b.x) ha hp hb (by omega) (by omega)).2 (.inl (by omega)))
 ·exact .inl ((zek (a:=a.x) (b:=p.x) (c:=b.x) ha hp hb (by omega) (by omega)).2 (.inl (by omega)))
 ·exact .inl ((zek (a:=a.x) (b:=p.x) (c:=b.x) ha hp hb (by omega) (by omega)).2 (.inr (by omega)))
 ·have q1:=(zek (a:=a.x) (b:=p.x) (c:=b.x) ha hp hb (by omega) (by omega)).1
  have q2:=(zek (a:=b.x) (b:=p.x) (c:=a.x) hb hp ha (by omega) (by omega)).1
  have q3:=(zek (a:=a.y) (b:=p.y) (c:=b.y) ha hp hb (by omega) (by omega)).1
  exact .inr ⟨by omega,q3⟩
theorem zcp{a b p:Q3}(h:on3 a b p=true):dt a b p=0/\bq p a=false/\bq b p=false:=by
 unfold on3 onB at h;unfold dt bq
 by_cases e:sgn (det3 a.x a.y a.w b.x b.y b.w p.x p.y p.w)=0
 ·rw[if_pos e] at h;rw[vF,Qx,Qx] at h;exact⟨zag.mp e,h.1,h.2⟩
 ·rw[if_neg e] at h
  cases h
theorem dt_mid(a b p:Q3):p.w*dt a b p=dY a p*dX p b-dX a p*dY p b:=by unfold dt dX dY det3 lnA lnB lnC;grind
theorem zrt{a b p:Q3}(h:on3 a b p=true)(hp:0<p.w):(a.y*p.w<=p.y*a.w∨b.y*p.w<=p.y*b.w)/\(p.y*a.w<=a.y*p.w∨p.y*b.w<=b.y*p.w):=by
 obtain⟨h0,h1,h2⟩:=zcp h;unfold bq at h1 h2;rw[zca] at h1 h2;have e:=dt_mid a b p;rw[h0,UH] at e;have x1:dX a p=p.x*a.w-a.x*p.w:=rfl;have x2:dX p b=b.x*p.w-p.x*b.w:=rfl;have y1:dY a p=p.y*a.w-a.y*p.w:=rfl;have y2:dY p b=b.y*p.w-p.y*b.w:=rfl;generalize dX a p=X1 at*;generalize dX p b=X2 at*;generalize dY a p=Y1 at*;generalize dY p b=Y2 at*;have n1:0<=X1:=by omega
 have n2:0<=X2:=by omega
 constructor
 ·by_cases c1:a.y*p.w<=p.y*a.w
  ·exact .inl c1
  ·by_cases c2:b.y*p.w<=p.y*b.w
   ·exact .inr c2
   ·exfalso
    have k1:Y1<0:=by omega
    have k2:0<Y2:=by omega
    have z1:X1≠0:=fun z=>by omega
    have m1:0<X1*Y2:=uw (by omega) k2
    have m2:Y1*X2<=0:=UY (by omega) n2
    omega
 ·by_cases c1:p.y*a.w<=a.y*p.w
  ·exact .inl c1
  ·by_cases c2:p.y*b.w<=b.y*p.w
   ·exact .inr c2
   ·exfalso
    have k1:0<Y1:=by omega
    have k2:Y2<0:=by omega
    have z1:X2≠0:=fun z=>by omega
    have m1:X1*Y2<=0:=jP n1 (by omega)
    have m2:0<Y1*X2:=uw k1 (by omega)
    omega
theorem fl_le{a b c d G:Int}(hb:0<b)(hd:0<d)(hG:0<=G)(h:a*d<=c*b):a*G/b<=c*G/d:=by
 refine Bg hd (AL ?_ hb);have h0:a*G/b*b<=a*G:=Dm _ (by omega)
 have h1:=UB h0 (uI hd);have h2:=gJ h hG;generalize a*G/b=A at*
 calc A*d*b=A*b*d:=by grind
  _<=a*G*d:=h1
  _=G*(a*d):=by grind
  _<=G*(c*b):=h2
  _=c*G*b:=by grind
def lowF(g:Int)(s:Q3×Q3):Int:=if(kyQ g s.2).2<(kyQ g s.1).2 then(kyQ g s.2).2 else(kyQ g s.1).2
def zgw(g:Int)(s:Q3×Q3):Int:=if(kyQ g s.2).2>(kyQ g s.1).2 then(kyQ g s.2).2 else(kyQ g s.1).2
def Nigh(g:Int)(a b:Q3×Q3):Prop:=lt2 (kyQ g a.2) (kyQ g b.1)=false/\lt2 (kyQ g b.2) (kyQ g a.1)=false/\lowF g a<=zgw g b/\lowF g b<=zgw g a
theorem Nigh.symm{g:Int}{a b:Q3×Q3}(h:Nigh g a b):Nigh g b a:=⟨h.2.1,h.1,h.2.2.2,h.2.2.1⟩
theorem low_le{g:Int}{s:Q3×Q3}{p:Q3}(h1:0<s.1.w)(h2:0<s.2.w)(hp:0<p.w)(h:on3 s.1 s.2 p=true):lowF g s<=(kyQ g p).2/\(kyQ g p).2<=zgw g s:=by
 have G0:0<=g*g:=by
  rcases Ur g 0 with z|z
  ·exact uI (AQ z z)
  ·exact UO z z
 obtain⟨q1,q2⟩:=zrt h hp;unfold lowF zgw;have e1:∀r:Q3,(kyQ g r).2=r.y*(g*g)/r.w:=fun r=>rfl;simp only[e1];refine⟨?_,?_⟩
 ·rcases q1 with q|q
  ·have:=fl_le h1 hp G0 q
   split<;>omega
  ·have:=fl_le h2 hp G0 q
   split<;>omega
 ·rcases q2 with q|q
  ·have:=fl_le hp h1 G0 q
   split<;>omega
  ·have:=fl_le hp h2 G0 q
   split<;>omega
theorem nigh_of{n:Nat}{g:Int}{a b:Q3×Q3}{p:Q3}(ha:PQ n a.1)(ha':PQ n a.2)(hb:PQ n b.1)(hb':PQ n b.2)(ga:a.1.w<=g)(ga':a.2.w<=g)(gb:b.1.w<=g)(gb':b.2.w<=g)(hp:0<p.w)(h1:on3 a.1 a.2 p=true)(h2:on3 b.1 b.2 p=true):Nigh g a b:=by
 obtain⟨_,i1,i2⟩:=zcp h1;obtain⟨_,j1,j2⟩:=zcp h2;have l1:=low_le (g:=g) ha.pos ha'.pos hp h1;have l2:=low_le (g:=g) hb.pos hb'.pos hp h2;exact⟨ky_ge ha' hb ga' gb (zfa hb.pos hp ha'.pos j1 i2),ky_ge hb' ha gb' ga (zfa ha.pos hp hb'.pos i1 j2),by omega,by omega⟩
theorem shares{c d p:Q3}{k u v:Int}(hp:on3 c d p=true)(cd:bq c d=true)(ex:k*p.x=u*c.x+v*d.x)(ey:k*p.y=u*c.y+v*d.y)(ew:k*p.w=u*c.w+v*d.w):¬(0<u/\v<0)/\¬(u<0/\0<v):=by
 obtain⟨_,h1,h2⟩:=zcp hp;unfold bq at h1 h2 cd;rw[zca] at h1 h2;rw[zcg] at cd;have x1:k*(p.x*c.w-c.x*p.w)=v*(d.x*c.w-c.x*d.w):=by
  calc _=(k*p.x)*c.w-c.x*(k*p.w):=by grind
   _=_:=by rw[ex,ew];grind
 have y1:k*(p.y*c.w-c.y*p.w)=v*(d.y*c.w-c.y*d.w):=by
  calc _=(k*p.y)*c.w-c.y*(k*p.w):=by grind
   _=_:=by rw[ey,ew];grind
 have x2:k*(d.x*p.w-p.x*d.w)=u*(d.x*c.w-c.x*d.w):=by
  calc _=d.x*(k*p.w)-(k*p.x)*d.w:=by grind
   _=_:=by rw[ex,ew];grind
 have y2:k*(d.y*p.w-p.y*d.w)=u*(d.y*c.w-c.y*d.w):=by
  calc _=d.y*(k*p.w)-(k*p.y)*d.w:=by grind
   _=_:=by rw[ey,ew];grind
 have sg:∀{z t r:Int},k*z=t*r->0<=z->0<r->(0<t->0<k)/\(t<0->k<0):=fun{z t r} e hz hr=>by
  refine⟨fun ht=>?_,fun ht=>?_⟩
  ·have m:=uw ht hr;rcases Ur 0 k with q|q
   ·exact q
   ·have:=UY q hz;omega
  ·have m:=uT ht hr;rcases Ur k 0 with q|q
   ·exact q
   ·have:=UO q hz;omega
 have both:(0<v->0<k)/\(v<0->k<0)/\(0<u->0<k)/\(u<0->k<0):=by
  rcases cd with cd|⟨cd,cy⟩
  ·obtain⟨a1,a2⟩:=sg x1 (by omega) (by omega)
   obtain⟨b1,b2⟩:=sg x2 (by omega) (by omega)
   exact⟨a1,a2,b1,b2⟩
  ·by_cases k0:k=0
   ·subst k0;rw[jq] at y1 y2;have r0:d.y*c.w-c.y*d.w≠0:=by omega
    have v0:=(pS.mp y1.symm).resolve_right r0;have u0:=(pS.mp y2.symm).resolve_right r0;omega
   ·have z0:d.x*c.w-c.x*d.w=0:=by omega
    rw[z0,UH] at x1 x2;have w1:=(pS.mp x1).resolve_left k0;have w2:=(pS.mp x2).resolve_left k0;obtain⟨a1,a2⟩:=sg y1 (by omega) (by omega)
    obtain⟨b1,b2⟩:=sg y2 (by omega) (by omega)
    exact⟨a1,a2,b1,b2⟩
 omega
theorem mtS_cr{a b c d:Q3}(ha:0<a.w)(hb:0<b.w)(hc:0<c.w)(hd:0<d.w)(q1:sgn (dt a b c)≠sgn (dt a b d))(q2:sgn (dt c d a)≠sgn (dt c d b)):
  ∃k:Int,k≠0/\k*(mtS a b c d).x=crX a b c d/\k*(mtS a b c d).y=crY a b c d/\k*(mtS a b c d).w=crW a b c d:=by
 have wn:=zqz (a:=a) (b:=b) hc hd q1;unfold mtS
 by_cases z1:sgn (dt a b c)=0
 ·rw[if_pos z1];have y1:=zag.mp z1;refine⟨dt a b d,fun y=>q1 (by rw[y1,y]),?_,?_,?_⟩
  ·rw[cr_x,y1];simp
  ·rw[cr_y,y1];simp
  ·rw[cr_w,y1];simp
 ·rw[if_neg z1]
  by_cases z2:sgn (dt a b d)=0
  ·rw[if_pos z2];have y2:=zag.mp z2;refine⟨-dt a b c,fun y=>z1 (zag.mpr (by omega)),?_,?_,?_⟩
   ·rw[cr_x,y2];simp
   ·rw[cr_y,y2];simp
   ·rw[cr_w,y2];simp
  ·rw[if_neg z2]
   by_cases z3:sgn (dt c d a)=0
   ·rw[if_pos z3];have y3:=zag.mp z3;refine⟨-dt c d b,fun y=>q2 (by rw[y3,show dt c d b=0 by omega]),?_,?_,?_⟩
    ·rw[cr_x,zfu,y3];simp
    ·rw[cr_y,zfk,y3];simp
    ·rw[cr_w,zey,y3];simp
   ·rw[if_neg z3]
    by_cases z4:sgn (dt c d b)=0
    ·rw[if_pos z4];have y4:=zag.mp z4;refine⟨dt c d a,fun y=>z3 (zag.mpr y),?_,?_,?_⟩
     ·rw[cr_x,zfu,y4];simp
     ·rw[cr_y,zfk,y4];simp
     ·rw[cr_w,zey,y4];simp
    ·rw[if_neg z4];refine⟨fac3 (crX a b c d) (crY a b c d) (crW a b c d),zlk wn,?_,?_,?_⟩
     ·rw[uY];exact zro _ _ _
     ·rw[uY];exact zqm _ _ _
     ·rw[uY];exact zqv _ _ _
theorem zho{k z1 z2 p1 p2 X W:Int}(hk:k≠0)(e1:k*z1=X)(e2:k*z2=W)(h:p1*W=X*p2):z1*p2=p1*z2:=by
 have:k*(z1*p2)=k*(p1*z2):=by
  calc _=(k*z1)*p2:=by grind
   _=p1*(k*z2):=by rw[e1,e2,h]
   _=_:=by grind
 exact Ud hk this
theorem mtS_pq{n m:Nat}{a b c d:Q3}(hm:n<=m)(ha:PQ n a)(hb:PQ n b)(hc:PQ n c)(hd:PQ n d)(hx:(crX a b c d).natAbs<2^m)(hy:(crY a b c d).natAbs<2^m)(hw:(crW a b c d).natAbs<2^m)(wn:crW a b c d≠0):PQ m (mtS a b c d):=by
 unfold mtS
 split
 ·exact Pt.mono hc hm
 ·split
  ·exact Pt.mono hd hm
  ·split
   ·exact Pt.mono ha hm
   ·split
    ·exact Pt.mono hb hm
    ·exact pt_mk wn hx hy hw
theorem zpq{n m:Nat}{a b c d p:Q3}(hm:n<=m)(ha:PQ n a)(hb:PQ n b)(hc:PQ n c)(hd:PQ n d)(bab:bq a b=true)(bcd:bq c d=true)(hx:(crX a b c d).natAbs<2^m)(hy:(crY a b c d).natAbs<2^m)(hw:(crW a b c d).natAbs<2^m)
  (wn:crW a b c d≠0)(hp:PQ m p)(ex:p.x*crW a b c d=crX a b c d*p.w)(ey:p.y*crW a b c d=crY a b c d*p.w)(h1:on3 a b p=true)(h2:on3 c d p=true):mtF a b c d=.spot p:=by
 have q1:sgn (dt a b c)≠sgn (dt a b d):=fun z=>by
  have e1:crW a b c d*p.x=(dt a b d*p.w)*c.x+(-dt a b c*p.w)*d.x:=by rw[uY,ex,cr_x];grind
  have e2:crW a b c d*p.y=(dt a b d*p.w)*c.y+(-dt a b c*p.w)*d.y:=by rw[uY,ey,cr_y];grind
  have e3:crW a b c d*p.w=(dt a b d*p.w)*c.w+(-dt a b c*p.w)*d.w:=by rw[cr_w];grind
  obtain⟨n1,n2⟩:=shares h2 bcd e1 e2 e3;have w0:=hp.pos
  rcases zbe (dt a b c) with⟨u1,v1⟩|⟨u1,v1⟩|⟨u1,v1⟩<;>rcases zbe (dt a b d) with⟨u2,v2⟩|⟨u2,v2⟩|⟨u2,v2⟩<;>rw[v1,v2] at z<;>try omega
  ·exact n1 ⟨uw u2 w0,uT (by omega) w0⟩
  ·exact n2 ⟨uT u2 w0,uw (by omega) w0⟩
  ·apply wn
   rw[cr_w,u1,u2]
   simp
 have q2:sgn (dt c d a)≠sgn (dt c d b):=fun z=>by
  have e1:crW a b c d*p.x=(-dt c d b*p.w)*a.x+(dt c d a*p.w)*b.x:=by rw[uY,ex,cr_x,zfu];grind
  have e2:crW a b c d*p.y=(-dt c d b*p.w)*a.y+(dt c d a*p.w)*b.y:=by rw[uY,ey,cr_y,zfk];grind
  have e3:crW a b c d*p.w=(-dt c d b*p.w)*a.w+(dt c d a*p.w)*b.w:=by rw[cr_w,zey];grind
  obtain⟨n1,n2⟩:=shares h1 bab e1 e2 e3;have w0:=hp.pos
  rcases zbe (dt c d a) with⟨u1,v1⟩|⟨u1,v1⟩|⟨u1,v1⟩<;>rcases zbe (dt c d b) with⟨u2,v2⟩|⟨u2,v2⟩|⟨u2,v2⟩<;>rw[v1,v2] at z<;>try omega
  ·exact n2 ⟨uT (by omega) w0,uw u1 w0⟩
  ·exact n1 ⟨uw (by omega) w0,uT u1 w0⟩
  ·apply wn
   rw[cr_w,zey,u1,u2]
   simp
 unfold mtF;rw[if_neg (fun z=>q1 (z.1.trans z.2.symm)),if_neg q1,if_neg q2];obtain⟨k,k0,k1,k2,k3⟩:=mtS_cr ha.pos hb.pos hc.pos hd.pos q1 q2;have ps:=mtS_pq hm ha hb hc hd hx hy hw wn;have:=zlq ps hp (zho k0 k1 k3 ex) (zho k0 k2 k3 ey);rw[Q3.ext' this]
theorem zpm(a b c d:Q3):crX c d a b= -crX a b c d/\crY c d a b= -crY a b c d/\crW c d a b= -crW a b c d:=by
 unfold crX crY crW;refine⟨?_,?_,?_⟩<;>grind
theorem cr_bd{n:Nat}{a b c d:Q3}(ha:PQ n a)(hb:PQ n b)(hc:PQ n c)(hd:PQ n d):(crX a b c d).natAbs<2^(n+n+1+(n+n+1)+1)/\(crY a b c d).natAbs<2^(n+n+1+(n+n+1)+1)/\(crW a b c d).natAbs<2^(n+n+1+(n+n+1)+1):=by
 have l:∀{p q:Q3},PQ n p->PQ n q->(lnA p.x p.y p.w q.x q.y q.w).natAbs<2^(n+n+1)/\(lnB p.x p.y p.w q.x q.y q.w).natAbs<2^(n+n+1)/\(lnC p.x p.y p.w q.x q.y q.w).natAbs<2^(n+n+1):=fun hp hq=>
  ⟨zdv (zas hp.ly hq.lw) (zas hp.lw hq.ly),zdv (zas hp.lw hq.lx) (zas hp.lx hq.lw),zdv (zas hp.lx hq.ly) (zas hp.ly hq.lx)⟩
 obtain⟨a1,b1,c1⟩:=l ha hb;obtain⟨a2,b2,c2⟩:=l hc hd;exact⟨zdv (zas b1 c2) (zas c1 b2),zdv (zas c1 a2) (zas a1 c2),zdv (zas a1 b2) (zas b1 a2)⟩
def LR{α:Type}(R:Hp->Addr->α->Prop)(H:Hp)(ys:List V)(as:List α):Prop:=ys.length=as.length/\∀(j:Nat)(v:V),ys[j]?=some v->∃(p:Addr)(a:α),v=.ref p/\as[j]?=some a/\R H p a
section
variable{α:Type}{R:Hp->Addr->α->Prop}
theorem LR.ts(hR:∀H H' p a,zbp H H'->R H p a->R H' p a){H H':Hp}{ys:List V}{as:List α}(h:LR R H ys as)(g:zbp H H'):LR R H' ys as:=⟨h.1,fun j v z=>by
 obtain⟨p,d,e,f,s⟩:=h.2 j v z;exact⟨p,d,e,f,hR _ _ _ _ g s⟩⟩
theorem LR.nil{H:Hp}:LR R H [] []:=⟨rfl,fun j v z=>by cases z⟩
theorem LR.app{H:Hp}{ys zs:List V}{as bs:List α}(h:LR R H ys as)(h':LR R H zs bs):LR R H (ys++zs) (as++bs):=by
 refine⟨by rw[kO,kO,h.1,h'.1],fun j v z=>?_⟩
 by_cases hj:j<ys.length
 ·rw[pj hj] at z;obtain⟨q,e,f,g,t⟩:=h.2 j v z;exact⟨q,e,f,by rw[pj (by rw[←h.1];exact hj)];exact g,t⟩
 ·rw[pY (by omega)] at z
  obtain⟨q,e,f,g,t⟩:=h'.2 _ v z;exact⟨q,e,f,by rw[pY (by rw[←h.1];omega),←h.1];exact g,t⟩
theorem LR.one{H:Hp}{p:Addr}{a:α}(s:R H p a):LR R H [.ref p] [a]:=⟨rfl,fun j v z=>by
 cases j with
 |zero=>cases z;exact⟨p,a,rfl,rfl,s⟩
 |succ n=>cases z⟩
theorem LR.snoc{H:Hp}{ys:List V}{as:List α}{p:Addr}{a:α}(h:LR R H ys as)(s:R H p a):LR R H (ys++[.ref p]) (as++[a]):=h.app (.one s)
theorem LR.at{H:Hp}{ys:List V}{as:List α}(h:LR R H ys as){j:Nat}(hj:j<ys.length):∃(p:Addr)(a:α),ys[j]?=some (.ref p)/\as[j]?=some a/\R H p a:=by
 obtain⟨p,a,e,f,r⟩:=h.2 j ys[j] (kK hj);exact⟨p,a,by rw[kK hj,e],f,r⟩
theorem LR.cons_inv{H:Hp}{v:V}{vs:List V}{as:List α}(h:LR R H (v::vs) as):∃a as',as=a::as'/\(∃p,v=.ref p/\R H p a)/\LR R H vs as':=by
 cases as with
 |nil=>cases h.1
 |cons a as'=>
  refine⟨a,as',rfl,?_,Ea h.1,fun j u z=>h.2 (j+1) u z⟩;obtain⟨p,b,e,f,r⟩:=h.2 0 v rfl
  cases f;exact⟨p,e,r⟩
theorem LR.cons{H:Hp}{v:V}{vs:List V}{a:α}{as:List α}(h:∃p,v=.ref p/\R H p a)(t:LR R H vs as):LR R H (v::vs) (a::as):=by
 obtain⟨p,rfl,r⟩:=h;exact(LR.one r).app t
theorem LR.perm{H:Hp}{vs ys:List V}(h:vs.Perm ys):∀{as:List α},LR R H vs as->∃as',as.Perm as'/\LR R H ys as':=by
 induction h with
 |nil=>exact fun{as} t=>⟨as,.refl _,t⟩
 |cons v _ ih=>
  intro as t;obtain⟨a,as',rfl,hp,t'⟩:=t.cons_inv;obtain⟨bs,pb,tb⟩:=ih t';exact⟨a::bs,pb.cons a,.cons hp tb⟩
 |swap u v l=>
  intro as t;obtain⟨a,as',rfl,hp,t'⟩:=t.cons_inv;obtain⟨b,as2,rfl,hq,t2⟩:=t'.cons_inv;exact⟨b::a::as2,.swap b a as2,.cons hq (.cons hp t2)⟩
 |trans _ _ i1 i2=>
  intro as t;obtain⟨bs,p1,t1⟩:=i1 t;obtain⟨cs,p2,t2⟩:=i2 t1;exact⟨cs,p1.trans p2,t2⟩
def zrh(R:Hp->Addr->α->Prop)(as:List α)(H2:Hp)(D:Addr):Nat->List V->Hp->Prop:=fun i ys H'=>Same H2 H'/\H' D=some (.lst ys)/\ys.length=i/\LR R H' ys (as.take i)
theorem zku{as:List α}{H2:Hp}{D:Addr}(hD:H2 D=none):zrh R as H2 D 0 [] (upd H2 D (.lst [])):=⟨za4 hD _,upd_same,rfl,by rw[uG];exact .nil⟩
theorem zkv(hR:∀H H' p a,zbp H H'->R H p a->R H' p a){m:Nat}{H2 H3 H4:Hp}{D:Addr}{i:Nat}{ys:List V}{p:Addr}{as:List α}{a:α}(hD:H2 D=none)(hm:m<100000)(iv:zrh R as H2 D i ys H3)(hi:i<m)(ha:as[i]?=some a)(g4:Same H3 H4)(hp:R H4 p a):CPut m (zrh R as H2 D) D i (.ref p) H4:=by
 obtain⟨g3',hD3,hy,hall⟩:=iv;have hD4:=g4 _ _ hD3;refine cw_put hi hD4 (by rw[hy];exact Cr hi (Cr hm (by decide))) ⟨zav (g3'.trans g4) hD,upd_same,by rw[kO,hy];rfl,?_⟩
 rw[pi,ha];exact((hall.ts hR (zaf g4)).snoc hp).ts hR (zet hD4)
end
theorem op_eqK{X:Cx}{K':kJ}(hK:X.K=K')(hu:X.A.units+64<cLine):OpR X (Qj .Eq) (rEqD K'):=by subst hK;exact zre hu
theorem zg2{X:Cx}(hu:X.A.units+80<cLine):zlj X KPp:=zlo (by omega)
def QH(H:Hp)(p:Addr)(r:Q3):Prop:=H p=some (.tup [.int r.x,.int r.y,.int r.w])/\PQ 700 r
theorem zjh:∀(H H':Hp)(p:Addr)(r:Q3),zbp H H'->QH H p r->QH H' p r:=fun _ _ _ _ g h=>⟨g _ _ h.1,h.2⟩
theorem QH.same{H H':Hp}{p:Addr}{r:Q3}(h:QH H p r)(g:Same H H'):QH H' p r:=⟨g _ _ h.1,h.2⟩
theorem QH.tb{H:Hp}{p:Addr}{r:Q3}(h:QH H p r){n:Nat}(hn:700<=n:=by decide):TB n H p r.x r.y r.w:=⟨h.1,Pt.bd h.2 hn⟩
theorem LR.same{H H':Hp}{ys:List V}{ps:List Q3}(h:LR QH H ys ps)(g:Same H H'):LR QH H' ys ps:=h.ts zjh (zaf g)
section
variable{P:ko}{w:pN}{K:kJ}{mg:Str->Option kB}{base:Heap}{ad:Nat->Addr}{fd:Nat->UU}
theorem small10k{n:Nat}(h:n<=20000):n<sizeLine:=uq h (by decide)
def StE(n:Nat)(H:Hp)(s:Addr)(e:Q3×Q3):Prop:=StQ n H s e.1 e.2
theorem zc9{n:Nat}:∀(H H':Hp)(p:Addr)(e:Q3×Q3),zbp H H'->StE n H p e->StE n H' p e:=fun _ _ _ _ g h=>h.ts g
theorem pt_oneN{n:Nat}{x y:Int}(hn:1<=n)(h1:x.natAbs<2^n)(h2:y.natAbs<2^n):PQ n ⟨x,y,1⟩:=⟨show(0:Int)<1 by decide,g3_one _ _,h1,h2,show 1<2^n from Nat.one_lt_two_pow (by omega)⟩
def natV(ns:List Nat):List V:=ns.map fun k:Nat=>V.int (k:Int)
theorem zft{ns:List Nat}{j:Nat}{v:V}(h:(natV ns)[j]?=some v):∃k:Nat,ns[j]?=some k/\v=V.int (k:Int):=by
 unfold natV at h;rw[kj] at h;obtain⟨k,h1,h2⟩:=ut.mp h;exact⟨k,h1,h2.symm⟩
theorem zc1(ns:List Nat):(natV ns).length=ns.length:=kP ..
theorem zhd(a b:List Nat):natV (a++b)=natV a++natV b:=uK
theorem zfy{ns:List Nat}{f:Nat->Bool}{j k:Nat}(h:ns[j]?=some k):(ns.take (j+1)).filter f=(ns.take j).filter f++if f k=true then[k] else[]:=by
 rw[pi,h,Cd]
 congr 1
 show List.filter f [k]=_
 by_cases c:f k=true
 ·rw[if_pos c,Ax,if_pos c];rfl
 ·rw[if_neg c,Ax,if_neg c];rfl
def zQ:Q3×Q3:=(⟨0,0,1⟩,⟨0,0,1⟩)
theorem zew{ns:List Nat}{f:Nat->Bool}{H2 H3:Hp}{D:Addr}{i k:Nat}{us:List V}{c:Bool}(hi:i<(natV ns).length)(hk:ns[i]?=some k)(hn:ns.length<=19999)(g:Same H2 H3)(hD:H2 D=none)(hD3:H3 D=some (.lst us))(eu:us=natV ((ns.take i).filter f))(ef:f k=c):
  if c=true then CPut (natV ns).length (fun j us H'=>Same H2 H'/\H' D=some (.lst us)/\us=natV ((ns.take j).filter f)) D i (.int (k:Int)) H3 else zno (natV ns).length (fun j us H'=>Same H2 H'/\H' D=some (.lst us)/\us=natV ((ns.take j).filter f)) i H3:=by
 refine ite2 (fun c'=>cw_put hi hD3 (small10k ?_) ⟨zav g hD,upd_same,?_⟩) (fun c'=>cw_skip hi (ys:=us) ⟨g,hD3,?_⟩)
 ·rw[eu,zc1];refine pP (Qd _ _) ?_;rw[pA];omega
 ·rw[zfy hk,ef,if_pos c',zhd,eu];rfl
 ·rw[zfy hk,ef,if_neg c',uv,eu]
def kQ(r:Q3):List Key:=[.inl r.x,.inl r.y,.inl r.w]
theorem zin{p q:Q3}(h:kQ p=kQ q):p=q:=by
 obtain⟨x,y,w⟩:=p;obtain⟨x',y',w'⟩:=q;unfold kQ at h
 cases h;rfl
theorem kQ_map(r:Q3):(kQ r).map kV=[.int r.x,.int r.y,.int r.w]:=rfl
def KyOk(H:Hp)(kvs:List (List Key×V))(g:Int)(ps:List Q3):Prop:=∀p,p∈ps->∃b,valV kvs (kQ p)=some (.ref b)/\H b=some (.tup [.int (kyQ g p).1,.int (kyQ g p).2])
theorem KyOk.ts{H H':Hp}{kvs:List (List Key×V)}{g:Int}{ps:List Q3}(h:KyOk H kvs g ps)(t:zbp H H'):KyOk H' kvs g ps:=fun p hp=>by
 obtain⟨b,e,hb⟩:=h p hp;exact⟨b,e,t _ _ hb⟩
def sp_okeys:Sp:=fun vs H Q _=>∃(l:Addr)(ys:List V)(ps:List Q3),vs=[.ref l]/\H l=some (.lst ys)/\ys.length<=20000/\LR QH H ys ps/\
 ∀d kvs g(qs:List Q3) H',Same H H'->H' d=some (.dT kvs)->0<g->(∀p,p∈ps->p.w<=g)->KyOk H' kvs g ps->kvs.map QP=qs.map kQ->qs.Nodup->(∀p,p∈qs↔p∈ps)->qs.length<=ps.length->Q (.ref d) H'
theorem zt1{H:Hp}{D:Addr}{kvs:List (List Key×V)}{o:HO}(h:H D=some (.dT kvs)):zbp H (upd H D o):=fun b xs q=>by
 rw[za8 (fun z=>by rw[z,h] at q;cases q)]
 exact q
theorem zeq(T:Txt K mg ad fd):FnOk P w K mg base CX0 1 (ad 10) (fd 10) ["points"] sp_okeys:=by
 refine T.order_keys.fn.ok zd0 (fun vs H Q E h=>?_) (fun cdv A outer s H vs Q E hr h=>?_)
 ·obtain⟨l,ys,ps,rfl,_⟩:=h;rfl
 obtain⟨l,ys,ps,rfl,hl,hn,hp,k⟩:=h;have hs:∀p,p∈ps->0<p.w/\p.x.natAbs<2^720/\p.y.natAbs<2^720/\p.w.natAbs<2^720:=fun p hp'=>by
  obtain⟨j,hj⟩:=pX.mp hp';have hj':j<ys.length:=by rw[hp.1];exact(kF.mp hj).1
  obtain⟨b,r,_,e2,hr⟩:=hp.at hj';rw[hj] at e2
  cases e2;exact⟨hr.2.pos,zan hr.2.lx (by decide),zan hr.2.ly (by decide),zan hr.2.lw (by decide)⟩
 have zR:=@pss5;have zh:=@zbv;have yu:=@zps;have zj:=@pa1;have zA:=@ze0;unfold L2.CompBody at zA;have zq:=@zc4;have qpv:=@pv;have zo:=@zbw;have zM:=@zgi;have zb:=@zck;have za:=@zat;have yv:=@pk_cons;have yw:=@pk_nil;have zc:=@zd7;have yi:=@zna;have zu:=@zdw;have zf:=@zac;have zm:=@zdb;have yj:=@pt_cmp;have yk:=@zkd;have ya:=@zm4;have zr:=@zdg;have zg:=@pa2;have zn:=@zau;have zd:=@zaj;generalize @PE=QE,@PT=QT,@PW=QW,@PA=QA,@PS=QS,@PSs=QSs,@PG=QG,@PGs=QGs,@L2.PI=QI,@PO=QO,@PIf=QIf,@L2.PC=QC,@L2.PK=QK at zR zh yu zj zA zq qpv zo zM zb za yv yw zc yi zu zf zm yj yk ya zr zg zn zd⊢;refine⟨_,
  (zR
   (zh (i:=1) zd0.nd rfl (km rfl) (yu (zs9 rfl) rfl T.b_max bt_max (zj (zA (dsc:=za0 zb2) (N:=["points","greatest","scale","keys","P"]) (own:=["P"]) (ix:=[]) rfl rfl rfl ⟨rfl,by decide+kernel,by decide+kernel,by decide+kernel,by decide+kernel⟩ (zq (qpv 0)) (fun cl C fp s2 H2 xe=>⟨(zo (i:=0) (show QF (["P"]:List Str) from by decide+kernel) rfl (km rfl)),zM,(zb za2 (qpv 0) za fun _ _=>rfl)⟩)) zcj) (yv za yw)))
   (zh (i:=2) zd0.nd rfl (km rfl) (zc zaa (qpv 1) (qpv 1)))
   (zh (i:=3) zd0.nd rfl (km rfl) yi)
   (zu pT rfl (zq (qpv 0)) (zo (i:=4) zd0.nd rfl (km rfl)) (zf (zm (yj (yk (zfs hr) (qpv 4) (qpv 3))) (zf (ya (zfs hr) (qpv 3) (qpv 4) (zr (zg (zc zdj (zc zaa (zb za2 (qpv 4) za fun _ _=>rfl) (qpv 2)) (zb za2 (qpv 4) za fun _ _=>rfl)) zam (zc zdj (zc zaa (zb za2 (qpv 4) za fun _ _=>rfl) (qpv 2)) (zb za2 (qpv 4) za fun _ _=>rfl)) zam)) rfl)) zn)))
   (zd (qpv 3)))
  ,?_⟩
 clear zR zh yu zj zA zq qpv zo zM zb za yv yw zc yi zu zf zm yj yk ya zr zg zn zd QE QT QW QA QS QSs QG QGs QI QO QIf QC QK
 dsimp! [L2.start]
 simp! [tCBK];refine zb9 ?_;simp! [zcm];refine⟨⟨_,.of hl⟩,fun D hD=>?_⟩;refine zax (xs:=ys) (fun i zs H'=>Same H H'/\H' D=some (.lst zs)/\zs=((ps.take i).map fun p=>V.int p.w)) ⟨za4 hD _,upd_same,by rw[uG];rfl⟩ (fun i zs H' p=>.of (p.1 _ _ hl)) ?_ ?_
 ·rintro i zs H1 v hi hv ⟨g1,hD1,ez⟩;obtain⟨p,r,rfl,hr',hq⟩:=hp.2 i v hv;have hq1:H1 p=some (.tup [.int r.x,.int r.y,.int r.w]):=g1 _ _ hq.1;simp! [hq1];refine cw_put hi hD1 ?_ ⟨zav g1 hD,upd_same,?_⟩
  ·rw[ez,kP,pA];exact small10k (by have:=BP i ps.length;omega)
  ·rw[pi,hr',ez,uK];rfl
 ·rintro zs H1 ⟨g1,hD1,ez⟩;rw[pH (by rw[hp.1];exact kM _)] at ez
  refine⟨D,ps.map fun p=>p.w,1,rfl,rfl,by rw[hD1,ez,QV];rfl,fun g gm gi=>?_⟩
  have g0:0<g:=by
   rcases gi with gi|gi
   ·obtain⟨p,hp',e⟩:=pd.mp gi;have:=(hs p hp').1;omega
   ·omega
  have gs:g.natAbs<2^720:=by
   rcases gi with gi|gi
   ·obtain⟨p,hp',e⟩:=pd.mp gi;rw[←e];exact(hs p hp').2.2.2
   ·rw[gi.2];decide
  refine⟨g,rfl,g,rfl,cbig gs gs,fun d hd=>?_⟩;have gg:(g*g).natAbs<2^1440:=by
   rw[vE];exact ku (DT gs gs) (by rw[←Em];exact Um (by decide) (by decide))
  refine zbo ?_;simp! [zcm];have g2:=za4 hd (HO.dT []);refine⟨⟨_,.of (g2 _ _ (g1 _ _ hl))⟩,?_⟩;refine zbh (K:=K) (a:=l) (xs:=ys) (fun i σ H'=>Same H1 H'/\∃(kvs:List (List Key×V))(o:Option V),σ=[some (.ref l),some (.int g),some (.int (g*g)),some (.ref d),o]/\H' d=some (.dT kvs)/\kvs.length<=i/\KyOk H' kvs g (ps.take i)/\(∀p,(valV kvs (kQ p)).isSome=true->p∈ps.take i)/\∃qs:List Q3,kvs.map QP=qs.map kQ/\qs.Nodup/\(∀p,p∈qs↔p∈ps.take i)/\qs.length<=i)
   ⟨g2,[],none,rfl,upd_same,kM _,fun p hp'=>(by rw[uG] at hp';cases hp'),fun p z=>(by cases z),[],rfl,.nil,fun p=>(by rw[uG]),kM _⟩ (fun i σ H' _ iv=>.of (iv.1 _ _ (g1 _ _ hl))) ?_ ?_
  ·intro _ _;rintro i v σ H2 hi ⟨g3,kvs,o,rfl,hd2,hk,ky,kb,qs,q1,q2,q3,q4⟩;obtain⟨p,r,rfl,hr',hq⟩:=hp.2 i v hi;have hq2:H2 p=some (.tup [.int r.x,.int r.y,.int r.w]):=g3 _ _ (g1 _ _ hq.1);simp! [zl4,sDPut,hq2];obtain⟨r0,rx,ry,rw'⟩:=hs r (kZ hr');have wn:r.w≠0:=by omega
   rw[pi,hr'];refine⟨_,.t (k:=kQ r) hd2 hq2,ite2 (fun c=>⟨cbig rx gg,cdivb wn rw',cbig ry gg,cdivb wn rw',fun t ht=>?_⟩) fun c=>?_⟩
   ·rw[vh _ (by omega),vh _ (by omega)]
    have nv:valV kvs (kQ r)=none:=by
     cases e:valV kvs (kQ r) with
     |none=>rfl
     |some u=>rw[e] at c;cases c
    have g4:=za4 ht (HO.tup [V.int (r.x*(g*g)/r.w),V.int (r.y*(g*g)/r.w)]);have ht4:upd H2 t (HO.tup [V.int (r.x*(g*g)/r.w),V.int (r.y*(g*g)/r.w)]) t=some (HO.tup [V.int (r.x*(g*g)/r.w),V.int (r.y*(g*g)/r.w)]):=upd_same;generalize upd H2 t (HO.tup [V.int (r.x*(g*g)/r.w),V.int (r.y*(g*g)/r.w)])=H4 at*;have hd4:=g4 _ _ hd2;refine⟨_,.t (k:=kQ r) hd4 (g4 _ _ hq2) (small10k (by have:=(kF.mp hi).1;omega)),zav (g3.trans g4) hd,_,upd_same,pP (zci _ _ _) (by omega),fun p' hp'=>?_,fun p' z=>?_,qs++[r],?_,?_,fun p'=>?_,by rw[kO];exact Qo q4⟩
    ·rw[zej]
     by_cases e:kQ p'=kQ r
     ·rw[if_pos e];have e':=zin e;subst e';exact⟨t,rfl,zt1 hd4 _ _ ht4⟩
     ·rw[if_neg e];rcases kY.mp hp' with hp'|hp'
      ·obtain⟨b,e1,e2⟩:=ky p' hp';exact⟨b,e1,zt1 hd4 _ _ (g4 _ _ e2)⟩
      ·have e':p'=r:=by simpa using hp'
       exact absurd (by rw[e']) e
    ·rw[zej] at z
     by_cases e:kQ p'=kQ r
     ·rw[zin e];exact kN _ (by simp)
     ·rw[if_neg e] at z;exact pR _ (kb p' z)
    ·rw[zha _ nv,uK,uK,q1];rfl
    ·exact jl.mpr ⟨q2,Qm _ _,fun a ha b hb e=>by
      rw[kf.mp hb] at e;subst e;obtain⟨b',e1,_⟩:=ky a ((q3 a).mp ha);rw[nv] at e1
      cases e1⟩
    ·rw[kY,kY,q3]
     simp
   ·have z:(valV kvs (kQ r)).isSome=true:=by
     cases e:(valV kvs (kQ r)).isSome with
     |true=>rfl
     |false=>exact absurd (by rw[e];rfl) c
    refine⟨g3,kvs,hd2,by omega,fun p' hp'=>?_,fun p' z'=>pR _ (kb p' z'),qs,q1,q2,fun p'=>?_,by omega⟩
    rcases kY.mp hp' with hp'|hp'
    ·exact ky p' hp'
    ·have e':p'=r:=by simpa using hp'
     rw[e'];exact ky r (kb r z)
    ·rw[kY,q3];refine⟨.inl,fun h=>h.elim id fun h=>?_⟩;have e':p'=r:=by simpa using h
     rw[e'];exact kb r z
  ·rintro σ H2 ⟨g3,kvs,o,rfl,hd2,hk,ky,kb,qs,q1,q2,q3,q4⟩;rw[pH (by rw[hp.1];exact kM _)] at ky q3
   simp! [];exact k d kvs g qs H2 (g1.trans g3) hd2 g0 (fun p hp'=>gm _ (pd.mpr ⟨p,hp',rfl⟩)) ky q1 q2 q3 (by rw[←hp.1];exact q4)
def S2H(H:Hp)(p:Addr)(e:Q3×Q3):Prop:=∃c d,H p=some (.tup [.ref c,.ref d])/\QH H c e.1/\QH H d e.2
theorem zgl:∀(H H':Hp)(p:Addr)(e:Q3×Q3),zbp H H'->S2H H p e->S2H H' p e:=fun _ _ _ _ g⟨c,d,h1,h2,h3⟩=>⟨c,d,g _ _ h1,zjh _ _ _ _ g h2,zjh _ _ _ _ g h3⟩
def zqc:Sp:=fun vs H Q _=>∃(l:Addr)(ys:List V)(ss:List (Q3×Q3)),vs=[.ref l]/\H l=some (.lst ys)/\ys.length<=63/\LR S2H H ys ss/\∀D zs H',H D=none->Same H H'->H' D=some (.lst zs)->zs.length=2*ys.length->LR QH H' zs (ss.flatMap fun s=>[s.1,s.2])->Q (.ref D) H'
theorem zoo(T:Txt K mg ad fd):FnOk P w K mg base CX0 1 (ad 13) (fd 13) ["stretches"] zqc:=by
 refine T.ends_of.fn.ok zgj (fun vs H Q E h=>?_) (fun cdv A outer s H vs Q E hr h=>?_)
 ·obtain⟨l,ys,ss,rfl,_⟩:=h;rfl
 obtain⟨l,ys,ss,rfl,hl,hn,hs,k⟩:=h;have zy:=@pss3;have zh:=@zbv;have zC:=@zfi;have zG:=@zds;have zu:=@zdw;have zq:=@zc4;have qpv:=@pv;have zo:=@zbw;have zf:=@zac;have zE:=@zf4;have zJ:=@zlm;have zj:=@pa1;have zd:=@zaj;generalize @PE=QE,@PT=QT,@PW=QW,@PA=QA,@PS=QS,@PSs=QSs,@PG=QG,@PGs=QGs,@L2.PI=QI,@PO=QO,@PIf=QIf at zy zh zC zG zu zq qpv zo zf zE zJ zj zd⊢;refine⟨_,
  (zy
   (zh (i:=1) zgj.nd rfl (km rfl) (zC zG))
   (zu pT rfl (zq (qpv 0)) (zo (i:=2) zgj.nd rfl (km rfl)) (zf (zE (zJ ug Uw jF zqf (qpv 1) (zj (qpv 2) za1)))))
   (zd (qpv 1)))
  ,?_⟩
 clear zy zh zC zG zu zq qpv zo zf zE zJ zj zd QE QT QW QA QS QSs QG QGs QI QO QIf
 dsimp! [L2.start]
 simp! [];intro D hD;have gD:=za4 hD (HO.lst []);refine zbo ?_;simp! [zcm];refine⟨⟨_,.of (gD _ _ hl)⟩,?_⟩;refine zbh (K:=K) (a:=l) (xs:=ys) (fun i σ H'=>Same H H'/\∃(zs:List V)(o:Option V),σ=[some (.ref l),some (.ref D),o]/\H' D=some (.lst zs)/\zs.length=2*i/\LR QH H' zs ((ss.take i).flatMap fun s=>[s.1,s.2])) ⟨gD,[],none,rfl,upd_same,rfl,by rw[uG];exact .nil⟩ (fun i σ H' _ iv=>.of (iv.1 _ _ hl)) ?_ ?_
 ·intro _ _;rintro i v σ H2 hi ⟨g2,zs,o,rfl,hD2,hz,hq⟩;obtain⟨p,e,rfl,he',c,d,h1,h2,h3⟩:=hs.2 i v hi;have hi':=(kF.mp hi).1;have h1':=g2 _ _ h1;simp! [h1'];refine⟨zff hD2,D,p,zs,[.ref c,.ref d],rfl,rfl,hD2,h1',ud (small1000 (n:=zs.length+2) (by omega)),zav g2 hD,_,upd_same,by rw[kO,hz];show 2*i+2=_;omega,?_⟩
  rw[pi,he',CJ];exact(hq.app ((LR.one (R:=QH) (h2.same g2)).app (.one (h3.same g2)))).ts zjh (zet hD2)
 ·rintro σ H2 ⟨g2,zs,o,rfl,hD2,hz,hq⟩;simp! [];rw[pH (UF hs.1.symm)] at hq;exact k D zs H2 hD g2 hD2 hz hq
def lamFor(st:Stmt):Pos:=match(za5 st).getD 6 (.Pass ⟨0,0,0,0⟩) with
 |.For _ (.Call _ _ (⟨_,.Lambda _ _ _ lp,_⟩::_) _) _ _ _=>lp
 |_=>⟨0,0,0,0⟩
def zje:Pos:=lamFor zae
def qlN:Str:=(Uf "near_pairs" (za0 zae) 0 0 .none).qual++"<lambda>"
def P2H(H:Hp)(p:Addr)(a:Int×Int):Prop:=H p=some (.tup [.int a.1,.int a.2])
theorem p2_ts:∀(H H':Hp)(p:Addr)(a:Int×Int),zbp H H'->P2H H p a->P2H H' p a:=fun _ _ _ _ g h=>g _ _ h
theorem zpv(a b:Int×Int):ltK a b=lt2 a b:=by
 unfold ltK lt2 lexB
 by_cases h:a.1=b.1
 ·rw[if_pos h,if_pos h]
  by_cases h2:a.2=b.2
  ·rw[if_pos h2];exact(decide_eq_false (by omega)).symm
  ·rw[if_neg h2]
 ·rw[if_neg h,if_neg h]
def PrH(H:Hp)(p:Addr)(e:Nat×Nat):Prop:=H p=some (.tup [.int (e.1:Int),.int (e.2:Int)])
theorem zlz:∀(H H':Hp)(p:Addr)(a:Nat×Nat),zbp H H'->PrH H p a->PrH H' p a:=fun _ _ _ _ g h=>g _ _ h
theorem zdc.same{P:Addr}{H H' H'':Hp}(g:zdc P H H')(g':Same H' H''):zdc P H H'':=fun b u nb e=>g' _ _ (g b u nb e)
theorem rng_at{n i:Nat}(h:i<n):(rngV n).getD i .non=V.int (i:Int):=by
 unfold rngV;rw[kD,kj,gX h];rfl
theorem lam_lst{H H':Hp}{tb Pa:Addr}{lp:Pos}{ql:Str}{xs:List V}(h:zah H tb lp ql)(g:zdc Pa H H')(hp:H Pa=some (.lst xs)):zah H' tb lp ql:=by
 obtain⟨ps,h1,h2,h3⟩:=h;refine⟨ps,g _ _ (fun z=>by rw[z,hp] at h1;cases h1) h1,h2,h3.imp id fun⟨c,e,hc⟩=>⟨c,e,g _ _ (fun z=>by rw[z,hp] at hc;cases hc) hc⟩⟩
def tri:Nat->Nat
 |0=>0
 |n+1=>tri n+n
theorem zjb:∀{m n:Nat},m<=n->tri m<=tri n
 |m,0,h=>by rw[Ek.mp h];exact kM _
 |m,n+1,h=>by
  rcases Cu m (n+1) with c|c
  ·exact pP (zjb (Cy c)) (At _ _)
  ·rw[BU h c];exact kM _
theorem tri_63{n:Nat}(h:n<=63):tri n<=1953:=zjb (n:=63) h
def sp_near(tb:Addr)(lp:Pos)(ql:Str):Sp:=fun vs H Q _=>∃(l:Addr)(ys:List V)(ss:List (Q3×Q3)),vs=[.ref l]/\H l=some (.lst ys)/\ys.length<=63/\LR S2H H ys ss/\zah H tb lp ql/\∀D pv(ps:List (Nat×Nat))(g:Int) H',H D=none->zdc tb H H'->zah H' tb lp ql->H' D=some (.lst pv)->pv.length<=tri ys.length->LR PrH H' pv ps->0<g->(∀p,p∈ss.flatMap (fun s=>[s.1,s.2])->p.w<=g)->(∀e,e∈ps->e.1<ys.length/\e.2<ys.length)->(∀a b,a<ys.length->b<ys.length->a≠b->Nigh g (ss.getD a zQ) (ss.getD b zQ)->(a,b)∈ps∨(b,a)∈ps)->Q (.ref D) H'
theorem zjk(T:Txt K mg ad fd)(hK:K.In base)(hB:∀b,b∈([ad 48,ad 50,ad 52]:List Addr)->base.BuiltinsAt mg b):FnOk P w K mg base CX0 3 (ad 26) (fd 26) ["stretches"] (sp_near (ad 52) zje qlN):=by
 refine T.near_pairs_c.ok zak (fun vs H Q E h=>?_) (fun A outer s H vs Q E hr h=>?_)
 ·obtain⟨l,ys,ss,rfl,_⟩:=h;rfl
 obtain⟨l,ys,ss,rfl,hl,hn,hs,lt,k⟩:=h;have yx:=@pss8;have zh:=@zbv;have ze:=@zap;have zj:=@pa1;have qpv:=@pv;have zA:=@ze0;unfold L2.CompBody at zA;have zq:=@zc4;have zo:=@zbw;have zM:=@zgi;have zw:=@zce;have zg:=@pa2;have zb:=@zck;have zI:=@zgk;have za:=@zat;have zC:=@zfi;have zG:=@zds;have zu:=@zdw;have yy:=@pe_sortR;have yl:=@pss7;have yb:=@zqj;unfold L2.CompBody at yb;have zK:=@zgr;have zp:=@zb8;have zE:=@zf4;have zJ:=@zlm;have zr:=@zdg;have zd:=@zaj;generalize @PE=QE,@PT=QT,@PW=QW,@PA=QA,@PS=QS,@PSs=QSs,@PG=QG,@PGs=QGs,@L2.PI=QI,@PO=QO,@PIf=QIf at yx zh ze zj qpv zA zq zo zM zw zg zb zI za zC zG zu yy yl yb zK zp zE zJ zr zd⊢;refine⟨_,
  (yx
   (zh (i:=1) zak.nd rfl (vM rfl) (ze (zeq T) (hr.mono (by omega)) rfl T.order_keys.mg T.order_keys.fn.kp T.order_keys.bn .nil pass0 (zj (ze (zoo T) (hr.mono (by omega)) rfl T.ends_of.mg T.ends_of.fn.kp T.ends_of.bn .nil pass0 (zj (qpv 0) za1)) zar)))
   (zh (i:=2) zak.nd rfl (vM rfl) (zA (dsc:=za0 zae) (N:=["stretches","keys","lows","highs","lasts","pairs","standing","number","first","low","high","near"]) (own:=["S"]) (ix:=[1]) rfl rfl rfl ⟨rfl,by decide+kernel,by decide+kernel,by decide+kernel,by decide+kernel⟩ (zq (qpv 0)) (fun cl C fp s2 H2 xe=>⟨(zo (i:=0) (show QF (["S","keys"]:List Str) from by decide+kernel) rfl (km rfl)),zM,(zw (zkt rfl) rfl T.b_min bt_min (zg (zb za2 (zI (zfs hr) (qpv 1) (zb za2 (qpv 0) za fun _ _=>rfl) fun _ _=>rfl) za fun _ _=>rfl) za3 (zb za2 (zI (zfs hr) (qpv 1) (zb za2 (qpv 0) za fun _ _=>rfl) fun _ _=>rfl) za fun _ _=>rfl) za3))⟩)))
   (zh (i:=3) zak.nd rfl (vM rfl) (zA (dsc:=za0 zae) (N:=["stretches","keys","lows","highs","lasts","pairs","standing","number","first","low","high","near"]) (own:=["S"]) (ix:=[1]) rfl rfl rfl ⟨rfl,by decide+kernel,by decide+kernel,by decide+kernel,by decide+kernel⟩ (zq (qpv 0)) (fun cl C fp s2 H2 xe=>⟨(zo (i:=0) (show QF (["S","keys"]:List Str) from by decide+kernel) rfl (km rfl)),zM,(zw (zqb rfl) rfl T.b_max bt_max (zg (zb za2 (zI (zfs hr) (qpv 1) (zb za2 (qpv 0) za fun _ _=>rfl) fun _ _=>rfl) za fun _ _=>rfl) za3 (zb za2 (zI (zfs hr) (qpv 1) (zb za2 (qpv 0) za fun _ _=>rfl) fun _ _=>rfl) za fun _ _=>rfl) za3))⟩)))
   (zh (i:=4) zak.nd rfl (vM rfl) (zA (dsc:=za0 zae) (N:=["stretches","keys","lows","highs","lasts","pairs","standing","number","first","low","high","near"]) (own:=["S"]) (ix:=[1]) rfl rfl rfl ⟨rfl,by decide+kernel,by decide+kernel,by decide+kernel,by decide+kernel⟩ (zq (qpv 0)) (fun cl C fp s2 H2 xe=>⟨(zo (i:=0) (show QF (["S","keys"]:List Str) from by decide+kernel) rfl (km rfl)),zM,(zI (zfs hr) (qpv 1) (zb za2 (qpv 0) za fun _ _=>rfl) fun _ _=>rfl)⟩)))
   (zh (i:=5) zak.nd rfl (km rfl) (zC zG))
   (zh (i:=6) zak.nd rfl (km rfl) (zC zG))
   (zu pT rfl (zq (yy (P:=ad 52) (c0:=ad 51) (x:="k") (clos:=[("stretches",s.heap.objs.size+1),("keys",s.heap.objs.size+9)]) (js:=[0,1]) (zg2 (hu80 hr)) hr rfl T.b_sorted rfl T.b_range (zj (zw zcx rfl T.b_len zfh (zj (qpv 0) za1)) zar) ⟨rfl,rfl,rfl,rfl,(show ∀y,y∈(["stretches","keys"]:List Str)->_=some uR from by decide+kernel),by decide+kernel,(show ∀z,z∈(Scope.names _)->z.2=uR->z.1∈(["stretches","keys"]:List Str) from by decide+kernel)⟩ (show QF (["stretches","keys"]:List Str) from by decide+kernel) (.cons rfl rfl rfl (.cons rfl rfl rfl .nil)) rfl rfl rfl (gY hK T.near_pairs_c.hd) (hB _ (by simp)) (fun _ _ _ _=>rfl) (by intro fa2 c2 A2 s3 H3 hu2;exact(zI (by show A2.units+3+1<cLine;omega) (qpv 2) (zb za2 (zb zbl (qpv 1) (qpv 0) fun _ _=>rfl) za fun _ _=>rfl) fun _ _=>rfl)))) (zo (i:=7) zak.nd rfl (vM rfl)) (yl
   (zh (i:=8) zak.nd rfl (vM rfl) (zI (zfs hr) (qpv 1) (zb za2 (zb zbl (qpv 0) (qpv 7) fun _ _=>rfl) za fun _ _=>rfl) fun _ _=>rfl))
   (zh (i:=9) zak.nd rfl (vM rfl) (zb zbl (qpv 2) (qpv 7) fun _ _=>rfl))
   (zh (i:=10) zak.nd rfl (vM rfl) (zb zbl (qpv 3) (qpv 7) fun _ _=>rfl))
   (yb (i:=6) zak.nd rfl (km rfl) (dsc:=za0 zae) (N:=["stretches","keys","lows","highs","lasts","pairs","standing","number","first","low","high","near"]) (own:=["other"]) (ix:=[4,8]) rfl rfl rfl ⟨rfl,by decide+kernel,by decide+kernel,by decide+kernel,by decide+kernel⟩ (zq (qpv 6)) (fun cl C fp s2 H2 xe=>⟨(zo (i:=0) (show QF (["other","lasts","first"]:List Str) from by decide+kernel) rfl (km rfl)),(zK (zp (op_ge2 (hu64 hr)) (zb zbl (qpv 1) (qpv 0) fun _ _=>rfl) (qpv 2) (nomark _))),(qpv 0)⟩))
   (yb (i:=11) zak.nd rfl (km rfl) (dsc:=za0 zae) (N:=["stretches","keys","lows","highs","lasts","pairs","standing","number","first","low","high","near"]) (own:=["other"]) (ix:=[2,10]) rfl rfl rfl ⟨rfl,by decide+kernel,by decide+kernel,by decide+kernel,by decide+kernel⟩ (zq (qpv 6)) (fun cl C fp s2 H2 xe=>⟨(zo (i:=0) (show QF (["other","lows","high"]:List Str) from by decide+kernel) rfl (km rfl)),(zK (zp op_le (zb zbl (qpv 1) (qpv 0) fun _ _=>rfl) (qpv 2) (nomark _))),(qpv 0)⟩))
   (zE (zJ ug Uw jF zrz (qpv 5) (zj (zA (dsc:=za0 zae) (N:=["stretches","keys","lows","highs","lasts","pairs","standing","number","first","low","high","near"]) (own:=["other"]) (ix:=[3,7,9]) rfl rfl rfl ⟨rfl,by decide+kernel,by decide+kernel,by decide+kernel,by decide+kernel⟩ (zq (qpv 11)) (fun cl C fp s2 H2 xe=>⟨(zo (i:=0) (show QF (["other","highs","number","low"]:List Str) from by decide+kernel) rfl (km rfl)),(zK (zp op_ge (zb zbl (qpv 1) (qpv 0) fun _ _=>rfl) (qpv 3) (nomark _))),(zr (zg (qpv 2) za1 (qpv 0) za1))⟩)) zcj)))
   (zE (zJ ug UI UJ ze7 (qpv 6) (zj (qpv 7) za1)))))
   (zd (qpv 5)))
  ,?_⟩
 clear yx zh ze zj qpv zA zq zo zM zw zg zb zI za zC zG zu yy yl yb zK zp zE zJ zr zd QE QT QW QA QS QSs QG QGs QI QO QIf
 dsimp! [L2.start]
 simp! [];refine⟨l,ys,ss,rfl,hl,hn,hs,fun D zs H1 hD g1 hD1 n1 hq=>?_⟩;refine⟨D,zs,_,rfl,hD1,by omega,hq,fun d kvs g qs H2 g2 hd2 gp gm ky q1 q2 q3 q4=>?_⟩
 have g02:=g1.trans g2;have hl2:=g02 _ _ hl;have hs2:=hs.ts zgl (zaf g02);have kk:∀(i:Nat)(e:Q3×Q3),ss[i]?=some e->(∃b,valV kvs (kQ e.1)=some (.ref b)/\H2 b=some (.tup [.int (kyQ g e.1).1,.int (kyQ g e.1).2]))/\∃b,valV kvs (kQ e.2)=some (.ref b)/\H2 b=some (.tup [.int (kyQ g e.2).1,.int (kyQ g e.2).2]):=fun i e he=>
  ⟨ky e.1 (vp.mpr ⟨e,kZ he,by simp⟩),ky e.2 (vp.mpr ⟨e,kZ he,by simp⟩)⟩
 refine zb9 ?_;simp! [zcm];refine⟨⟨_,.of hl2⟩,fun La hL1=>?_⟩;refine zax (xs:=ys) (fun i us H'=>Same H2 H'/\H' La=some (.lst us)/\us=((ss.take i).map (lowF g)).map V.int) ⟨za4 hL1 _,upd_same,by rw[uG];rfl⟩ (fun i us H' q=>.of (q.1 _ _ hl2)) ?_ ?_
 ·rintro i us H3 v hi hv ⟨g3,hL3,eu⟩;obtain⟨p,e,rfl,he',c,c2,h1,h2,h3⟩:=hs2.2 i v hv;obtain⟨⟨b,b1,b2⟩,b',b3,b4⟩:=kk i e he';have h1':=g3 _ _ h1;simp! [zhn,h1'];refine⟨_,by rw[←b1];exact .t (k:=kQ e.1) (g3 _ _ hd2) (g3 _ _ h2.1),b,rfl,_,g3 _ _ b2,_,at1,_,by rw[←b3];exact .t (k:=kQ e.2) (g3 _ _ hd2) (g3 _ _ h3.1),b',rfl,_,g3 _ _ b4,_,at1,_,rfl,_,rfl,?_⟩
  refine cw_put hi hL3 (small1000 (by rw[eu,kP,kP,pA];omega)) ⟨zav g3 hL1,upd_same,?_⟩
  rw[pi,he',uK,uK,eu];rfl
 rintro us1 H3 ⟨g3,hL3,eu1⟩;have hl3:=g3 _ _ hl2;refine zb9 ?_;simp! [zcm];refine⟨⟨_,.of hl3⟩,fun Lb hL2=>?_⟩;refine zax (xs:=ys) (fun i us H'=>Same H3 H'/\H' Lb=some (.lst us)/\us=((ss.take i).map (zgw g)).map V.int) ⟨za4 hL2 _,upd_same,by rw[uG];rfl⟩ (fun i us H' q=>.of (q.1 _ _ hl3)) ?_ ?_
 ·rintro i us H4 v hi hv ⟨g4,hL4,eu⟩;obtain⟨p,e,rfl,he',c,c2,h1,h2,h3⟩:=hs2.2 i v hv;obtain⟨⟨b,b1,b2⟩,b',b3,b4⟩:=kk i e he';have g24:=g3.trans g4;have h1':=g24 _ _ h1;simp! [zhn,h1'];refine⟨_,by rw[←b1];exact .t (k:=kQ e.1) (g24 _ _ hd2) (g24 _ _ h2.1),b,rfl,_,g24 _ _ b2,_,at1,_,by rw[←b3];exact .t (k:=kQ e.2) (g24 _ _ hd2) (g24 _ _ h3.1),b',rfl,_,g24 _ _ b4,_,at1,_,rfl,_,rfl,?_⟩
  refine cw_put hi hL4 (small1000 (by rw[eu,kP,kP,pA];omega)) ⟨zav g4 hL2,upd_same,?_⟩
  rw[pi,he',uK,uK,eu];rfl
 rintro us2 H4 ⟨g4,hL4,eu2⟩;have g24:=g3.trans g4;have hl4:=g24 _ _ hl2;refine zb9 ?_;simp! [zcm];refine⟨⟨_,.of hl4⟩,fun Lc hLc=>?_⟩;refine zax (xs:=ys) (zrh (fun H p s=>P2H H p (kyQ g s.2)) ss H4 Lc) (zku hLc) (fun i us H' q=>.of (q.1 _ _ hl4)) ?_ ?_
 ·rintro i us H5 v hi hv iv;obtain⟨g5,hL5,lu,hu⟩:=id iv;obtain⟨p,e,rfl,he',c,c2,h1,h2,h3⟩:=hs2.2 i v hv;obtain⟨_,b',b3,b4⟩:=kk i e he';have g25:=g24.trans g5;have h1':=g25 _ _ h1;simp! [zhn,h1'];refine⟨_,by rw[←b3];exact .t (k:=kQ e.2) (g25 _ _ hd2) (g25 _ _ h3.1),?_⟩
  exact zkv (R:=fun H p s=>P2H H p (kyQ g s.2)) (a:=e) (fun _ _ _ _=>p2_ts _ _ _ _) hLc (by omega) iv hi he' (.refl _) (g25 _ _ b4)
 rintro us3 H5 ⟨g5,hL5,lu3,hu3⟩;rw[pH (UF hs.1.symm)] at eu1 eu2 hu3;have g25:=g24.trans g5;intro Pa hPa;have nLa:La≠Pa:=za7 ((g4.trans g5) _ _ hL3) hPa;have nLb:Lb≠Pa:=za7 (g5 _ _ hL4) hPa;have nLc:Lc≠Pa:=za7 hL5 hPa;have nl_:l≠Pa:=za7 (g25 _ _ hl2) hPa;have nd_:d≠Pa:=za7 (g25 _ _ hd2) hPa;have s6:=za4 hPa (HO.lst []);have hPa6:upd H5 Pa (HO.lst []) Pa=some (.lst []):=upd_same;generalize upd H5 Pa (HO.lst [])=H6 at*;intro Sa hSa;have s7:=za4 hSa (HO.lst []);have hSa7:upd H6 Sa (HO.lst []) Sa=some (.lst []):=upd_same;have nPS:Pa≠Sa:=za7 hPa6 hSa;generalize upd H6 Sa (HO.lst [])=H7 at*;have g27:=(g25.trans s6).trans s7;have g07:=g02.trans g27;have hl7:=g27 _ _ hl2;have hd7:=g27 _ _ hd2;have lt7:=lt.same g07;refine zbo ?_;simp! [zcm,tSortR,hl7];refine⟨ys.length,rfl,by omega,[V.ref l,V.ref d],rfl,lt7,fun c' H8 st8 lt8 hc8=>⟨fun i zs H'=>H'=H8/\zs.length=i/\LR (fun H p s=>P2H H p (kyQ g s.1)) H8 zs (ss.take i),⟨⟨rfl,rfl,by rw[uG];exact .nil⟩,fun i zs H' q=>q.1▸hc8,fun i zs H' q=>q.2.1,?_,?_⟩⟩⟩
 ·rintro i zs' H' v hv ⟨rfl,lz,hz⟩;have hi:i<ys.length:=by
   have:=(kF.mp hv).1;unfold rngV at this;rw[kP,uN] at this;exact this
  have ev:v=V.int (i:Int):=by
   have:=rng_at hi;rw[kD,hv] at this;exact this
  subst ev;obtain⟨p,e,e1,he',c,c2,h1,h2,h3⟩:=hs2.at hi;obtain⟨⟨b,b1,b2⟩,_⟩:=kk i e he';have hp8:=st8.tup lt7 (g27 _ _ h1);have hl8:=st8.lst lt7 hl7;have hd8:=st8 d _ (lt7.ne hd7 fun _ z=>nomatch z) hd7;have ai:atI ys (i:Int)=some (.ref p):=zb6 e1;simp! [zhn,hl8,ai,hp8];refine⟨_,by rw[←b1];exact .t (k:=kQ e.1) hd8 (st8.tup lt7 (g27 _ _ h2.1)),?_⟩
  refine⟨by rw[kO,lz];rfl,?_⟩
  rw[pi,he'];exact hz.snoc (R:=fun H p(s:Q3×Q3)=>P2H H p (kyQ g s.1)) (a:=e) (st8.tup lt7 (g27 _ _ b2))
 ·rintro zs' H' ⟨rfl,lz,hz⟩;have lv:(rngV ys.length).length=ys.length:=by unfold rngV;rw[kP,uN]
  rw[lv] at lz hz;rw[lv];refine⟨_,⟨fun i=>kyQ g (ss.getD i zQ).1,fun i hi=>?_,rfl⟩,fun D3 pp hD3 or ep=>?_⟩
  ·rw[pH (UF hs.1.symm)] at hz;obtain⟨q,e,e1,e2,e3⟩:=hz.at hi;refine⟨q,e1,?_⟩;show H' q=some (HO.tup [V.int (kyQ g (ss.getD i zQ).1).1,V.int (kyQ g (ss.getD i zQ).1).2]);rw[kD,e2];exact e3
  ·have eos:(pp.toList.map fun i=>(rngV ys.length).getD i .non)=natV pp.toList:=by
    unfold natV;exact vw fun i hi=>rng_at (Qe.mp (or.mem_iff.mp hi))
   have up:∀a b:Nat,a<b->b<ys.length->lt2 (kyQ g (ss.getD (pp.getD b 0) zQ).1) (kyQ g (ss.getD (pp.getD a 0) zQ).1)=false:=fun a b ab hb=>by
    have:=upW_sort (n:=ys.length) (Wk.of sto2 fun i=>kyQ g (ss.getD i zQ).1) (by omega)
    simp only[zpv] at ep;rw[←ep (by omega)] at this
    exact this a b ab hb
   rw[eos];have nPD:Pa≠D3:=za7 (st8.lst lt7 (s7 _ _ hPa6)) hD3;have s9:=za4 hD3 (HO.lst (natV pp.toList));have hD9:upd H' D3 (HO.lst (natV pp.toList)) D3=some (.lst (natV pp.toList)):=upd_same;generalize upd H' D3 (HO.lst (natV pp.toList))=H9 at*;refine⟨D3,rfl,⟨_,.of hD9⟩,?_⟩;have st9:zdc (ad 52) H7 H9:=zdc.same st8 s9;have lt9:=lt8.same s9;have hl9:=st9.lst lt7 hl7;have hd9:=st9 d _ (lt7.ne hd7 fun _ z=>nomatch z) hd7;have hLa9:=st9.lst lt7 ((((g4.trans g5).trans s6).trans s7) _ _ hL3);have hLb9:=st9.lst lt7 (((g5.trans s6).trans s7) _ _ hL4);have hLc9:=st9.lst lt7 ((s6.trans s7) _ _ hL5);have hPa9:=st9.lst lt7 (s7 _ _ hPa6);have hSa9:=st9.lst lt7 hSa7;have tup9:∀{b:Addr}{xs:List V},H2 b=some (.tup xs)->H9 b=some (.tup xs):=fun h=>st9.tup lt7 (g27 _ _ h);have hu9:LR (fun H p(s:Q3×Q3)=>P2H H p (kyQ g s.2)) H9 us3 ss:=LR.ts (R:=fun H p(s:Q3×Q3)=>P2H H p (kyQ g s.2)) (fun _ _ _ _ t h=>t _ _ h) hu3 (fun b xs q=>st9.tup lt7 ((s6.trans s7) _ _ q));have pn:∀a,a<ys.length->pp.getD a 0<ys.length:=fun a ha=>or.get (by omega) a
   refine zbh (K:=K) (a:=D3) (xs:=natV pp.toList) (fun i σ H'=>∃(Sx:Addr)(st:List Nat)(pv:List V)(ps:List (Nat×Nat))(o7 o8 o9 o10 o11:Option V),σ=[some (V.ref l),some (V.ref d),some (V.ref La),some (V.ref Lb),some (V.ref Lc),some (V.ref Pa),some (V.ref Sx),o7,o8,o9,o10,o11]/\zdc Pa H9 H'/\H' Pa=some (.lst pv)/\LR PrH H' pv ps/\pv.length<=tri i/\H' Sx=some (.lst (natV st))/\st.length<=i/\(∀k,k∈st->k<ys.length)/\Sx≠Pa/\
    (∀a,a<i->pp.getD a 0∈st∨∃m,m<i/\lt2 (kyQ g (ss.getD (pp.getD a 0) zQ).2) (kyQ g (ss.getD (pp.getD m 0) zQ).1)=true)/\
    (∀a b,a<b->b<i->Nigh g (ss.getD (pp.getD a 0) zQ) (ss.getD (pp.getD b 0) zQ)->(pp.getD b 0,pp.getD a 0)∈ps)/\∀e,e∈ps->e.1<ys.length/\e.2<ys.length)
    ⟨Sa,[],[],[],none,none,none,none,none,rfl,.refl _ _,hPa9,.nil,kM _,hSa9,kM _,fun k hk=>(by cases hk),nPS.symm,fun a ha=>(by omega),fun a b _ hb=>(by omega),fun e he=>(by cases he)⟩ (fun i σ H' _ iv=>?_) ?_ ?_
   ·obtain⟨Sx,st,pv,ps,o7,o8,o9,o10,o11,_,sT,_⟩:=iv;exact .of (sT D3 _ nPD.symm hD9)
   ·intro _ _;rintro i v σ H10 hi ⟨Sx,st,pv,ps,o7,o8,o9,o10,o11,rfl,sT,hPv,hpv,lpv,hSx,lst_,stn,nSP,hB_,hC_,hD_⟩;have hi':i<ys.length:=by
     have:=(kF.mp hi).1;unfold natV at this;rw[kP,or.length_eq,uN] at this;exact this
    have ev:v=V.int ((pp.getD i 0:Nat):Int):=by
     unfold natV at hi;rw[kj] at hi;obtain⟨m,m1,m2⟩:=ut.mp hi;rw[←m2,ke,←pW,m1];rfl
    subst ev;have hm:=pn i hi';generalize em:pp.getD i 0=m at*;obtain⟨p,e,e1,he',c,c2,h1,h2,h3⟩:=hs2.at hm;obtain⟨⟨b,b1,b2⟩,_⟩:=kk m e he';have tup10:∀{b:Addr}{xs:List V},H2 b=some (.tup xs)->H10 b=some (.tup xs):=fun{b xs} h=>sT b _ (fun z=>by have:=tup9 h;rw[z,hPa9] at this;cases this) (tup9 h)
    have h1':=tup10 h1;have hl10:=sT _ _ nl_ hl9;have hd10:=sT _ _ nd_ hd9;have hLa10:=sT _ _ nLa hLa9;have hLb10:=sT _ _ nLb hLb9;have hLc10:=sT _ _ nLc hLc9;have am:atI ys (m:Int)=some (.ref p):=zb6 e1;have aLa:atI us1 (m:Int)=some (.int (lowF g e)):=zb6 (by rw[eu1,kj,kj,he'];rfl)
    have aLb:atI us2 (m:Int)=some (.int (zgw g e)):=zb6 (by rw[eu2,kj,kj,he'];rfl)
    simp! [zhn,hl10,hLa10,hLb10,am,aLa,aLb,h1'];refine⟨_,by rw[←b1];exact .t (k:=kQ e.1) hd10 (tup10 h2.1),?_⟩
    refine zb9 ?_;simp! [zcm];refine⟨⟨_,.of hSx⟩,fun Sn hSn=>?_⟩
    let fF:Nat->Bool:=fun k=> !lt2 (kyQ g (ss.getD k zQ).2) (kyQ g e.1)
    refine zax (xs:=natV st) (fun j us H'=>Same H10 H'/\H' Sn=some (.lst us)/\us=natV ((st.take j).filter fF)) ⟨za4 hSn _,upd_same,rfl⟩ (fun j us H' q=>.of (q.1 _ _ hSx)) ?_ ?_
    ·rintro j us H11 v hj hv ⟨g11,hSn11,eu⟩;obtain⟨kk',k1,rfl⟩:=zft hv;have hk:=stn kk' (kZ k1);obtain⟨q,e',e1',e2',e3'⟩:=hu9.at (j:=kk') (by rw[hu9.1,←hs.1];exact hk)
     have hLc11:=g11 _ _ hLc10;have hq11:=g11 _ _ (sT q _ (fun z=>by have z3:=e3';rw[z] at z3;rw[show H9 Pa=some (HO.tup _) from z3] at hPa9;cases hPa9) e3')
     have aLc:atI us3 (kk':Int)=some (.ref q):=zb6 e1';have hb11:=g11 _ _ (tup10 b2);simp! [hLc11,aLc];refine⟨q,b,_,_,_,_,rfl,rfl,hq11,hb11,_,rfl,?_⟩;refine zew hj k1 (by omega) g11 hSn hSn11 eu ?_
     show(!lt2 (kyQ g (ss.getD kk' zQ).2) (kyQ g e.1))=_
     rw[kD,e2'];rfl
    rintro us4 H11 ⟨g11,hSn11,eu4⟩;rw[zc1,uM] at eu4;subst eu4;have lst2:(st.filter fF).length<=i:=pP (Qd _ _) lst_;have hst2:∀k,k∈st.filter fF->k<ys.length:=fun k hk=>stn k (ue.mp hk).1;have hLa11:=g11 _ _ hLa10;have hLb11:=g11 _ _ hLb10;refine zb9 ?_;simp! [zcm];refine⟨⟨_,.of hSn11⟩,fun Na hNa=>?_⟩
    let f2:Nat->Bool:=fun k=>decide (lowF g (ss.getD k zQ)<=zgw g e)
    refine zax (xs:=natV (st.filter fF)) (fun j us H'=>Same H11 H'/\H' Na=some (.lst us)/\us=natV (((st.filter fF).take j).filter f2)) ⟨za4 hNa _,upd_same,rfl⟩ (fun j us H' q=>.of (q.1 _ _ hSn11)) ?_ ?_
    ·rintro j us H12 v hj hv ⟨g12,hNa12,eu⟩;obtain⟨kk',k1,rfl⟩:=zft hv;have hk:=hst2 kk' (kZ k1);obtain⟨q,e',e1',e2',_⟩:=hs.at (j:=kk') hk;have aL:atI us1 (kk':Int)=some (.int (lowF g e')):=zb6 (by rw[eu1,kj,kj,e2'];rfl)
     have hLa12:=g12 _ _ hLa11;simp! [hLa12,aL];refine zew hj k1 (by omega) g12 hNa hNa12 eu ?_
     show decide (lowF g (ss.getD kk' zQ)<=zgw g e)=_
     rw[kD,e2'];rfl
    rintro us5 H12 ⟨g12,hNa12,eu5⟩;rw[zc1,uM] at eu5;subst eu5;have lst3:((st.filter fF).filter f2).length<=i:=pP (Qd _ _) lst2;have hst3:∀k,k∈(st.filter fF).filter f2->k<ys.length:=fun k hk=>hst2 k (ue.mp hk).1;have hLb12:=g12 _ _ hLb11;have hPv12:=(g11.trans g12) _ _ hPv;refine⟨zff hPv12,?_⟩;refine zb9 ?_;simp! [zcm];refine⟨⟨_,.of hNa12⟩,fun Nb hNb=>?_⟩
    let f3:Nat->Bool:=fun k=>decide (zgw g (ss.getD k zQ)≥lowF g e)
    refine zax (xs:=natV ((st.filter fF).filter f2)) (fun j us H'=>Same H12 H'/\H' Nb=some (.lst us)/\us.length<=j/\LR PrH H' us (((((st.filter fF).filter f2).take j).filter f3).map fun k=>(m,k))) ⟨za4 hNb _,upd_same,kM _,.nil⟩ (fun j us H' q=>.of (q.1 _ _ hNa12)) ?_ ?_
    ·rintro j us H13 v hj hv ⟨g13,hNb13,lu,hu⟩;obtain⟨kk',k1,rfl⟩:=zft hv;have hk:=hst3 kk' (kZ k1);obtain⟨q,e',e1',e2',_⟩:=hs.at (j:=kk') hk;have aL:atI us2 (kk':Int)=some (.int (zgw g e')):=zb6 (by rw[eu2,kj,kj,e2'];rfl)
     have hLb13:=g13 _ _ hLb12;simp! [hLb13,aL];have ef:f3 kk'=decide (lowF g e<=zgw g e'):=by
      show decide (zgw g (ss.getD kk' zQ)≥lowF g e)=_
      rw[kD,e2'];rfl
     refine ite2 (fun c=>fun t ht=>?_) (fun c=>cw_skip hj (ys:=us) ⟨g13,hNb13,by omega,?_⟩)
     ·have g14:=za4 ht (HO.tup [V.int (m:Int),V.int (kk':Int)]);have ht14:upd H13 t (HO.tup [V.int (m:Int),V.int (kk':Int)]) t=some (HO.tup [V.int (m:Int),V.int (kk':Int)]):=upd_same;generalize upd H13 t (HO.tup [V.int (m:Int),V.int (kk':Int)])=H14 at*;have hNb14:=g14 _ _ hNb13;have hjl:j<i:=by
       rw[zc1] at hj;omega
      refine cw_put hj hNb14 (small1000 (by omega)) ⟨zav (g13.trans g14) hNb,upd_same,by rw[kO];exact Qo lu,?_⟩
      rw[zfy k1,ef,if_pos c,uK];exact((hu.ts zlz (zaf g14)).snoc (a:=(m,kk')) ht14).ts zlz (zet hNb14)
     ·rw[zfy k1,ef,if_neg c,uv];exact hu
    rintro us6 H13 ⟨g13,hNb13,lu6,hu6⟩;rw[zc1] at lu6 hu6;rw[uM] at hu6;have g1013:=g11.trans (g12.trans g13);have hPa13:=g13 _ _ hPv12;have hSn13:=(g12.trans g13) _ _ hSn11;have nSnP:Sn≠Pa:=(za7 hPv hSn).symm;have eM:ss.getD m zQ=e:=by rw[kD,he'];rfl
    have t63:=tri_63 (n:=i) (by omega)
    have tsu:tri (i+1)=tri i+i:=rfl;refine⟨Pa,Nb,pv,us6,rfl,rfl,hPa13,hNb13,ud (small10k (n:=pv.length+us6.length) (by omega)),?_⟩
    have hSn14:upd H13 Pa (HO.lst (pv++us6)) Sn=some (.lst (natV (st.filter fF))):=by rw[za8 nSnP];exact hSn13
    refine⟨zff hSn14,_,hSn14,small1000 (by rw[zc1];omega),fun b o nb eb=>?_,st.filter fF++[m],pv++us6,?_,ps++((((st.filter fF).filter f2).filter f3).map fun k=>(m,k)),?_,?_,?_,?_,fun k hk=>?_,nSnP,fun a ha=>?_,fun a b ab hb nab=>?_,fun x hx=>?_⟩
    ·have h10:=sT b o nb eb;rw[za8 (za7 h10 hSn),za8 nb];exact g1013 _ _ h10
    ·rw[za8 nSnP.symm];exact upd_same
    ·exact(((hpv.ts zlz (zaf g1013)).app hu6).ts zlz (zet hPa13)).ts zlz (zet hSn14)
    ·rw[kO];omega
    ·rw[zhd];rfl
    ·rw[kO];exact Qo lst2
    ·rcases kY.mp hk with h|h
     ·exact hst2 k h
     ·rw[kf.mp h];exact hm
    ·by_cases ai:a=i
     ·subst ai;rw[em];exact .inl (kN _ (kf.mpr rfl))
     ·rcases hB_ a (by omega) with h|⟨m',hm',z⟩
      ·cases ef:fF (pp.getD a 0) with
       |true=>exact .inl (pR _ (ue.mpr ⟨h,ef⟩))
       |false=>
        refine .inr ⟨i,by omega,?_⟩
        rw[em,eM];have ef':(!lt2 (kyQ g (ss.getD (pp.getD a 0) zQ).2) (kyQ g e.1))=false:=ef;rw[Cb] at ef';exact ef'
      ·exact .inr ⟨m',by omega,z⟩
    ·by_cases bi:b=i
     ·subst bi;rw[em] at nab⊢;rw[eM] at nab;obtain⟨n1',n2',n3',n4'⟩:=nab;have hst:pp.getD a 0∈st:=by
       rcases hB_ a ab with h|⟨m',hm',z⟩
       ·exact h
       ·exfalso
        have u:=up m' b hm' hi';rw[em,eM] at u;have:lt2 (kyQ g (ss.getD (pp.getD a 0) zQ).2) (kyQ g e.1)=true:=by
         by_cases eq:kyQ g e.1=kyQ g (ss.getD (pp.getD m' 0) zQ).1
         ·rw[eq];exact z
         ·rcases sto2.tot _ _ eq with q|q
          ·rw[u] at q;cases q
          ·exact sto2.tr _ _ _ z q
        rw[this] at n1'
        cases n1'
      refine kN _ (pd.mpr ⟨pp.getD a 0,ue.mpr ⟨ue.mpr ⟨ue.mpr ⟨hst,?_⟩,?_⟩,?_⟩,rfl⟩)
      ·show(!lt2 (kyQ g (ss.getD (pp.getD a 0) zQ).2) (kyQ g e.1))=true
       rw[n1'];rfl
      ·exact decide_eq_true n3'
      ·exact decide_eq_true n4'
     ·exact pR _ (hC_ a b ab (by omega) nab)
    ·rcases kY.mp hx with h|h
     ·exact hD_ x h
     ·obtain⟨q,hq',rfl⟩:=pd.mp h;exact⟨hm,hst3 q (ue.mp hq').1⟩
   ·rintro σ H10 ⟨Sx,st,pv,ps,o7,o8,o9,o10,o11,rfl,sT,hPv,hpv,lpv,hSx,lst_,stn,nSP,hB_,hC_,hD_⟩;simp! [];have ln:(natV pp.toList).length=ys.length:=by unfold natV;rw[kP,or.length_eq,uN]
    rw[ln] at lpv hC_;refine k Pa pv ps g H10 ?_ (fun b o nb e=>sT b o ?_ (st9 b o nb (g07 _ _ e))) (lam_lst lt9 sT hPa9) hPv lpv hpv gp gm hD_ fun a b ha hb ab nab=>?_
    ·exact(g02.trans g25).free hPa
    ·intro z;rw[z,(g02.trans g25).free hPa] at e
     cases e
    ·have fnd:∀a,a<ys.length->∃ia,ia<ys.length/\pp.getD ia 0=a:=fun a ha=>by
      have hm:a∈pp.toList:=or.mem_iff.mpr (Qe.mpr ha);obtain⟨ia,hia⟩:=pX.mp hm;have l1:=(kF.mp hia).1;have l2:=or.length_eq;rw[uN] at l2;refine⟨ia,by omega,?_⟩
      rw[ke,←pW,hia];rfl
     obtain⟨ia,a1,a2⟩:=fnd a ha;obtain⟨ib,b1,b2⟩:=fnd b hb;rcases Cv ia ib with z|z|z
     ·have:=hC_ ia ib z b1 (by rw[a2,b2];exact nab)
      rw[a2,b2] at this;exact .inr this
     ·exact absurd (by rw[←a2,←b2,z]) ab
     ·have:=hC_ ib ia z a1 (by rw[a2,b2];exact nab.symm)
      rw[a2,b2] at this;exact .inl this
theorem zfo(T:Txt K mg ad fd):FnOk P w K mg base CX0 1 (ad 0) (fd 0) ["thing"] zn2:=by
 refine T.is_whole.fn.ok zl8 (fun vs H Q E h=>?_) (fun cdv A outer s H vs Q E hr h=>?_)
 ·obtain⟨i,rfl,_⟩:=h;rfl
 obtain⟨i,rfl,q⟩:=h;have zf:=@zac;have zd:=@zaj;have ye:=@zp0;have zw:=@zce;have zg:=@pa2;have qpv:=@pv;have yg:=@zrc;have yf:=@zqw;have zY:=@zqu;generalize @PE=QE,@PT=QT,@PW=QW,@PA=QA,@PS=QS,@PSs=QSs,@PG=QG,@PGs=QGs,@L2.PI=QI,@PO=QO,@PIf=QIf at zf zd ye zw zg qpv yg yf zY⊢;refine⟨_,
  (zf (zd (ye (zw (isiF zkb) rfl T.b_isinstance zd3 (zg (qpv 0) za1 (yg (v:=.ty "int") rfl T.b_int zrl rfl) za1)) (yf (zY (zw (isiF zee) rfl T.b_isinstance zd3 (zg (qpv 0) za1 (yg (v:=.ty "bool") rfl T.b_bool zll rfl) za1)))))))
  ,?_⟩
 clear zf zd ye zw zg qpv yg yf zY QE QT QW QA QS QSs QG QGs QI QO QIf
 dsimp! [L2.start]
 simp! [];exact q
theorem ziu(T:Txt K mg ad fd):FnOk P w K mg base CX0 1 (ad 1) (fd 1) ["one","other"] zif:=by
 refine T.divisor.fn.ok zdm (fun vs H Q E h=>?_) (fun cdv A outer s H vs Q E hr h=>?_)
 ·obtain⟨a,b,rfl,_⟩:=h;rfl
 obtain⟨a,b,rfl,q⟩:=h;have zD:=@pss4;have zh:=@zbv;have zw:=@zce;have zj:=@pa1;have qpv:=@pv;have yz:=@ps_while;have zp:=@zb8;have za:=@zat;have zy:=@pss3;have zc:=@zd7;have zd:=@zaj;generalize @PE=QE,@PT=QT,@PW=QW,@PA=QA,@PS=QS,@PSs=QSs,@PG=QG,@PGs=QGs,@L2.PI=QI,@PO=QO,@PIf=QIf at zD zh zw zj qpv yz zp za zy zc zd⊢;refine⟨_,
  (zD
   (zh (i:=2) zdm.nd rfl (km rfl) (zw zmo rfl T.b_abs bt_abs (zj (qpv 0) za1)))
   (zh (i:=3) zdm.nd rfl (km rfl) (zw zmo rfl T.b_abs bt_abs (zj (qpv 1) za1)))
   (yz pT (zp zpi (qpv 3) za (nomark _)) (zy
   (zh (i:=4) zdm.nd rfl (km rfl) (zc zhv (qpv 2) (qpv 3)))
   (zh (i:=2) zdm.nd rfl (km rfl) (qpv 3))
   (zh (i:=3) zdm.nd rfl (km rfl) (qpv 4))))
   (zd (qpv 2)))
  ,?_⟩
 clear zD zh zw zj qpv yz zp za zy zc zd QE QT QW QA QS QSs QG QGs QI QO QIf
 dsimp! [L2.start]
 simp only[tSeq,zpf,tRet,tRetN,tIfS,tAsg,gName,zt7,tVar,tC,tOp,tUn,rI,rI0,rU,rEq,rNe,zsc,tB,tNot,tAnd,tOr,zpx,tOrV,zou,tIf,tCB,zm2,tNil,zbt,tTup,tLst,gTup,gCons,gNil,L2.start,rIsi,rIxT,rIxL,cx_K,tyN_non,tyN_bl,tyN_int,tyN_str,isi_ii,isi_ib,zoy,zqy,zsr,zsa,isi_tt,zrd,zoz,zri,zr5,zpu,zov,scal_ii,scal_bb,sz0,sz1,sz2,sz3,sz4,pC,vL,uA,jJ,vj,vo,vX,uv,jW,jX,AM,AN,Qa,V.int.injEq,V.bl.injEq,V.ref.injEq,V.ty.injEq,jK,and_true,true_and,exists_eq_left,exists_eq_left',exists_and_left,exists_and_right,exists_eq,exists_eq',and_assoc,Ah,Ai,Qr,vm,pJ,if_true,if_false,reduceIte,BO,decide_true,decide_false];refine while_by (zob a b H) (fun σ _=>(getI σ 3).toNat) ⟨rfl,_,_,_,rfl,by split<;>omega,by split<;>omega,G_abs a b⟩ ?_
  (fun σ H Q Q' m h=>by obtain⟨v,e,s,k,e2,q⟩:=h;exact⟨v,e,s,k,e2,m _ _ q⟩)
 rintro σ H' ⟨rfl,x,y,r,rfl,hx,hy,e⟩;simp only[tSeq,zpf,tRet,tRetN,tIfS,tAsg,gName,zt7,tVar,tC,tOp,tUn,rI,rI0,rU,rEq,rNe,zsc,tB,tNot,tAnd,tOr,zpx,tOrV,zou,tIf,tCB,zm2,tNil,zbt,tTup,tLst,gTup,gCons,gNil,L2.start,rIsi,rIxT,rIxL,cx_K,tyN_non,tyN_bl,tyN_int,tyN_str,isi_ii,isi_ib,zoy,zqy,zsr,zsa,isi_tt,zrd,zoz,zri,zr5,zpu,zov,scal_ii,scal_bb,sz0,sz1,sz2,sz3,sz4,pC,vL,uA,jJ,vj,vo,vX,uv,jW,jX,AM,AN,Qa,V.int.injEq,V.bl.injEq,V.ref.injEq,V.ty.injEq,jK,and_true,true_and,exists_eq_left,exists_eq_left',exists_and_left,exists_and_right,exists_eq,exists_eq',and_assoc,Ah,Ai,Qr,vm,pJ,if_true,if_false,reduceIte,BO,decide_true,decide_false];refine ite2 (fun c=>?_) (fun c=>?_)
 ·have hy0:0<y:=by
   rcases Ce hy with z|z
   ·exact z
   ·subst z;simp at c
  obtain⟨h1,h2,h3⟩:=turn e hy0;exact⟨by omega,⟨rfl,_,_,_,rfl,h1,h2,h3⟩,less hy0⟩
 ·have hy0:y=0:=by simpa using c
  rw[←e,←G_zero hx hy0] at q;exact q
theorem zmj(T:Txt K mg ad fd):FnOk P w K mg base CX0 2 (ad 2) (fd 2) ["x","y","w"] zi2:=by
 refine T.point.fn.ok zj3 (fun vs H Q E h=>?_) (fun cdv A outer s H vs Q E hr h=>?_)
 ·obtain⟨a,b,w,rfl,_⟩:=h;rfl
 obtain⟨a,b,w,rfl,hb,hz,q⟩:=h;have zR:=@pss5;have zm:=@zdb;have zH:=@PW.pt;have zW:=@pw_or;have zO:=@zkj;have zv:=@zer;have ze:=@zap;have zj:=@pa1;have qpv:=@pv;have yc:=@zs3;have zf:=@zac;have yp:=@ps_never;have zn:=@zau;have zp:=@zb8;have za:=@zat;have zh:=@zbv;have zg:=@pa2;have ym:=@pe_un;have zd:=@zaj;have zr:=@zdg;have zt:=@pa3;have zc:=@zd7;generalize @PE=QE,@PT=QT,@PW=QW,@PA=QA,@PS=QS,@PSs=QSs,@PG=QG,@PGs=QGs,@L2.PI=QI,@PO=QO,@PIf=QIf at zR zm zH zW zO zv ze zj qpv yc zf yp zn zp za zh zg ym zd zr zt zc⊢;refine⟨_,
  (zR
   (zm (zH (zW (zO (zv (ze (zfo T) (hr.mono (by decide)) rfl T.is_whole.mg T.is_whole.fn.kp T.is_whole.bn .nil pass0 (zj (qpv 0) za1)))) (zW (zO (zv (ze (zfo T) (hr.mono (by decide)) rfl T.is_whole.mg T.is_whole.fn.kp T.is_whole.bn .nil pass0 (zj (qpv 1) za1)))) (yc (zO (zv (ze (zfo T) (hr.mono (by decide)) rfl T.is_whole.mg T.is_whole.fn.kp T.is_whole.bn .nil pass0 (zj (qpv 2) za1)))))))) (zf yp) zn)
   (zm (zp zdr (qpv 2) za (nomark _)) (zf yp) zn)
   (zh (i:=3) zj3.nd rfl (km rfl) (ze (ziu T) (hr.mono (by decide)) rfl T.divisor.mg T.divisor.fn.kp T.divisor.bn .nil pass0 (zg (ze (ziu T) (hr.mono (by decide)) rfl T.divisor.mg T.divisor.fn.kp T.divisor.bn .nil pass0 (zg (qpv 2) za1 (qpv 0) za1)) zar (qpv 1) za1)))
   (zm (zp zgy (qpv 2) za (nomark _)) (zf (zh (i:=3) zj3.nd rfl (km rfl) (ym un_neg (qpv 3)))) zn)
   (zd (zr (zt (zc zdj (qpv 0) (qpv 3)) zam (zc zdj (qpv 1) (qpv 3)) zam (zc zdj (qpv 2) (qpv 3)) zam))))
  ,?_⟩
 clear zR zm zH zW zO zv ze zj qpv yc zf yp zn zp za zh zg ym zd zr zt zc QE QT QW QA QS QSs QG QGs QI QO QIf
 dsimp! [L2.start]
 simp! [zn2,zif];have hg:(fac3 a b w).natAbs<2^8000:=uq (fac3_le hb) hz;have hn:=zlk (x:=a) (y:=b) hb;refine ite2 (fun c=>absurd (of_decide_eq_true c) hb) (fun _=>ite2 (fun c=>?_) fun c=>?_)
 ·have ef: -G (G w a) b=fac3 a b w:=(if_pos (of_decide_eq_true c)).symm;rw[ef];exact⟨cdivb hn hg,cdivb hn hg,cdivb hn hg,fun p hp=>q p _ (za4 hp _) upd_same⟩
 ·have ef:G (G w a) b=fac3 a b w:=(if_neg fun z=>c (decide_eq_true z)).symm;rw[ef];exact⟨cdivb hn hg,cdivb hn hg,cdivb hn hg,fun p hp=>q p _ (za4 hp _) upd_same⟩
def zik:Sp:=fun vs H Q _=>∃(p q:Addr)(x1 y1 w1 x2 y2 w2:Int),vs=[.ref p,.ref q]/\TB 5000 H p x1 y1 w1/\TB 5000 H q x2 y2 w2/\Q (.bl (bef x1 y1 w1 x2 y2 w2)) H
theorem zf3(T:Txt K mg ad fd):FnOk P w K mg base CX0 1 (ad 3) (fd 3) ["P","Q"] zik:=by
 refine T.before.fn.ok zi0 (fun vs H Q E h=>?_) (fun cdv A outer s H vs Q E hr h=>?_)
 ·obtain⟨p,q,x1,y1,w1,x2,y2,w2,rfl,_⟩:=h;rfl
 obtain⟨p,q,x1,y1,w1,x2,y2,w2,rfl,⟨hp,pp⟩,⟨hq,pq⟩,k⟩:=h;have zD:=@pss4;have zh:=@zbv;have zc:=@zd7;have zb:=@zck;have qpv:=@pv;have za:=@zat;have zm:=@zdb;have zp:=@zb8;have zf:=@zac;have zd:=@zaj;have zB:=@zef;have zn:=@zau;generalize @PE=QE,@PT=QT,@PW=QW,@PA=QA,@PS=QS,@PSs=QSs,@PG=QG,@PGs=QGs,@L2.PI=QI,@PO=QO,@PIf=QIf at zD zh zc zb qpv za zm zp zf zd zB zn⊢;refine⟨_,
  (zD
   (zh (i:=2) zi0.nd rfl (km rfl) (zc zaa (zb za2 (qpv 0) za fun _ _=>rfl) (zb za2 (qpv 1) za fun _ _=>rfl)))
   (zh (i:=3) zi0.nd rfl (km rfl) (zc zaa (zb za2 (qpv 1) za fun _ _=>rfl) (zb za2 (qpv 0) za fun _ _=>rfl)))
   (zm (zp zpi (qpv 2) (qpv 3) (nomark _)) (zf (zd (zB zgy (qpv 2) (qpv 3) (nomark _)))) zn)
   (zd (zB zgy (zc zaa (zb za2 (qpv 0) za fun _ _=>rfl) (zb za2 (qpv 1) za fun _ _=>rfl)) (zc zaa (zb za2 (qpv 1) za fun _ _=>rfl) (zb za2 (qpv 0) za fun _ _=>rfl)) (nomark _))))
  ,?_⟩
 clear zD zh zc zb qpv za zm zp zf zd zB zn QE QT QW QA QS QSs QG QGs QI QO QIf
 dsimp! [L2.start]
 simp! [hp,hq];refine⟨cbig pp.1 pq.2.2,cbig pq.1 pp.2.2,?_⟩;unfold bef at k;refine ite2 (fun c=>?_) (fun c=>⟨cbig pp.2.1 pq.2.2,cbig pq.2.1 pp.2.2,?_⟩)
 ·have c':¬x1*w2=x2*w1:=by simpa using c
  rw[if_neg c'] at k;exact k
 ·have c':x1*w2=x2*w1:=by simpa using c
  rw[if_pos c'] at k;exact k
theorem znk(T:Txt K mg ad fd):FnOk P w K mg base CX0 1 (ad 4) (fd 4) ["number"] zr4:=by
 refine T.sign_of.fn.ok zo1 (fun vs H Q E h=>?_) (fun cdv A outer s H vs Q E hr h=>?_)
 ·obtain⟨z,rfl,_⟩:=h;rfl
 obtain⟨z,rfl,k⟩:=h;have zy:=@pss3;have zm:=@zdb;have zp:=@zb8;have qpv:=@pv;have za:=@zat;have zf:=@zac;have zd:=@zaj;have zn:=@zau;have ym:=@pe_un;generalize @PE=QE,@PT=QT,@PW=QW,@PA=QA,@PS=QS,@PSs=QSs,@PG=QG,@PGs=QGs,@L2.PI=QI,@PO=QO,@PIf=QIf at zy zm zp qpv za zf zd zn ym⊢;refine⟨_,
  (zy
   (zm (zp op_gt (qpv 0) za (nomark _)) (zf (zd za)) zn)
   (zm (zp zgy (qpv 0) za (nomark _)) (zf (zd (ym un_neg za))) zn)
   (zd za))
  ,?_⟩
 clear zy zm zp qpv za zf zd zn ym QE QT QW QA QS QSs QG QGs QI QO QIf
 dsimp! [L2.start]
 simp! [];unfold sgn at k;refine ite2 (fun c=>?_) (fun c=>ite2 (fun c2=>?_) fun c2=>?_)
 ·rw[if_pos (of_decide_eq_true c)] at k;exact k
 ·rw[if_neg (fun z=>c (decide_eq_true z)),if_pos (of_decide_eq_true c2)] at k;exact k
 ·rw[if_neg (fun z=>c (decide_eq_true z)),if_neg (fun z=>c2 (decide_eq_true z))] at k;exact k
theorem zgn(T:Txt K mg ad fd):FnOk P w K mg base CX0 1 (ad 5) (fd 5) ["P","Q"] zp6:=by
 refine T.line_of.fn.ok zod (fun vs H Q E h=>?_) (fun cdv A outer s H vs Q E hr h=>?_)
 ·obtain⟨p,q,x1,y1,w1,x2,y2,w2,rfl,_⟩:=h;rfl
 obtain⟨p,q,x1,y1,w1,x2,y2,w2,rfl,⟨hp,pp⟩,⟨hq,pq⟩,k⟩:=h;have zf:=@zac;have zd:=@zaj;have zr:=@zdg;have zt:=@pa3;have zc:=@zd7;have zb:=@zck;have qpv:=@pv;have za:=@zat;generalize @PE=QE,@PT=QT,@PW=QW,@PA=QA,@PS=QS,@PSs=QSs,@PG=QG,@PGs=QGs,@L2.PI=QI,@PO=QO,@PIf=QIf at zf zd zr zt zc zb qpv za⊢;refine⟨_,
  (zf (zd (zr (zt (zc zdx (zc zaa (zb za2 (qpv 0) za fun _ _=>rfl) (zb za2 (qpv 1) za fun _ _=>rfl)) (zc zaa (zb za2 (qpv 0) za fun _ _=>rfl) (zb za2 (qpv 1) za fun _ _=>rfl))) zam (zc zdx (zc zaa (zb za2 (qpv 0) za fun _ _=>rfl) (zb za2 (qpv 1) za fun _ _=>rfl)) (zc zaa (zb za2 (qpv 0) za fun _ _=>rfl) (zb za2 (qpv 1) za fun _ _=>rfl))) zam (zc zdx (zc zaa (zb za2 (qpv 0) za fun _ _=>rfl) (zb za2 (qpv 1) za fun _ _=>rfl)) (zc zaa (zb za2 (qpv 0) za fun _ _=>rfl) (zb za2 (qpv 1) za fun _ _=>rfl))) zam))))
  ,?_⟩
 clear zf zd zr zt zc zb qpv za QE QT QW QA QS QSs QG QGs QI QO QIf
 dsimp! [L2.start]
 simp! [hp,hq];exact⟨cbig pp.2.1 pq.2.2,cbig pp.2.2 pq.2.1,cbig pp.2.2 pq.1,cbig pp.1 pq.2.2,cbig pp.1 pq.2.1,cbig pp.2.1 pq.1,fun r hr=>k r _ (za4 hr _) upd_same⟩
theorem zeb(T:Txt K mg ad fd):FnOk P w K mg base CX0 2 (ad 6) (fd 6) ["line","P"] zqq:=by
 refine T.side_of.fn.ok zns (fun vs H Q E h=>?_) (fun cdv A outer s H vs Q E hr h=>?_)
 ·obtain⟨l,p,a,b,c,x,y,w,rfl,_⟩:=h;rfl
 obtain⟨l,p,a,b,c,x,y,w,rfl,hl,⟨la,lb,lc⟩,hp,⟨lx,ly,lw⟩,k⟩:=h;have zf:=@zac;have zd:=@zaj;have ze:=@zap;have zj:=@pa1;have zc:=@zd7;have zb:=@zck;have qpv:=@pv;have za:=@zat;generalize @PE=QE,@PT=QT,@PW=QW,@PA=QA,@PS=QS,@PSs=QSs,@PG=QG,@PGs=QGs,@L2.PI=QI,@PO=QO,@PIf=QIf at zf zd ze zj zc zb qpv za⊢;refine⟨_,
  (zf (zd (ze (znk T) (hr.mono (by decide)) rfl T.sign_of.mg T.sign_of.fn.kp T.sign_of.bn .nil pass0 (zj (zc zc5 (zc zc5 (zc zaa (zb za2 (qpv 0) za fun _ _=>rfl) (zb za2 (qpv 1) za fun _ _=>rfl)) (zc zaa (zb za2 (qpv 0) za fun _ _=>rfl) (zb za2 (qpv 1) za fun _ _=>rfl))) (zc zaa (zb za2 (qpv 0) za fun _ _=>rfl) (zb za2 (qpv 1) za fun _ _=>rfl))) zam))))
  ,?_⟩
 clear zf zd ze zj zc zb qpv za QE QT QW QA QS QSs QG QGs QI QO QIf
 dsimp! [L2.start]
 simp! [zr4,hl,hp];exact⟨cbig la lx,cbig lb ly,cbig lc lw,k⟩
theorem ok_met(T:Txt K mg ad fd):FnOk P w K mg base CX0 3 (ad 8) (fd 8) ["one","other"] sp_met:=by
 refine T.met.fn.ok zmf (fun vs H Q E h=>?_) (fun cdv A outer s H vs Q E hr h=>?_)
 ·obtain⟨p,q,a,b,c,a',b',c',rfl,_⟩:=h;rfl
 obtain⟨p,q,a,b,c,a',b',c',rfl,hp,⟨la,lb,lc⟩,hq,⟨la',lb',lc'⟩,k0,k1⟩:=h;have zR:=@pss5;have zh:=@zbv;have zc:=@zd7;have zb:=@zck;have qpv:=@pv;have za:=@zat;have zm:=@zdb;have zp:=@zb8;have zf:=@zac;have zd:=@zaj;have zV:=@zmi;have zn:=@zau;have ze:=@zap;have zt:=@pa3;generalize @PE=QE,@PT=QT,@PW=QW,@PA=QA,@PS=QS,@PSs=QSs,@PG=QG,@PGs=QGs,@L2.PI=QI,@PO=QO,@PIf=QIf at zR zh zc zb qpv za zm zp zf zd zV zn ze zt⊢;refine⟨_,
  (zR
   (zh (i:=2) zmf.nd rfl (km rfl) (zc zdx (zc zaa (zb za2 (qpv 0) za fun _ _=>rfl) (zb za2 (qpv 1) za fun _ _=>rfl)) (zc zaa (zb za2 (qpv 0) za fun _ _=>rfl) (zb za2 (qpv 1) za fun _ _=>rfl))))
   (zm (zp zdr (qpv 2) za (nomark _)) (zf (zd zV)) zn)
   (zh (i:=3) zmf.nd rfl (km rfl) (zc zdx (zc zaa (zb za2 (qpv 0) za fun _ _=>rfl) (zb za2 (qpv 1) za fun _ _=>rfl)) (zc zaa (zb za2 (qpv 0) za fun _ _=>rfl) (zb za2 (qpv 1) za fun _ _=>rfl))))
   (zh (i:=4) zmf.nd rfl (km rfl) (zc zdx (zc zaa (zb za2 (qpv 0) za fun _ _=>rfl) (zb za2 (qpv 1) za fun _ _=>rfl)) (zc zaa (zb za2 (qpv 0) za fun _ _=>rfl) (zb za2 (qpv 1) za fun _ _=>rfl))))
   (zd (ze (zmj T) (hr.mono (by decide)) rfl T.point.mg T.point.fn.kp T.point.bn .nil pass0 (zt (qpv 3) za1 (qpv 4) za1 (qpv 2) za1))))
  ,?_⟩
 clear zR zh zc zb qpv za zm zp zf zd zV zn ze zt QE QT QW QA QS QSs QG QGs QI QO QIf
 dsimp! [L2.start]
 simp! [zi2,hp,hq];have lw:(a*b'-b*a').natAbs<2^(2001+2001+1):=zdv (zas la lb') (zas lb la');refine⟨cbig la lb',cbig lb la',ite2 (fun e=>k0 (of_decide_eq_true e)) fun e=>?_⟩;have ne:a*b'-b*a'≠0:=fun z=>e (decide_eq_true z);exact⟨cbig lb lc',cbig lc lb',cbig lc la',cbig la lc',ne,zan lw (by decide),k1 ne⟩
theorem zhy(T:Txt K mg ad fd):FnOk P w K mg base CX0 2 (ad 16) (fd 16) ["one","other"] sp_mol:=by
 refine T.meet_on_line.fn.ok zdq (fun vs H Q E h=>?_) (fun cdv A outer s H vs Q E hr h=>?_)
 ·obtain⟨s,t,p,q,r,u,a,b,c,d,rfl,_⟩:=h;rfl
 obtain⟨sA,t,p,q,r,u,a,b,c,d,rfl,⟨hs,ht,ha,hb,hc,hd⟩,k⟩:=h
 obtain⟨tl,htl,hk⟩:∃tl,PSs (cxOf CX0 P w K mg base ["one","other","first","second"] "meet_on_line" (za0 zal) (ad 16) cdv A outer s H E).nox ((za5 zal).drop 2) tl/\∀(F S:Addr),PtQ 130 H F (fst3 a c)->PtQ 130 H S (snd3 b d)->
   tl {nx:=fun _ H'=>Q .non H',rt:=Q} [some (.ref sA),some (.ref t),some (.ref F),some (.ref S)] H:=by
  have zy:=@pss3;have zm:=@zdb;have zv:=@zer;have ze:=@zap;have zg:=@pa2;have qpv:=@pv;have zf:=@zac;have zd:=@zaj;have zV:=@zmi;have zn:=@zau;have zp:=@zb8;have zr:=@zdg;have zZ:=@zsk;generalize @PE=QE,@PT=QT,@PW=QW,@PA=QA,@PS=QS,@PSs=QSs,@PG=QG,@PGs=QGs,@L2.PI=QI,@PO=QO,@PIf=QIf at zy zm zv ze zg qpv zf zd zV zn zp zr zZ⊢;refine⟨_,
  (zy
   (zm (zv (ze (zf3 T) (hr.mono (by decide)) rfl T.before.mg T.before.fn.kp T.before.bn .nil pass0 (zg (qpv 3) za1 (qpv 2) za1))) (zf (zd zV)) zn)
   (zm (zp (zre (hu64 hr)) (qpv 2) (qpv 3) (nomark _)) (zf (zd (zr (zg zZ za9 (qpv 2) za1)))) zn)
   (zd (zr (zg zZ za9 (zr (zg (qpv 2) za1 (qpv 3) za1)) ns_Tuple))))
   ,fun F S hF hS=>?_⟩
  clear zy zm zv ze zg qpv zf zd zV zn zp zr zZ QE QT QW QA QS QSs QG QGs QI QO QIf;simp! [];unfold mtL at k;refine⟨S,F,_,_,_,_,_,_,rfl,hS.tb,hF.tb,_,rfl,ite2 (fun e=>?_) fun e=>?_⟩
  ·rw[if_pos (show bq (snd3 b d) (fst3 a c)=true from e)] at k;exact k .non H (.refl _) rfl
  ·rw[if_neg (show ¬bq (snd3 b d) (fst3 a c)=true from e)] at k;refine⟨_,_,zfq (.of hF.1),zfq (.of hS.1),zc3 _ _ _,zc3 _ _ _,_,rfl,?_⟩;rw[zgp]
   by_cases eq:(fst3 a c).x=(snd3 b d).x/\(fst3 a c).y=(snd3 b d).y/\(fst3 a c).w=(snd3 b d).w
   ·rw[decide_eq_true eq];rw[if_pos eq] at k;refine iteT fun x hx=>?_;have g:=za4 hx (HO.tup [V.str "spot",V.ref F]);exact k _ _ g ⟨x,F,rfl,upd_same,g _ _ hF.1⟩
   ·rw[decide_eq_false eq];rw[if_neg eq] at k;refine iteF fun y hy=>?_;have g1:=za4 hy (HO.tup [V.ref F,V.ref S]);have y1:upd H y (HO.tup [V.ref F,V.ref S]) y=some (HO.tup [V.ref F,V.ref S]):=upd_same;generalize upd H y (HO.tup [V.ref F,V.ref S])=H1 at*;intro x hx;have g:=za4 hx (HO.tup [V.str "part",V.ref y]);have g2:=g1.trans g;exact k _ _ g2 ⟨x,y,F,S,rfl,upd_same,g _ _ y1,g2 _ _ hF.1,g2 _ _ hS.1⟩
 have yq:=@zad;have zh:=@zbv;have yr:=@pe_ifExp;have zv:=@zer;have ze:=@zap;have zg:=@pa2;have zb:=@zck;have qpv:=@pv;have za:=@zat;generalize @PE=QE,@PT=QT,@PW=QW,@PA=QA,@PS=QS,@PSs=QSs,@PG=QG,@PGs=QGs,@L2.PI=QI,@PO=QO,@PIf=QIf at yq zh yr zv ze zg zb qpv za htl⊢;refine⟨_,
  (yq (zh (i:=2) zdq.nd rfl (km rfl) (yr (zv (ze (zf3 T) (hr.mono (by decide)) rfl T.before.mg T.before.fn.kp T.before.bn .nil pass0 (zg (zb za2 (qpv 0) za fun _ _=>rfl) za3 (zb za2 (qpv 1) za fun _ _=>rfl) za3))) (zb za2 (qpv 1) za fun _ _=>rfl) (zb za2 (qpv 0) za fun _ _=>rfl)))
   (yq (zh (i:=3) zdq.nd rfl (km rfl) (yr (zv (ze (zf3 T) (hr.mono (by decide)) rfl T.before.mg T.before.fn.kp T.before.bn .nil pass0 (zg (zb za2 (qpv 0) za fun _ _=>rfl) za3 (zb za2 (qpv 1) za fun _ _=>rfl) za3))) (zb za2 (qpv 0) za fun _ _=>rfl) (zb za2 (qpv 1) za fun _ _=>rfl)))
   htl))
  ,?_⟩
 clear htl yq zh yr zv ze zg zb qpv za QE QT QW QA QS QSs QG QGs QI QO QIf;have f1:bq a c=true->PtQ 130 H r (fst3 a c):=fun e=>by unfold fst3;rw[if_pos e];exact hc
 have f2:¬bq a c=true->PtQ 130 H p (fst3 a c):=fun e=>by unfold fst3;rw[if_neg e];exact ha
 have s1:bq b d=true->PtQ 130 H q (snd3 b d):=fun e=>by unfold snd3;rw[if_pos e];exact hb
 have s2:¬bq b d=true->PtQ 130 H u (snd3 b d):=fun e=>by unfold snd3;rw[if_neg e];exact hd
 simp! [hs,ht];refine⟨p,r,_,_,_,_,_,_,rfl,ha.tb,hc.tb,_,rfl,ite2 (fun e=>?_) fun e=>?_⟩
 ·simp! [hs,ht];refine⟨q,u,_,_,_,_,_,_,rfl,hb.tb,hd.tb,_,rfl,ite2 (fun e2=>?_) fun e2=>?_⟩
  ·simp! [hs,ht];exact hk r q (f1 e) (s1 e2)
  ·simp! [hs,ht];exact hk r u (f1 e) (s2 e2)
 ·simp! [hs,ht];refine⟨q,u,_,_,_,_,_,_,rfl,hb.tb,hd.tb,_,rfl,ite2 (fun e2=>?_) fun e2=>?_⟩
  ·simp! [hs,ht];exact hk p q (f2 e) (s1 e2)
  ·simp! [hs,ht];exact hk p u (f2 e) (s2 e2)
theorem ok_meet(T:Txt K mg ad fd):FnOk P w K mg base CX0 4 (ad 15) (fd 15) ["one","other"] sp_meet:=by
 refine T.meet.fn.ok zfp (fun vs H Q E h=>?_) (fun cdv A outer s H vs Q E hr h=>?_)
 ·obtain⟨s,t,p,q,r,u,a,b,c,d,rfl,_⟩:=h;rfl
 obtain⟨s,t,p,q,r,u,a,b,c,d,rfl,h4,k⟩:=h;have yA:=@pss9;have zh:=@zbv;have ze:=@zap;have zg:=@pa2;have zb:=@zck;have qpv:=@pv;have za:=@zat;have zr:=@zdg;have zm:=@zdb;have zp:=@zb8;have zf:=@zac;have zd:=@zaj;have zn:=@zau;have zV:=@zmi;have zu:=@zdw;have yC:=@pi_zipT;have zc:=@zd7;have zX:=@zk4;have zF:=@zfb;have zo:=@zbw;have zP:=@zgh;have zZ:=@zsk;generalize @PE=QE,@PT=QT,@PW=QW,@PA=QA,@PS=QS,@PSs=QSs,@PG=QG,@PGs=QGs,@L2.PI=QI,@PO=QO,@PIf=QIf at yA zh ze zg zb qpv za zr zm zp zf zd zn zV zu yC zc zX zF zo zP zZ⊢;refine⟨_,
  (yA
   (zh (i:=2) zfp.nd rfl (km rfl) (ze (zgn T) (hr.mono (by decide)) rfl T.line_of.mg T.line_of.fn.kp T.line_of.bn .nil pass0 (zg (zb za2 (qpv 0) za fun _ _=>rfl) za3 (zb za2 (qpv 0) za fun _ _=>rfl) za3)))
   (zh (i:=3) zfp.nd rfl (km rfl) (zr (zg (ze (zeb T) (hr.mono (by decide)) rfl T.side_of.mg T.side_of.fn.kp T.side_of.bn .nil pass0 (zg (qpv 2) za1 (zb za2 (qpv 1) za fun _ _=>rfl) za3)) zar (ze (zeb T) (hr.mono (by decide)) rfl T.side_of.mg T.side_of.fn.kp T.side_of.bn .nil pass0 (zg (qpv 2) za1 (zb za2 (qpv 1) za fun _ _=>rfl) za3)) zar)))
   (zm (zp (zre (hu64 hr)) (qpv 3) (zr (zg za za9 za za9)) (nomark _)) (zf (zd (ze (zhy T) (hr.mono (by decide)) rfl T.meet_on_line.mg T.meet_on_line.fn.kp T.meet_on_line.bn .nil pass0 (zg (qpv 0) za1 (qpv 1) za1)))) zn)
   (zm (zp zdr (zb za2 (qpv 3) za fun _ _=>rfl) (zb za2 (qpv 3) za fun _ _=>rfl) (nomark _)) (zf (zd zV)) zn)
   (zh (i:=4) zfp.nd rfl (km rfl) (ze (zgn T) (hr.mono (by decide)) rfl T.line_of.mg T.line_of.fn.kp T.line_of.bn .nil pass0 (zg (zb za2 (qpv 1) za fun _ _=>rfl) za3 (zb za2 (qpv 1) za fun _ _=>rfl) za3)))
   (zh (i:=5) zfp.nd rfl (km rfl) (zr (zg (ze (zeb T) (hr.mono (by decide)) rfl T.side_of.mg T.side_of.fn.kp T.side_of.bn .nil pass0 (zg (qpv 4) za1 (zb za2 (qpv 0) za fun _ _=>rfl) za3)) zar (ze (zeb T) (hr.mono (by decide)) rfl T.side_of.mg T.side_of.fn.kp T.side_of.bn .nil pass0 (zg (qpv 4) za1 (zb za2 (qpv 0) za fun _ _=>rfl) za3)) zar)))
   (zm (zp zdr (zb za2 (qpv 5) za fun _ _=>rfl) (zb za2 (qpv 5) za fun _ _=>rfl) (nomark _)) (zf (zd zV)) zn)
   (zu pT rfl (yC rfl T.b_zip (zg (zc zos (qpv 1) (qpv 0)) zam (zc zos (qpv 3) (qpv 5)) zam)) (zX (n:=2) rfl (zF (zo (i:=6) zfp.nd rfl (km rfl)) (zF (zo (i:=7) zfp.nd rfl (km rfl)) zP))) (zf (zm (zp zdr (qpv 7) za (nomark _)) (zf (zd (zr (zg zZ za9 (qpv 6) za1)))) zn)))
   (zd (zr (zg zZ za9 (ze (ok_met T) (hr.mono (by decide)) rfl T.met.mg T.met.fn.kp T.met.bn .nil pass0 (zg (qpv 2) za1 (qpv 4) za1)) zar))))
  ,?_⟩
 clear yA zh ze zg zb qpv za zr zm zp zf zd zn zV zu yC zc zX zF zo zP zZ QE QT QW QA QS QSs QG QGs QI QO QIf
 dsimp! [L2.start]
 have e0:sgn (lnA a.x a.y a.w b.x b.y b.w*c.x+lnB a.x a.y a.w b.x b.y b.w*c.y+lnC a.x a.y a.w b.x b.y b.w*c.w)=sgn (dt a b c):=rfl;have e1:sgn (lnA a.x a.y a.w b.x b.y b.w*d.x+lnB a.x a.y a.w b.x b.y b.w*d.y+lnC a.x a.y a.w b.x b.y b.w*d.w)=sgn (dt a b d):=rfl;have e2:sgn (lnA c.x c.y c.w d.x d.y d.w*a.x+lnB c.x c.y c.w d.x d.y d.w*a.y+lnC c.x c.y c.w d.x d.y d.w*a.w)=sgn (dt c d a):=rfl;have e3:sgn (lnA c.x c.y c.w d.x d.y d.w*b.x+lnB c.x c.y c.w d.x d.y d.w*b.y+lnC c.x c.y c.w d.x d.y d.w*b.w)=sgn (dt c d b):=rfl;unfold mtF at k;simp! [h4.s,h4.t];refine⟨p,q,_,_,_,_,_,_,rfl,h4.a.tb,h4.b.tb,fun l H1 g1 hl=>?_⟩;have i1:=h4.same g1;simp! [i1.s,i1.t];refine⟨l,r,_,_,_,_,_,_,rfl,hl,zlt i1.a.tb.2 i1.b.tb.2,i1.c.1,i1.c.tb.2,?_⟩;simp! [i1.s,i1.t];refine⟨l,u,_,_,_,_,_,_,rfl,hl,zlt i1.a.tb.2 i1.b.tb.2,i1.d.1,i1.d.tb.2,?_⟩;simp! [e0,e1];intro SD hSD;have g2:=za4 hSD (HO.tup [V.int (sgn (dt a b c)),V.int (sgn (dt a b d))]);have s2:upd H1 SD (HO.tup [V.int (sgn (dt a b c)),V.int (sgn (dt a b d))]) SD=some (HO.tup [V.int (sgn (dt a b c)),V.int (sgn (dt a b d))]):=upd_same;generalize upd H1 SD (HO.tup [V.int (sgn (dt a b c)),V.int (sgn (dt a b d))])=H2 at*;have i2:=i1.same g2;intro Z hZ;have g3':=za4 hZ (HO.tup [V.int 0,V.int 0]);have z3:upd H2 Z (HO.tup [V.int 0,V.int 0]) Z=some (HO.tup [V.int 0,V.int 0]):=upd_same;generalize upd H2 Z (HO.tup [V.int 0,V.int 0])=H3 at*;have i3:=i2.same g3';have s3:=g3' _ _ s2;have g13:=g1.trans (g2.trans g3');refine⟨_,_,rd_i2 (.of s3),rd_i2 (.of z3),zim _ _,zim _ _,_,rfl,?_⟩;rw[dI2_eqv]
 by_cases cl:sgn (dt a b c)=0/\sgn (dt a b d)=0
 ·rw[decide_eq_true cl];rw[if_pos cl] at k;exact iteT ⟨s,t,p,q,r,u,a,b,c,d,rfl,i3,fun v H' g h=>k v H' (g13.trans g) h⟩
 rw[decide_eq_false cl];rw[if_neg cl] at k;refine iteF ?_;simp! [s3];refine ite2 (fun c1=>?_) (fun c1=>?_)
 ·rw[if_pos (of_decide_eq_true c1)] at k;exact k .non _ g13 rfl
 have n1:sgn (dt a b c)≠sgn (dt a b d):=fun z=>c1 (decide_eq_true z);rw[if_neg n1] at k;simp! [i3.s,i3.t];refine⟨r,u,_,_,_,_,_,_,rfl,i3.c.tb,i3.d.tb,fun m H4 g4 hm=>?_⟩;have i4:=i3.same g4;have s4:=g4 _ _ s3;simp! [i4.s,i4.t];refine⟨m,p,_,_,_,_,_,_,rfl,hm,zlt i4.c.tb.2 i4.d.tb.2,i4.a.1,i4.a.tb.2,?_⟩;simp! [i4.s,i4.t];refine⟨m,q,_,_,_,_,_,_,rfl,hm,zlt i4.c.tb.2 i4.d.tb.2,i4.b.1,i4.b.tb.2,?_⟩;simp! [e2,e3];intro SO hSO;have g5:=za4 hSO (HO.tup [V.int (sgn (dt c d a)),V.int (sgn (dt c d b))]);have o5:upd H4 SO (HO.tup [V.int (sgn (dt c d a)),V.int (sgn (dt c d b))]) SO=some (HO.tup [V.int (sgn (dt c d a)),V.int (sgn (dt c d b))]):=upd_same;generalize upd H4 SO (HO.tup [V.int (sgn (dt c d a)),V.int (sgn (dt c d b))])=H5 at*;have i5:=i4.same g5;have s5:=g5 _ _ s4;have g15:=g13.trans (g4.trans g5);refine ite2 (fun c2=>?_) (fun c2=>?_)
 ·rw[if_pos (of_decide_eq_true c2)] at k;exact k .non _ g15 rfl
 have n2:sgn (dt c d a)≠sgn (dt c d b):=fun z=>c2 (decide_eq_true z);rw[if_neg n2] at k;refine zbo ?_;simp! [iZipU,rCatT];refine⟨_,.of i5.t,_,.of i5.s,by simp,by show 4<=sizeLine;decide,fun z=>by simp at z,fun _ E1 hE1=>?_⟩
 have g6:=za4 hE1 (HO.tup ([V.ref r,V.ref u]++[V.ref p,V.ref q]));have e6:upd H5 E1 (HO.tup ([V.ref r,V.ref u]++[V.ref p,V.ref q])) E1=some (HO.tup [V.ref r,V.ref u,V.ref p,V.ref q]):=upd_same;generalize upd H5 E1 (HO.tup ([V.ref r,V.ref u]++[V.ref p,V.ref q]))=H6 at*;have s6:=g6 _ _ s5;have o6:=g6 _ _ o5;refine⟨_,.of s6,_,.of o6,by simp,by show 4<=sizeLine;decide,fun z=>by simp at z,fun _ E2 hE2=>?_⟩
 have g7:=za4 hE2 (HO.tup ([V.int (sgn (dt a b c)),V.int (sgn (dt a b d))]++[V.int (sgn (dt c d a)),V.int (sgn (dt c d b))]));have f7:upd H6 E2 (HO.tup ([V.int (sgn (dt a b c)),V.int (sgn (dt a b d))]++[V.int (sgn (dt c d a)),V.int (sgn (dt c d b))])) E2=some (HO.tup [V.int (sgn (dt a b c)),V.int (sgn (dt a b d)),V.int (sgn (dt c d a)),V.int (sgn (dt c d b))]):=upd_same;generalize upd H6 E2 (HO.tup ([V.int (sgn (dt a b c)),V.int (sgn (dt a b d))]++[V.int (sgn (dt c d a)),V.int (sgn (dt c d b))]))=H7 at*;have e7:=g7 _ _ e6;have g57:=g6.trans g7;have i7:=i5.same g57;have l7:=g57 _ _ (g5 _ _ (g4 _ _ (g3' _ _ (g2 _ _ hl))));have m7:=g57 _ _ (g5 _ _ hm);have g17:=g15.trans g57;refine⟨⟨_,e7⟩,?_⟩;refine znz (xs:=[V.ref r,V.ref u,V.ref p,V.ref q]) (ys:=[V.int (sgn (dt a b c)),V.int (sgn (dt a b d)),V.int (sgn (dt c d a)),V.int (sgn (dt c d b))]) (fun i σ H'=>Same H7 H'/\∃x y,σ=[some (V.ref s),some (V.ref t),some (V.ref l),some (V.ref SD),some (V.ref m),some (V.ref SO),x,y]/\(1<=i->sgn (dt a b c)≠0)/\(2<=i->sgn (dt a b d)≠0)/\(3<=i->sgn (dt c d a)≠0)/\(4<=i->sgn (dt c d b)≠0))
  ⟨.refl _,none,none,rfl,fun z=>absurd z (by decide),fun z=>absurd z (by decide),fun z=>absurd z (by decide),fun z=>absurd z (by decide)⟩ (fun i σ H' iv=>⟨iv.1 _ _ e7,iv.1 _ _ f7⟩) rfl ?_ ?_
 ·intro _ _;rintro i x y T' σ H8 hx hy ⟨g8,u1,u2,rfl,c1,c2,c3,c4⟩ hT';have i8:=i7.same g8;obtain⟨e,sd',P',rfl,rfl,hP,hz,hnz⟩:∃(e:Addr)(sd':Int)(P':Q3),x=.ref e/\y=.int sd'/\PtQ 130 H8 e P'/\(sd'=0->mtS a b c d=P')/\(sd'≠0->(1<=i+1->sgn (dt a b c)≠0)/\(2<=i+1->sgn (dt a b d)≠0)/\(3<=i+1->sgn (dt c d a)≠0)/\(4<=i+1->sgn (dt c d b)≠0)):=by
   match i,hx,hy with
   |0,hx,hy=>
    cases hx;cases hy;exact⟨r,_,c,rfl,rfl,i8.c,fun z=>by unfold mtS;rw[if_pos z],fun z=>⟨fun _=>z,fun z=>absurd z (by decide),fun z=>absurd z (by decide),fun z=>absurd z (by decide)⟩⟩
   |1,hx,hy=>
    cases hx;cases hy;exact⟨u,_,d,rfl,rfl,i8.d,fun z=>by unfold mtS;rw[if_neg (c1 (by decide)),if_pos z],fun z=>⟨fun _=>c1 (by decide),fun _=>z,fun z=>absurd z (by decide),fun z=>absurd z (by decide)⟩⟩
   |2,hx,hy=>
    cases hx;cases hy;exact⟨p,_,a,rfl,rfl,i8.a,fun z=>by unfold mtS;rw[if_neg (c1 (by decide)),if_neg (c2 (by decide)),if_pos z],fun z=>⟨fun _=>c1 (by decide),fun _=>c2 (by decide),fun _=>z,fun z=>absurd z (by decide)⟩⟩
   |3,hx,hy=>
    cases hx;cases hy;exact⟨q,_,b,rfl,rfl,i8.b,fun z=>by unfold mtS;rw[if_neg (c1 (by decide)),if_neg (c2 (by decide)),if_neg (c3 (by decide)),if_pos z],fun z=>⟨fun _=>c1 (by decide),fun _=>c2 (by decide),fun _=>c3 (by decide),fun _=>z⟩⟩
  have g9:=za4 hT' (HO.tup [V.ref e,V.int sd']);have t9:upd H8 T' (HO.tup [V.ref e,V.int sd']) T'=some (HO.tup [V.ref e,V.int sd']):=upd_same;generalize upd H8 T' (HO.tup [V.ref e,V.int sd'])=H9 at*;simp! [gTup];refine⟨_,.of t9,rfl,_,_,rfl,_,_,rfl,rfl,?_⟩;refine⟨rfl,ite2 (fun c=>fun z hz'=>?_) (fun c=>⟨g8.trans g9,hnz (by simpa using c)⟩)⟩
  have s0:sd'=0:=by simpa using c
  have g10:=za4 hz' (HO.tup [V.str "spot",V.ref e]);refine k _ _ (g17.trans (g8.trans (g9.trans g10))) ?_;rw[hz s0];exact⟨z,e,rfl,upd_same,g10 _ _ (g9 _ _ hP.1)⟩
 ·rintro σ H8 ⟨g8,u1,u2,rfl,c1,c2,c3,c4⟩;have cw:=zqz (a:=a) (b:=b) h4.c.pt.pos h4.d.pt.pos n1;simp! [];refine⟨l,m,_,_,_,_,_,_,rfl,g8 _ _ l7,zlt h4.a.tb.2 h4.b.tb.2,g8 _ _ m7,zlt h4.c.tb.2 h4.d.tb.2,fun z=>absurd z cw,fun _ M H9 g9 hM=>?_⟩;simp! [];intro z hz;have g10:=za4 hz (HO.tup [V.str "spot",V.ref M]);have em:mtS a b c d=crP a b c d:=by unfold mtS;rw[if_neg (c1 (by show 1<=4;decide)),if_neg (c2 (by show 2<=4;decide)),if_neg (c3 (by show 3<=4;decide)),if_neg (c4 (by show 4<=4;decide))]
  refine k _ _ (g17.trans (g8.trans (g9.trans g10))) ?_;rw[em];exact⟨z,M,rfl,upd_same,g10 _ _ hM⟩
theorem zs0(T:Txt K mg ad fd):FnOk P w K mg base CX0 3 (ad 7) (fd 7) ["P","Q","R"] sp_turn:=by
 refine T.turn.fn.ok sc_turn (fun vs H Q E h=>?_) (fun cdv A outer s H vs Q E hr h=>?_)
 ·obtain⟨p,q,r,x1,y1,w1,x2,y2,w2,x3,y3,w3,rfl,_⟩:=h;rfl
 obtain⟨p,q,r,x1,y1,w1,x2,y2,w2,x3,y3,w3,rfl,hp,hq,hr',k⟩:=h;have zf:=@zac;have zd:=@zaj;have ze:=@zap;have zg:=@pa2;have qpv:=@pv;generalize @PE=QE,@PT=QT,@PW=QW,@PA=QA,@PS=QS,@PSs=QSs,@PG=QG,@PGs=QGs,@L2.PI=QI,@PO=QO,@PIf=QIf at zf zd ze zg qpv⊢;refine⟨_,
  (zf (zd (ze (zeb T) (hr.mono (by decide)) rfl T.side_of.mg T.side_of.fn.kp T.side_of.bn .nil pass0 (zg (ze (zgn T) (hr.mono (by decide)) rfl T.line_of.mg T.line_of.fn.kp T.line_of.bn .nil pass0 (zg (qpv 0) za1 (qpv 1) za1)) zar (qpv 2) za1))))
  ,?_⟩
 clear zf zd ze zg qpv QE QT QW QA QS QSs QG QGs QI QO QIf
 dsimp! [L2.start]
 simp! [zp6,zqq];exact⟨x1,y1,w1,hp,x2,y2,w2,hq,fun l H2 g2 hl=>⟨_,_,_,hl,zlt hp.2 hq.2,_,_,_,(hr'.same g2).1,hr'.2,k H2 g2⟩⟩
theorem putK_old{κ:Type}[DecidableEq κ]{kvs:List (κ×V)}{k:κ}(v:V)(h:(valV kvs k).isSome=true):(putK kvs k v).map QP=kvs.map QP:=by
 unfold putK;rw[zdu,if_pos h,QV];refine vw fun kv _=>?_;show(if kv.1=k then(kv.1,v) else kv).1=kv.1
 split<;>rfl
theorem zg6{κ:Type}[DecidableEq κ]{kvs:List (κ×V)}{k:κ}(h:k∈kvs.map QP):(valV kvs k).isSome=true:=by
 cases e:valV kvs k with
 |some v=>rfl
 |none=>exact absurd h (valV_not e)
def zsh(ns:List Nat):List Key:=ns.map fun i:Nat=>(Uk (i:Int):Key)
theorem zkh{ns:List Nat}{i:Nat}:(Uk (i:Int):Key)∈zsh ns↔i∈ns:=by
 unfold zsh
 constructor
 ·intro h;obtain⟨j,hj,e⟩:=pd.mp h;have:(j:Int)=(i:Int):=Ef e;have e':j=i:=by omega
  rw[←e'];exact hj
 ·intro h;exact pd.mpr ⟨i,h,rfl⟩
structure Ly(H:Hp)(d:Addr)(os:List Addr)(n:Nat)(T:Q3->Nat->Prop)(kvs:List (List Key×V))(qs:List Q3):Prop where
 own:d∈os
 at_:H d=some (.dT kvs)
 keys:kvs.map QP=qs.map kQ
 nd:qs.Nodup
 pq:∀q,q∈qs->PQ 700 q
 mem:∀q,q∈qs↔∃i,T q i
 len:kvs.length<=n
 inn:∀q,q∈qs->∃b kws ns,valV kvs (kQ q)=some (.ref b)/\b∈os/\H b=some (.dK kws)/\kws.map QP=zsh ns/\kws.length<=n/\ns.Nodup/\∀i,i∈ns↔T q i
 inj:∀q q' b,valV kvs (kQ q)=some (.ref b)->valV kvs (kQ q')=some (.ref b)->q=q'
 live:∀b,b∈os->(∃x,H b=some (.dT x))∨∃x,H b=some (.dK x)
theorem Ly.has{H:Hp}{d:Addr}{os:List Addr}{n:Nat}{T:Q3->Nat->Prop}{kvs:List (List Key×V)}{qs:List Q3}(L:Ly H d os n T kvs qs){q:Q3}:(valV kvs (kQ q)).isSome=true↔q∈qs:=by
 constructor
 ·intro h
  cases e:valV kvs (kQ q) with
  |none=>rw[e] at h;cases h
  |some v=>
   have m:=zs4 e;have m':kQ q∈kvs.map QP:=m;rw[L.keys] at m';obtain⟨r,hr,er⟩:=pd.mp m';rw[←zin er];exact hr
 ·intro h;refine zg6 ?_;rw[L.keys];exact pd.mpr ⟨q,h,rfl⟩
theorem Ly.keep{H H':Hp}{d:Addr}{os:List Addr}{n:Nat}{T:Q3->Nat->Prop}{kvs:List (List Key×V)}{qs:List Q3}(L:Ly H d os n T kvs qs)(g:∀b o,b∈os->H b=some o->H' b=some o):Ly H' d os n T kvs qs:=
 ⟨L.own,g _ _ L.own L.at_,L.keys,L.nd,L.pq,L.mem,L.len,fun q hq=>by
  obtain⟨b,kws,ns,h1,h2,h3,h4⟩:=L.inn q hq;exact⟨b,kws,ns,h1,h2,g _ _ h2 h3,h4⟩,L.inj,fun b hb=>(L.live b hb).imp (fun⟨x,h⟩=>⟨x,g _ _ hb h⟩) fun⟨x,h⟩=>⟨x,g _ _ hb h⟩⟩
theorem Ly.same{H H':Hp}{d:Addr}{os:List Addr}{n:Nat}{T:Q3->Nat->Prop}{kvs:List (List Key×V)}{qs:List Q3}(L:Ly H d os n T kvs qs)(g:Same H H'):Ly H' d os n T kvs qs:=L.keep fun b o _ h=>g _ _ h
theorem Ly.to{H:Hp}{d:Addr}{os:List Addr}{n:Nat}{T T':Q3->Nat->Prop}{kvs:List (List Key×V)}{qs:List Q3}(L:Ly H d os n T kvs qs)(h:∀q i,T q i↔T' q i):Ly H d os n T' kvs qs:=by
 have:T=T':=funext fun q=>funext fun i=>propext (h q i);rw[←this];exact L
theorem Ly.le{H:Hp}{d:Addr}{os:List Addr}{m n:Nat}{T:Q3->Nat->Prop}{kvs:List (List Key×V)}{qs:List Q3}(L:Ly H d os m T kvs qs)(h:m<=n):Ly H d os n T kvs qs:=
 ⟨L.own,L.at_,L.keys,L.nd,L.pq,L.mem,pP L.len h,fun q hq=>by
  obtain⟨b,kws,ns,h1,h2,h3,h4,h5,h6⟩:=L.inn q hq;exact⟨b,kws,ns,h1,h2,h3,h4,pP h5 h,h6⟩,L.inj,L.live⟩
theorem Ly.not{H:Hp}{d:Addr}{os:List Addr}{n:Nat}{T:Q3->Nat->Prop}{kvs:List (List Key×V)}{qs:List Q3}(L:Ly H d os n T kvs qs){b:Addr}{o:HO}(h:H b=some o)(h1:∀x,o≠.dT x)(h2:∀x,o≠.dK x):b∉os:=fun z=>by
 rcases L.live b z with⟨x,e⟩|⟨x,e⟩
 ·rw[h] at e;exact h1 x (pV e)
 ·rw[h] at e;exact h2 x (pV e)
def sp_note:Sp:=fun vs H Q _=>∃(d p:Addr)(os:List Addr)(n:Nat)(T:Q3->Nat->Prop)(kvs:List (List Key×V))(qs:List Q3)(r:Q3)(i:Nat),vs=[.ref d,.ref p,.int i]/\Ly H d os n T kvs qs/\n<=17000/\QH H p r/\
 ∀os' kvs' qs' H',(∀b o,H b=some o->b∉os->H' b=some o)->(∀b,b∈os'->b∈os∨H b=none)->Ly H' d os' (n+1) (fun q j=>T q j∨(q=r/\j=i)) kvs' qs'->Q .non H'
theorem Ly.put{H:Hp}{d b:Addr}{os:List Addr}{n:Nat}{T:Q3->Nat->Prop}{kvs:List (List Key×V)}{qs:List Q3}{kws:List (Key×V)}{ns:List Nat}{r:Q3}{i:Nat}(L:Ly H d os n T kvs qs)(hr:r∈qs)(e1:valV kvs (kQ r)=some (.ref b))(hb:H b=some (.dK kws)):
  Ly (upd H b (.dK (putK kws (Uk (i:Int)) (.bl true)))) d os (n+1) (fun q j=>T q j∨(q=r/\j=i)) kvs qs:=by
 obtain⟨b',kws',ns',f1,f2,f3,f4,f5,f6,f7⟩:=L.inn r hr;rw[e1] at f1
 cases f1;rw[hb] at f3
 cases f3;have nbd:d≠b:=fun z=>by rw[←z,L.at_] at hb;cases hb
 refine⟨L.own,by rw[za8 nbd];exact L.at_,L.keys,L.nd,L.pq,fun q=>?_,Qy L.len,fun q hq=>?_,L.inj,fun b' hb'=>?_⟩
 ·rw[L.mem]
  constructor
  ·rintro⟨j,hj⟩;exact⟨j,.inl hj⟩
  ·rintro⟨j,hj|⟨rfl,rfl⟩⟩
   ·exact⟨j,hj⟩
   ·exact(L.mem q).mp hr
 ·by_cases e:q=r
  ·subst e;refine⟨b,_,if i∈ns' then ns' else ns'++[i],e1,f2,upd_same,?_,?_,?_,fun j=>?_⟩
   ·by_cases m:i∈ns'
    ·rw[if_pos m,putK_old _ (zg6 (by rw[f4];exact zkh.mpr m)),f4]
    ·have nv:valV kws (Uk (i:Int))=none:=by
      cases ev:valV kws (Uk (i:Int)) with
      |none=>rfl
      |some v=>
       have mm:(Uk (i:Int):Key)∈kws.map QP:=zs4 ev;rw[f4] at mm;exact absurd (zkh.mp mm) m
     rw[if_neg m,zha _ nv,uK,f4];unfold zsh;rw[uK];rfl
   ·exact pP (zci _ _ _) (Qo f5)
   ·split
    ·exact f6
    ·rename_i m
     exact zlp f6 m
   ·by_cases m:i∈ns'
    ·rw[if_pos m,f7];refine⟨.inl,fun h=>h.elim id fun⟨_,z⟩=>?_⟩;rw[z];exact(f7 i).mp m
    ·rw[if_neg m,kY,f7,kf]
     constructor
     ·rintro(h|h)
      ·exact .inl h
      ·exact .inr ⟨rfl,h⟩
     ·rintro(h|⟨_,h⟩)
      ·exact .inl h
      ·exact .inr h
  ·obtain⟨b2,kws2,ns2,j1,j2,j3,j4,j5,j6,j7⟩:=L.inn q hq;have nb:b2≠b:=fun z=>by
    rw[z] at j1;exact e (L.inj _ _ _ j1 e1)
   refine⟨b2,kws2,ns2,j1,j2,by rw[za8 nb];exact j3,j4,Qy j5,j6,fun j=>?_⟩
   rw[j7];exact⟨.inl,fun h=>h.elim id fun⟨z,_⟩=>absurd z e⟩
 ·by_cases e:b'=b
  ·rw[e];exact .inr ⟨_,upd_same⟩
  ·rw[za8 e];exact L.live b' hb'
theorem Ly.new{H:Hp}{d b:Addr}{os:List Addr}{n:Nat}{T:Q3->Nat->Prop}{kvs:List (List Key×V)}{qs:List Q3}{r:Q3}(i:Nat)(L:Ly H d os n T kvs qs)(hr:valV kvs (kQ r)=none)(pr:PQ 700 r)(hb:H b=none):
  Ly (upd (upd (upd H b (.dK [])) d (.dT (putK kvs (kQ r) (.ref b)))) b (.dK (putK [] (Uk (i:Int)) (.bl true)))) d (b::os) (n+1) (fun q j=>T q j∨(q=r/\j=i)) (putK kvs (kQ r) (.ref b)) (qs++[r]):=by
 have nbd:d≠b:=fun z=>by rw[←z,L.at_] at hb;cases hb
 have rq:r∉qs:=fun z=>by
  have:=L.has.mpr z;rw[hr] at this
  cases this
 have nT:∀j,¬T r j:=fun j hj=>rq ((L.mem r).mpr ⟨j,hj⟩);refine⟨pB _ L.own,by rw[za8 nbd];exact upd_same,?_,zlp L.nd rq,fun q hq=>?_,fun q=>?_,pP (zci _ _ _) (Qo L.len),fun q hq=>?_,fun q q' c h1 h2=>?_,fun b' hb'=>?_⟩
 ·rw[zha _ hr,uK,uK,L.keys];rfl
 ·rcases kY.mp hq with h|h
  ·exact L.pq q h
  ·rw[kf.mp h];exact pr
 ·rw[kY,L.mem,kf]
  constructor
  ·rintro(⟨j,h⟩|h)
   ·exact⟨j,.inl h⟩
   ·exact⟨i,.inr ⟨h,rfl⟩⟩
  ·rintro⟨j,h|⟨h,_⟩⟩
   ·exact .inl ⟨j,h⟩
   ·exact .inr h
 ·by_cases e:q=r
  ·subst e;refine⟨b,_,[i],by rw[zej,if_pos rfl],pD,upd_same,?_,?_,Qm _ _,fun j=>?_⟩
   ·rw[zha _ rfl];rfl
   ·exact pP (zci _ _ _) (by simp)
   ·rw[kf];exact⟨fun h=>.inr ⟨rfl,h⟩,fun h=>h.elim (fun h=>absurd h (nT j)) fun h=>h.2⟩
  ·have hq':q∈qs:=(kY.mp hq).resolve_right fun z=>e (kf.mp z);obtain⟨b2,kws2,ns2,j1,j2,j3,j4,j5,j6,j7⟩:=L.inn q hq';have nb:b2≠b:=fun z=>by rw[z,hb] at j3;cases j3
   have nd2:b2≠d:=fun z=>by rw[z,L.at_] at j3;cases j3
   refine⟨b2,kws2,ns2,by rw[zej,if_neg fun z=>e (zin z)];exact j1,pB _ j2,by rw[za8 nb,za8 nd2,za8 nb];exact j3,j4,Qy j5,j6,fun j=>?_⟩
   rw[j7];exact⟨.inl,fun h=>h.elim id fun⟨z,_⟩=>absurd z e⟩
 ·rw[zej] at h1 h2;have old:∀q,¬kQ q=kQ r->valV kvs (kQ q)=some (.ref b)->False:=fun q ne h=>by
   have hq:=L.has.mp (by rw[h];rfl)
   obtain⟨b2,_,_,j1,j2,j3,_⟩:=L.inn q hq;rw[h] at j1
   cases j1;rw[hb] at j3
   cases j3
  by_cases e1:kQ q=kQ r<;>by_cases e2:kQ q'=kQ r
  ·rw[zin e1,zin e2]
  ·rw[if_pos e1] at h1;rw[if_neg e2] at h2
   cases h1;exact(old q' e2 h2).elim
  ·rw[if_neg e1] at h1;rw[if_pos e2] at h2
   cases h2;exact(old q e1 h1).elim
  ·rw[if_neg e1] at h1;rw[if_neg e2] at h2;exact L.inj _ _ _ h1 h2
 ·by_cases e:b'=b
  ·rw[e];exact .inr ⟨_,upd_same⟩
  ·rw[za8 e]
   by_cases e2:b'=d
   ·rw[e2];exact .inl ⟨_,upd_same⟩
   ·rw[za8 e2,za8 e];exact L.live b' ((kr.mp hb').resolve_left e)
theorem zlu(T:Txt K mg ad fd):FnOk P w K mg base CX0 1 (ad 24) (fd 24) ["lying","P","number"] sp_note:=by
 refine T.note.fn.ok sc_note (fun vs H Q E h=>?_) (fun cdv A outer s H vs Q E hr h=>?_)
 ·obtain⟨d,p,os,n,T,kvs,qs,r,i,rfl,_⟩:=h;rfl
 obtain⟨d,p,os,n,T',kvs,qs,r,i,rfl,L,hn,hp,k⟩:=h;have zx:=@pss2;have zm:=@zdb;have yj:=@pt_cmp;have yk:=@zkd;have qpv:=@pv;have zf:=@zac;have ya:=@zm4;have yn:=@zmh;have zn:=@zau;have zI:=@zgk;have zN:=@znl;generalize @PE=QE,@PT=QT,@PW=QW,@PA=QA,@PS=QS,@PSs=QSs,@PG=QG,@PGs=QGs,@L2.PI=QI,@PO=QO,@PIf=QIf,@L2.PC=QC,@L2.PK=QK at zx zm yj yk qpv zf ya yn zn zI zN⊢;refine⟨_,
  (zx
   (zm (yj (yk (zfs hr) (qpv 1) (qpv 0))) (zf (ya (zfs hr) (qpv 0) (qpv 1) yn rfl)) zn)
   (ya (zfs hr) (zI (zfs hr) (qpv 0) (qpv 1) fun _ _=>rfl) (qpv 2) zN rfl))
  ,?_⟩
 clear zx zm yj yk qpv zf ya yn zn zI zN QE QT QW QA QS QSs QG QGs QI QO QIf QC QK
 dsimp! [L2.start]
 simp! [zl4,sDPut,zhn,zpb];refine⟨_,.t (k:=kQ r) L.at_ hp.1,ite2 (fun c=>?_) fun c=>?_⟩
 ·have nv:valV kvs (kQ r)=none:=by
   cases e:valV kvs (kQ r) with
   |none=>rfl
   |some u=>rw[e] at c;cases c
  intro b hb;have nbd:d≠b:=za7 L.at_ hb;have nbp:p≠b:=za7 hp.1 hb;refine⟨_,.t (k:=kQ r) (by rw[za8 nbd];exact L.at_) (by rw[za8 nbp];exact hp.1) (small10k (by have:=L.len;omega)),.ref b,?_,b,rfl,_,.k (k:=Uk (i:Int)) (kvs:=[]) (by rw[za8 nbd.symm];exact upd_same) (small10k (by simp)),k (b::os) _ _ _ (fun b' o h n=>?_) (fun b' h=>?_) (L.new i nv hp.2 hb)⟩
  ·have npd:p≠d:=fun z=>by
    have h1:=hp.1;rw[z,L.at_] at h1
    cases h1
   have:=DGet.t (k:=kQ r) (a:=d) (b:=p) (kvs:=putK kvs (kQ r) (V.ref b)) (H:=upd (upd H b (HO.dK [])) d (HO.dT (putK kvs (kQ r) (V.ref b)))) upd_same (by rw[za8 npd,za8 nbp];exact hp.1)
   rw[zej,if_pos rfl] at this;exact this
  ·have n1:b'≠b:=za7 h hb;have n2:b'≠d:=fun z=>n (by rw[z];exact L.own)
   rw[za8 n1,za8 n2,za8 n1];exact h
  ·rcases kr.mp h with h|h
   ·rw[h];exact .inr hb
   ·exact .inl h
 ·have z:(valV kvs (kQ r)).isSome=true:=by
   cases e:(valV kvs (kQ r)).isSome with
   |true=>rfl
   |false=>exact absurd (by rw[e];rfl) c
  have hr':=L.has.mp z;obtain⟨b,kws,ns,f1,f2,f3,f4,f5,f6,f7⟩:=L.inn r hr';refine⟨.ref b,by rw[←f1];exact .t (k:=kQ r) L.at_ hp.1,b,rfl,_,.k (k:=Uk (i:Int)) f3 (small10k (by omega)),k os kvs qs _ (fun b' o h n=>?_) (fun b' h=>.inl h) (L.put (ns:=ns) hr' f1 f3)⟩
  rw[za8 (fun z=>n (by rw[z];exact f2))]
  exact h
def Shr:MR->Q3->Prop
 |.none,_=>False
 |.spot q,p=>p=q
 |.part a b,p=>p=a∨p=b
def zp9:Sp:=fun vs H Q _=>∃(v:V)(r:MR),vs=[v]/\MtV H v r/\(∀p,Shr r p->PQ 700 p)/\∀(t:Addr)(xs:List V)(ps:List Q3)(H':Hp),Same H H'->H' t=some (.tup xs)->xs.length<=2->LR QH H' xs ps->(∀p,p∈ps↔Shr r p)->Q (.ref t) H'
theorem zi6(T:Txt K mg ad fd):FnOk P w K mg base CX0 1 (ad 25) (fd 25) ["common"] zp9:=by
 refine T.shared_ends.fn.ok zi5 (fun vs H Q E h=>?_) (fun cdv A outer s H vs Q E hr h=>?_)
 ·obtain⟨v,r,rfl,_⟩:=h;rfl
 obtain⟨v,r,rfl,hv,hq,k⟩:=h;have zy:=@pss3;have zm:=@zdb;have zp:=@zb8;have qpv:=@pv;have zV:=@zmi;have zf:=@zac;have zd:=@zaj;have zr:=@zdg;have zG:=@zds;have zn:=@zau;have zb:=@zck;have za:=@zat;have zZ:=@zsk;have zj:=@pa1;generalize @PE=QE,@PT=QT,@PW=QW,@PA=QA,@PS=QS,@PSs=QSs,@PG=QG,@PGs=QGs,@L2.PI=QI,@PO=QO,@PIf=QIf at zy zm zp qpv zV zf zd zr zG zn zb za zZ zj⊢;refine⟨_,
  (zy
   (zm (zp op_isN (qpv 0) zV (nomark _)) (zf (zd (zr zG))) zn)
   (zm (zp zdr (zb za2 (qpv 0) za fun _ _=>rfl) zZ (nomark _)) (zf (zd (zr (zj (zb za2 (qpv 0) za fun _ _=>rfl) za3)))) zn)
   (zd (zb za2 (qpv 0) za fun _ _=>rfl)))
  ,?_⟩
 clear zy zm zp qpv zV zf zd zr zG zn zb za zZ zj QE QT QW QA QS QSs QG QGs QI QO QIf
 dsimp! [L2.start]
 simp! []
 cases r with
 |none=>
  have ev:v=.non:=hv;subst ev;rw[decide_eq_true (rfl:V.non=V.non)];exact iteT fun t ht=>k t [] [] _ (za4 ht _) upd_same (by simp) .nil (fun p=>⟨fun h=>(by cases h),fun h=>h.elim⟩)
 |spot q=>
  obtain⟨x,y,rfl,h1,h2⟩:=hv;simp! [h1];refine⟨rfl,fun t ht=>?_⟩;have g:=za4 ht (HO.tup [V.ref y]);exact k t [.ref y] [q] _ g upd_same (by simp) (.one ⟨g _ _ h2,hq q rfl⟩) (fun p=>kf)
 |part a b=>
  obtain⟨x,y,m,n,rfl,h1,h2,h3,h4⟩:=hv;simp! [h1];refine⟨rfl,?_⟩;rw[decide_eq_false (by decide:¬(V.str (pQ "part")=V.str (pQ "spot")))]
  refine iteF (k y [.ref m,.ref n] [a,b] H (.refl _) h2 (by simp) ((LR.one (R:=QH) (a:=a) ⟨h3,hq a (.inl rfl)⟩).app (.one ⟨h4,hq b (.inr rfl)⟩)) fun p=>?_)
  show p∈[a,b]↔p=a∨p=b
  simp
theorem zg0{H H':Hp}{tb tc:Addr}{lp lp':Pos}{ql ql':Str}(h:zah H tb lp ql)(h':zah H tc lp' ql')(ne:tb≠tc)(g:zdc tc H H'):zah H' tb lp ql:=by
 obtain⟨ps,h1,h2,h3⟩:=h;refine⟨ps,g _ _ ne h1,h2,h3.imp id fun⟨c,e,hc⟩=>⟨c,e,g _ _ (h'.ne hc fun _ z=>nomatch z) hc⟩⟩
def mtI(ss:List (Q3×Q3))(x:Nat×Nat):MR:=mtF (ss.getD x.1 zQ).1 (ss.getD x.1 zQ).2 (ss.getD x.2 zQ).1 (ss.getD x.2 zQ).2
def zj2(ss:List (Q3×Q3))(q:Q3)(i:Nat):Prop:=∃e,ss[i]?=some e/\(q=e.1∨q=e.2)
def LyT(ss:List (Q3×Q3))(ps:List (Nat×Nat))(q:Q3)(i:Nat):Prop:=zj2 ss q i∨∃x,x∈ps/\(i=x.1∨i=x.2)/\Shr (mtI ss x) q
theorem shr_pq{a b c d:Q3}(ha:PQ 130 a)(hb:PQ 130 b)(hc:PQ 130 c)(hd:PQ 130 d)(bab:bq a b=true)(bcd:bq c d=true){p:Q3}(h:Shr (mtF a b c d) p):PQ 700 p/\on3 a b p=true/\on3 c d p=true:=by
 obtain⟨b1,b2,b3⟩:=cr_bd ha hb hc hd
 cases e:mtF a b c d with
 |none=>rw[e] at h;cases h
 |spot q=>
  rw[e] at h;have h':p=q:=h;subst h';obtain⟨_,p1,p2,p3,_⟩:=zru (m:=700) (by decide) ha hb hc hd bab bcd (zan b1 (by decide)) (zan b2 (by decide)) (zan b3 (by decide)) e
  exact⟨p1,p2,p3⟩
 |part u v=>
  rw[e] at h;have h':p=u∨p=v:=h;obtain⟨_,_,p1,p2,_,p3,p4,_⟩:=zlh ha hb hc hd bab bcd e;rcases h' with rfl|rfl
  ·exact⟨Pt.mono p1 (by decide),p3.1,p3.2⟩
  ·exact⟨Pt.mono p2 (by decide),p4.1,p4.2⟩
def sp_lying(tb:Addr)(lp:Pos)(ql:Str):Sp:=fun vs H Q _=>∃(l:Addr)(ys:List V)(ss:List (Q3×Q3)),vs=[.ref l]/\H l=some (.lst ys)/\ys.length<=63/\LR (StE 130) H ys ss/\zah H tb lp ql/\
 ∀(d:Addr)(os:List Addr)(kvs:List (List Key×V))(qs:List Q3)(ps:List (Nat×Nat))(g:Int)(H':Hp),zdc tb H H'->zah H' tb lp ql->(∀b,b∈os->H b=none)->Ly H' d os 17000 (LyT ss ps) kvs qs->0<g->(∀p,p∈ss.flatMap (fun s=>[s.1,s.2])->p.w<=g)->(∀e,e∈ps->e.1<ys.length/\e.2<ys.length)->
  (∀a b,a<ys.length->b<ys.length->a≠b->Nigh g (ss.getD a zQ) (ss.getD b zQ)->(a,b)∈ps∨(b,a)∈ps)->ps.length<=tri ys.length->Q (.ref d) H'
theorem s2_of{H:Hp}{ys:List V}{ss:List (Q3×Q3)}(h:LR (StE 130) H ys ss):LR S2H H ys ss:=⟨h.1,fun j v z=>by
 obtain⟨p,e,e1,e2,c,d,h1,h2,h3,_⟩:=h.2 j v z;exact⟨p,e,e1,e2,c,d,h1,PtH.mono h2 (by decide),PtH.mono h3 (by decide)⟩⟩
structure LI(tb:Addr)(H H':Hp)(Dp t:Addr)(pv xs:List V)(ps:List (Nat×Nat))(rs:List Q3)(os:List Addr):Prop where
 st:zdc tb H H'
 lt:zah H' tb zje qlN
 dp:H' Dp=some (.lst pv)
 pvs:LR PrH H' pv ps
 tt:H' t=some (.tup xs)
 rr:LR QH H' xs rs
 ow:∀b,b∈os->H b=none
theorem LI.note{tb:Addr}{H H8 H9:Hp}{Dp t d:Addr}{pv xs:List V}{ps:List (Nat×Nat)}{rs:List Q3}{os os':List Addr}{n:Nat}{T:Q3->Nat->Prop}{kvs:List (List Key×V)}{qs:List Q3}(I:LI tb H H8 Dp t pv xs ps rs os)(L:Ly H8 d os n T kvs qs)(fr:∀b o,H8 b=some o->b∉os->H9 b=some o)(ow:∀b,b∈os'->b∈os∨H8 b=none)(ht:∀b,H8 b=none->H b=none):LI tb H H9 Dp t pv xs ps rs os':=by
 have ts:zbp H8 H9:=fun b ys h=>fr b _ h (L.not h (fun _ z=>nomatch z) fun _ z=>nomatch z);refine⟨fun b o nb h=>fr b o (I.st b o nb h) fun z=>?_,?_,fr _ _ I.dp (L.not I.dp (fun _ z=>nomatch z) fun _ z=>nomatch z),I.pvs.ts zlz ts,ts _ _ I.tt,I.rr.ts zjh ts,fun b hb=>?_⟩
 ·rw[I.ow b z] at h
  cases h
 ·obtain⟨tp,h1,h2,h3⟩:=I.lt;exact⟨tp,fr _ _ h1 (L.not h1 (fun _ z=>nomatch z) fun _ z=>nomatch z),h2,h3.imp id fun⟨c,e,hc⟩=>⟨c,e,fr _ _ hc (L.not hc (fun _ z=>nomatch z) fun _ z=>nomatch z)⟩⟩
 ·rcases ow b hb with z|z
  ·exact I.ow b z
  ·exact ht b z
theorem zm7(T:Txt K mg ad fd)(hK:K.In base)(hB:∀b,b∈([ad 48,ad 50,ad 52]:List Addr)->base.BuiltinsAt mg b):FnOk P w K mg base CX0 5 (ad 23) (fd 23) ["stretches"] (sp_lying (ad 52) zje qlN):=by
 refine T.lying_at.fn.ok zc7 (fun vs H Q E h=>?_) (fun cdv A outer s H vs Q E hr h=>?_)
 ·obtain⟨l,ys,ss,rfl,_⟩:=h;rfl
 obtain⟨l,ys,ss,rfl,hl,hn,hs,lt,k⟩:=h;have zD:=@pss4;have zh:=@zbv;have yi:=@zna;have zu:=@zdw;have yD:=@pi_enu;have zj:=@pa1;have qpv:=@pv;have yh:=@zt4;have zF:=@zfb;have zo:=@zbw;have zP:=@zgh;have zf:=@zac;have yt:=@pi_tup;have zE:=@zf4;have ze:=@zap;have zt:=@pa3;have zq:=@zc4;have zg:=@pa2;have zb:=@zck;have zx:=@pss2;have zd:=@zaj;generalize @PE=QE,@PT=QT,@PW=QW,@PA=QA,@PS=QS,@PSs=QSs,@PG=QG,@PGs=QGs,@L2.PI=QI,@PO=QO,@PIf=QIf at zD zh yi zu yD zj qpv yh zF zo zP zf yt zE ze zt zq zg zb zx zd⊢;refine⟨_,
  (zD
   (zh (i:=1) zc7.nd rfl (km rfl) yi)
   (zu pT rfl (yD rfl T.b_enumerate (zj (qpv 0) za1)) (yh (n:=2) rfl (zF (zo (i:=2) zc7.nd rfl (km rfl)) (zF (zo (i:=3) zc7.nd rfl (km rfl)) zP))) (zf (zu pT rfl (yt (qpv 3)) (zo (i:=4) zc7.nd rfl (km rfl)) (zf (zE (ze (zlu T) (hr.mono (by decide)) rfl T.note.mg T.note.fn.kp T.note.bn .nil pass0 (zt (qpv 1) za1 (qpv 4) za1 (qpv 2) za1)))))))
   (zu pT rfl (zq (ze (zjk T hK hB) (hr.mono (by decide)) rfl T.near_pairs.mg T.near_pairs.fn.kp T.near_pairs.bn .nil pass0 (zj (qpv 0) za1))) (yh (n:=2) rfl (zF (zo (i:=5) zc7.nd rfl (km rfl)) (zF (zo (i:=6) zc7.nd rfl (km rfl)) zP))) (zf (zu pT rfl (yt (ze (zi6 T) (hr.mono (by decide)) rfl T.shared_ends.mg T.shared_ends.fn.kp T.shared_ends.bn .nil pass0 (zj (ze (ok_meet T) (hr.mono (by decide)) rfl T.meet.mg T.meet.fn.kp T.meet.bn .nil pass0 (zg (zb zbl (qpv 0) (qpv 5) fun _ _=>rfl) za3 (zb zbl (qpv 0) (qpv 6) fun _ _=>rfl) za3)) zar))) (zo (i:=4) zc7.nd rfl (km rfl)) (zx
   (zE (ze (zlu T) (hr.mono (by decide)) rfl T.note.mg T.note.fn.kp T.note.bn .nil pass0 (zt (qpv 1) za1 (qpv 4) za1 (qpv 5) za1)))
   (zE (ze (zlu T) (hr.mono (by decide)) rfl T.note.mg T.note.fn.kp T.note.bn .nil pass0 (zt (qpv 1) za1 (qpv 4) za1 (qpv 6) za1)))))))
   (zd (qpv 1)))
  ,?_⟩
 clear zD zh yi zu yD zj qpv yh zF zo zP zf yt zE ze zt zq zg zb zx zd QE QT QW QA QS QSs QG QGs QI QO QIf
 dsimp! [L2.start]
 simp! [tDNewT];intro d hd;have g1:=za4 hd (HO.dT []);have hd1:upd H d (HO.dT []) d=some (.dT []):=upd_same;generalize upd H d (HO.dT [])=H1 at*;have L1:Ly H1 d [d] 0 (fun q i=>i<0/\zj2 ss q i) [] []:=⟨kf.mpr rfl,hd1,rfl,.nil,fun q hq=>(by cases hq),fun q=>⟨fun h=>(by cases h),fun⟨i,h,_⟩=>(by omega)⟩,kM _,fun q hq=>(by cases hq),fun q q' b h=>(by cases h),fun b hb=>(by rw[kf.mp hb];exact .inl ⟨_,hd1⟩)⟩
 refine zbo ?_;simp! [iEnu];refine⟨⟨ys,g1 _ _ hl⟩,fun K'=>?_⟩;refine for_enuO (K:=K') (l:=l) (xs:=ys) (fun i σ H'=>∃(os:List Addr)(kvs:List (List Key×V))(qs:List Q3)(o2 o3 o4 o5 o6:Option V),σ=[some (V.ref l),some (V.ref d),o2,o3,o4,o5,o6]/\Same H H'/\(∀b,b∈os->H b=none)/\Ly H' d os (2*i) (fun q j=>j<i/\zj2 ss q j) kvs qs) ⟨[d],[],[],none,none,none,none,none,rfl,g1,fun b hb=>(by rw[kf.mp hb];exact hd),L1⟩ (fun i σ H' iv=>?_) ?_ ?_
 ·obtain⟨os,kvs,qs,o2,o3,o4,o5,o6,_,g,_⟩:=iv;exact g _ _ hl
 ·intro _ _;rintro i v Tn σ H2 hi ⟨os,kvs,qs,o2,o3,o4,o5,o6,rfl,g2,hos,L2'⟩ hTn;have hi':=(kF.mp hi).1;obtain⟨p,e,rfl,he,c,c2,h1,h2,h3,hb⟩:=hs.2 i v hi;have g3:=za4 hTn (HO.tup [V.int (i:Int),V.ref p]);have t3:upd H2 Tn (HO.tup [V.int (i:Int),V.ref p]) Tn=some (HO.tup [V.int (i:Int),V.ref p]):=upd_same;generalize upd H2 Tn (HO.tup [V.int (i:Int),V.ref p])=H3 at*;simp! [t3];have g03:=g2.trans g3;have hp3:=g03 _ _ h1;refine zbo ?_;simp! [iTup];refine⟨⟨_,.of hp3⟩,?_⟩;refine zn8 (K:=K) (a:=p) (xs:=[V.ref c,V.ref c2]) (fun m σ H'=>∃(os:List Addr)(kvs:List (List Key×V))(qs:List Q3)(o4 o5 o6:Option V),σ=[some (V.ref l),some (V.ref d),some (V.int (i:Int)),some (V.ref p),o4,o5,o6]/\Same H H'/\H' p=some (.tup [.ref c,.ref c2])/\(∀b,b∈os->H b=none)/\Ly H' d os (2*i+m) (fun q j=>(j<i/\zj2 ss q j)∨(j=i/\((1<=m/\q=e.1)∨(2<=m/\q=e.2)))) kvs qs)
   ⟨os,kvs,qs,o4,o5,o6,rfl,g03,hp3,hos,(L2'.same g3).to fun q j=>⟨.inl,fun h=>h.elim id fun⟨_,h⟩=>(by omega)⟩⟩ (fun m σ H' _ iv=>?_) ?_ ?_
  ·obtain⟨_,_,_,_,_,_,_,_,h,_⟩:=iv;exact .of h
  ·intro _ _;rintro m v σ H4 hm ⟨os,kvs,qs,o4,o5,o6,rfl,g4,hp4,hos4,L4⟩;obtain⟨cc,r,rfl,hcc,hmr⟩:∃(cc:Addr)(r:Q3),v=.ref cc/\QH H4 cc r/\∀q,((1<=m/\q=e.1)∨(2<=m/\q=e.2)∨q=r)↔((1<=m+1/\q=e.1)∨(2<=m+1/\q=e.2)):=by
    match m,hm with
    |0,hm=>
     cases hm;exact⟨c,e.1,rfl,⟨g4 _ _ h2.1,Pt.mono h2.2 (by decide)⟩,fun q=>⟨fun h=>(by rcases h with h|h|h;omega;omega;exact .inl ⟨by omega,h⟩),fun h=>(by rcases h with h|h;exact .inr (.inr h.2);omega)⟩⟩
    |1,hm=>
     cases hm;exact⟨c2,e.2,rfl,⟨g4 _ _ h3.1,Pt.mono h3.2 (by decide)⟩,fun q=>⟨fun h=>(by rcases h with h|h|h;exact .inl ⟨by omega,h.2⟩;omega;exact .inr ⟨by omega,h⟩),fun h=>(by rcases h with h|h;exact .inl ⟨by omega,h.2⟩;exact .inr (.inr h.2))⟩⟩
    |(n+2),hm=>cases hm
   have hm2:m<2:=(kF.mp hm).1;simp! [];refine⟨d,cc,os,_,_,kvs,qs,r,i,rfl,L4,by omega,hcc,fun os' kvs' qs' H5 fr ow L5=>?_⟩
   have g5:Same H H5:=fun b o h=>fr b o (g4 _ _ h) fun z=>by
    have:=hos4 b z;rw[this] at h
    cases h
   refine⟨g5,g5 _ _ h1,os',fun b hb=>?_,kvs',qs',?_⟩
   ·rcases ow b hb with z|z
    ·exact hos4 b z
    ·exact g4.free z
   ·refine L5.to fun q j=>?_;have:=hmr q
    constructor
    ·rintro((h|⟨h,h'⟩)|⟨h,h'⟩)
     ·exact .inl h
     ·exact .inr ⟨h,this.mp (h'.elim .inl fun z=>.inr (.inl z))⟩
     ·exact .inr ⟨h',this.mp (.inr (.inr h))⟩
    ·rintro(h|⟨h,h'⟩)
     ·exact .inl (.inl h)
     ·rcases this.mpr h' with z|z|z
      ·exact .inl (.inr ⟨h,.inl z⟩)
      ·exact .inl (.inr ⟨h,.inr z⟩)
      ·exact .inr ⟨z,h⟩
  ·rintro σ H4 ⟨os,kvs,qs,o4,o5,o6,rfl,g4,hp4,hos4,L4⟩;simp! [];refine⟨g4,os,hos4,kvs,qs,?_⟩;have e2:2*(i+1)=2*i+[V.ref c,V.ref c2].length:=rfl;rw[e2];refine L4.to fun q j=>?_
   constructor
   ·rintro(⟨h,h'⟩|⟨rfl,h|h⟩)
    ·exact⟨by omega,h'⟩
    ·exact⟨by omega,e,he,.inl h.2⟩
    ·exact⟨by omega,e,he,.inr h.2⟩
   ·rintro⟨h,h'⟩
    by_cases ji:j=i
    ·subst ji;obtain⟨e',he',h'⟩:=h';rw[he] at he'
     cases he';rcases h' with h'|h'
     ·exact .inr ⟨rfl,.inl ⟨by show 1<=2;omega,h'⟩⟩
     ·exact .inr ⟨rfl,.inr ⟨by show 2<=2;omega,h'⟩⟩
    ·exact .inl ⟨by omega,h'⟩
 ·rintro σ H2 ⟨os,kvs,qs,o2,o3,o4,o5,o6,rfl,g2,hos,L2'⟩;simp! [];have lss:ss.length=ys.length:=hs.1.symm;have L3:Ly H2 d os (2*ys.length) (zj2 ss) kvs qs:=L2'.to fun q j=>⟨fun h=>h.2,fun h=>⟨by
   obtain⟨e,he,_⟩:=h;have:=(kF.mp he).1;omega,h⟩⟩
  refine zbo ?_;simp! [zcm];refine⟨l,ys,ss,rfl,g2 _ _ hl,hn,(s2_of hs).ts zgl (zaf g2),lt.same g2,fun Dp pv ps g H3 hDp st3 lt3 hDp3 lpv hpv gp gm hps hnear=>?_⟩;have t63:=tri_63 hn;have tbo:∀b,H b=none->b≠(ad 52):=fun b hb z=>by
   obtain⟨tp,e,_⟩:=lt;rw[←z,hb] at e
   cases e
  have st03:zdc (ad 52) H H3:=fun b o nb h=>st3 b o nb (g2 _ _ h);have L4:=L3.keep (H':=H3) fun b o hb h=>st3 b o (tbo b (hos b hb)) h;refine⟨Dp,rfl,⟨_,.of hDp3⟩,?_⟩;refine zbh (K:=K) (a:=Dp) (xs:=pv) (fun i σ H'=>∃(os:List Addr)(kvs:List (List Key×V))(qs:List Q3)(o2 o3 o4 o5 o6:Option V),σ=[some (V.ref l),some (V.ref d),o2,o3,o4,o5,o6]/\zdc (ad 52) H H'/\zah H' (ad 52) zje qlN/\H' Dp=some (.lst pv)/\LR PrH H' pv ps/\(∀b,b∈os->H b=none)/\Ly H' d os (2*ys.length+4*i) (fun q j=>zj2 ss q j∨∃x,x∈ps.take i/\(j=x.1∨j=x.2)/\Shr (mtI ss x) q) kvs qs)
   ⟨os,kvs,qs,o2,o3,o4,o5,o6,rfl,st03,lt3,hDp3,hpv,hos,L4.to fun q j=>⟨.inl,fun h=>h.elim id fun⟨x,hx,_⟩=>(by rw[uG] at hx;cases hx)⟩⟩ (fun i σ H' _ iv=>?_) ?_ ?_
  ·obtain⟨_,_,_,_,_,_,_,_,_,_,_,h,_⟩:=iv;exact .of h
  ·intro _ _;rintro i v σ H5 hi ⟨os,kvs,qs,o2,o3,o4,o5,o6,rfl,st5,lt5,hDp5,hpv5,hos5,L5⟩;have hi':=(kF.mp hi).1;obtain⟨pp,x,rfl,hx,hpp⟩:=hpv5.2 i v hi;have hpp':H5 pp=some (.tup [.int (x.1:Int),.int (x.2:Int)]):=hpp;obtain⟨x1,x2⟩:=hps x (kZ hx);have hl5:=st5.lst lt hl;have tup5:∀{b:Addr}{xs:List V},H b=some (.tup xs)->H5 b=some (.tup xs):=fun h=>st5.tup lt h;obtain⟨s1,e1,i1,j1,c1,d1,k1,k2,k3,k4⟩:=hs.at x1;obtain⟨s2,e2,i2,j2,c2,d2,m1,m2,m3,m4⟩:=hs.at x2;have a1:atI ys (x.1:Int)=some (.ref s1):=zb6 i1;have a2:atI ys (x.2:Int)=some (.ref s2):=zb6 i2;have em:mtI ss x=mtF e1.1 e1.2 e2.1 e2.2:=by
    unfold mtI;rw[kD,kD,j1,j2];rfl
   simp! [hpp'];refine zbo ?_;simp! [iTup,hl5,a1,a2];refine⟨s1,s2,c1,d1,c2,d2,e1.1,e1.2,e2.1,e2.2,rfl,⟨tup5 k1,tup5 m1,⟨tup5 k2.1,k2.2⟩,⟨tup5 k3.1,k3.2⟩,⟨tup5 m2.1,m2.2⟩,⟨tup5 m3.1,m3.2⟩⟩,fun v6 H6 g6 mv=>?_⟩;refine⟨v6,_,rfl,mv,fun p hp=>(shr_pq k2.2 k3.2 m2.2 m3.2 k4 m4 hp).1,fun t xs rs H7 g7 ht7 lx hr7 mr=>?_⟩;have g57:=g6.trans g7;have L7:=L5.same g57;refine⟨t,rfl,⟨_,.of ht7⟩,?_⟩;have I7:LI (ad 52) H H7 Dp t pv xs ps rs os:=⟨zdc.same st5 g57,lt5.same g57,g57 _ _ hDp5,hpv5.ts zlz (zaf g57),ht7,hr7,hos5⟩;refine zn8 (K:=K) (a:=t) (xs:=xs) (fun m σ H'=>∃(os:List Addr)(kvs:List (List Key×V))(qs:List Q3)(o2 o3 o4:Option V),σ=[some (V.ref l),some (V.ref d),o2,o3,o4,some (V.int (x.1:Int)),some (V.int (x.2:Int))]/\LI (ad 52) H H' Dp t pv xs ps rs os/\Ly H' d os (2*ys.length+4*i+2*m) (fun q j=>(zj2 ss q j∨∃x,x∈ps.take i/\(j=x.1∨j=x.2)/\Shr (mtI ss x) q)∨(q∈rs.take m/\(j=x.1∨j=x.2))) kvs qs)
    ⟨os,kvs,qs,o2,o3,o4,rfl,I7,L7.to fun q j=>⟨.inl,fun h=>h.elim id fun h=>(by have:=h.1;rw[uG] at this;cases this)⟩⟩ (fun m σ H' _ iv=>?_) ?_ ?_
   ·obtain⟨_,_,_,_,_,_,_,h,_⟩:=iv;exact .of h.tt
   ·intro _ _;rintro m v σ H8 hm ⟨os,kvs,qs,o2,o3,o4,rfl,I8,L8⟩;have hm':=(kF.mp hm).1;obtain⟨cc,r,rfl,hr,hcc⟩:=I8.rr.2 m v hm;simp! [];refine⟨d,cc,os,_,_,kvs,qs,r,x.1,rfl,L8,by omega,hcc,fun os9 kvs9 qs9 H9 fr9 ow9 L9=>?_⟩
    have nn:∀{H':Hp},zdc (ad 52) H H'->zah H' (ad 52) zje qlN->∀b,H' b=none->H b=none:=fun{H'} s' l' b hb=>by
     cases e:H b with
     |none=>rfl
     |some o=>
      by_cases nb:b=(ad 52)
      ·obtain⟨tp,e3,_⟩:=l';rw[←nb,hb] at e3
       cases e3
      ·rw[s' b o nb e] at hb
       cases hb
    have I9:=I8.note L8 fr9 ow9 (nn I8.st I8.lt);obtain⟨cc',r',ecc,hr',hcc'⟩:=I9.rr.2 m _ hm
    cases ecc;rw[hr] at hr'
    cases hr';simp! [];refine⟨d,cc,os9,_,_,kvs9,qs9,r,x.2,rfl,L9,by omega,hcc',fun os10 kvs10 qs10 H10 fr10 ow10 L10=>?_⟩
    have I10:=I9.note L9 fr10 ow10 (nn I9.st I9.lt);refine⟨os10,I10,kvs10,qs10,?_⟩;rw[show 2*ys.length+4*i+2*(m+1)=2*ys.length+4*i+2*m+1+1 by omega]
    refine L10.to fun q j=>?_;rw[pi,hr];show((_∨_)∨_)↔_∨(q∈rs.take m++[r]/\_);rw[kY,kf]
    constructor
    ·rintro((h|h)|h)
     ·rcases h with h|h
      ·exact .inl h
      ·exact .inr ⟨.inl h.1,h.2⟩
     ·exact .inr ⟨.inr h.1,.inl h.2⟩
     ·exact .inr ⟨.inr h.1,.inr h.2⟩
    ·rintro(h|⟨h|h,h'|h'⟩)
     ·exact .inl (.inl (.inl h))
     ·exact .inl (.inl (.inr ⟨h,.inl h'⟩))
     ·exact .inl (.inl (.inr ⟨h,.inr h'⟩))
     ·exact .inl (.inr ⟨h,h'⟩)
     ·exact .inr ⟨h,h'⟩
   ·rintro σ H8 ⟨os,kvs,qs,o2,o3,o4,rfl,I8,L8⟩;simp! [];refine⟨I8.st,I8.lt,I8.dp,I8.pvs,os,I8.ow,kvs,qs,(L8.le (by omega)).to fun q j=>?_⟩
    rw[pH (UF hr7.1.symm),mr,pi,hx,←em]
    constructor
    ·rintro((h|⟨y,h1,h2⟩)|h)
     ·exact .inl h
     ·exact .inr ⟨y,pR _ h1,h2⟩
     ·exact .inr ⟨x,kN _ (by simp),h.2,h.1⟩
    ·rintro(h|⟨y,h1,h2,h3⟩)
     ·exact .inl (.inl h)
     ·rcases kY.mp h1 with h1|h1
      ·exact .inl (.inr ⟨y,h1,h2,h3⟩)
      ·have e':y=x:=by simpa using h1
       rw[e'] at h2 h3;exact .inr ⟨h3,h2⟩
  ·rintro σ H5 ⟨os,kvs,qs,o2,o3,o4,o5,o6,rfl,st5,lt5,hDp5,hpv5,hos5,L5⟩;simp! [];rw[pH (UF hpv5.1.symm)] at L5;exact k d os kvs qs ps g H5 st5 lt5 hos5 (L5.le (by omega)) gp gm hps hnear (by rw[←hpv5.1];exact lpv)
theorem dt_lin(a b p q r:Q3):dt a b r*dX p q=dt p q r*dX a b+dt a b p*dX r q+dt a b q*dX p r:=by unfold dt dX det3 lnA lnB lnC;grind
theorem dt_linY(a b p q r:Q3):dt a b r*dY p q=dt p q r*dY a b+dt a b p*dY r q+dt a b q*dY p r:=by unfold dt dY det3 lnA lnB lnC;grind
theorem bq_dir{p q:Q3}(h:bq p q=true):dX p q≠0∨dY p q≠0:=by
 have:=znw.mp h;unfold Lt LP at this;simp only[Int.one_mul] at this;rcases this with h|⟨_,h⟩
 ·exact .inl (by omega)
 ·exact .inr (by omega)
theorem on_line{a b p q r:Q3}(hpq:bq p q=true)(hp:dt a b p=0)(hq:dt a b q=0)(hr:dt p q r=0):dt a b r=0:=by
 have e1:=dt_lin a b p q r;have e2:=dt_linY a b p q r;rw[hp,hq,hr] at e1 e2;simp only[jq,Eb] at e1 e2;rcases bq_dir hpq with h|h
 ·exact(pS.mp e1).resolve_right h
 ·exact(pS.mp e2).resolve_right h
theorem zqs{n:Nat}{a b p q r:Q3}(ha:PQ n a)(hb:PQ n b)(hp:PQ n p)(hq:PQ n q)(hr:PQ n r)(hpq:bq p q=true)(op:on3 a b p=true)(oq:on3 a b q=true)(h0:dt p q r=0)(h1:bq r p=false)(h2:bq q r=false):on3 a b r=true:=by
 obtain⟨p1,p2,p3⟩:=zcp op;obtain⟨q1,q2,q3⟩:=zcp oq;exact zgz (on_line hpq p1 q1 h0) (zfa ha.pos hp.pos hr.pos p2 h1) (zfa hr.pos hq.pos hb.pos h2 q3)
theorem cr_same(a b:Q3):crW a b a b=0:=by unfold crW;grind
theorem cr_on{a b c d q:Q3}(h1:dt a b q=0)(h2:dt c d q=0):q.x*crW a b c d=crX a b c d*q.w/\q.y*crW a b c d=crY a b c d*q.w:=by
 unfold dt det3 at h1 h2;unfold crX crY crW;generalize lnA a.x a.y a.w b.x b.y b.w=A at*;generalize lnB a.x a.y a.w b.x b.y b.w=B at*;generalize lnC a.x a.y a.w b.x b.y b.w=C at*;generalize lnA c.x c.y c.w d.x d.y d.w=A' at*;generalize lnB c.x c.y c.w d.x d.y d.w=B' at*;generalize lnC c.x c.y c.w d.x d.y d.w=C' at*
 constructor<;>grind
theorem ln_dir(a b:Q3):lnA a.x a.y a.w b.x b.y b.w= -dY a b/\lnB a.x a.y a.w b.x b.y b.w=dX a b:=by
 unfold lnA lnB dX dY
 constructor<;>grind
theorem par_tr{A B A1 B1 A2 B2:Int}(h:A≠0∨B≠0)(e1:A*B1-B*A1=0)(e2:A*B2-B*A2=0):A1*B2-B1*A2=0:=by
 have f1:A*(A1*B2-B1*A2)=0:=by grind
 have f2:B*(A1*B2-B1*A2)=0:=by grind
 rcases h with h|h
 ·exact(pS.mp f1).resolve_left h
 ·exact(pS.mp f2).resolve_left h
theorem ln_ne{a b:Q3}(h:bq a b=true):lnA a.x a.y a.w b.x b.y b.w≠0∨lnB a.x a.y a.w b.x b.y b.w≠0:=by
 obtain⟨e1,e2⟩:=ln_dir a b;rw[e1,e2];rcases bq_dir h with h|h
 ·exact .inr h
 ·exact .inl (by omega)
theorem cr_par{a b c d e f:Q3}(h:bq a b=true)(h1:crW a b c d=0)(h2:crW a b e f=0):crW c d e f=0:=par_tr (ln_ne h) h1 h2
theorem zgm{a b c d q r:Q3}(hq:0<q.w)(bcd:bq c d=true)(z:crW a b c d=0)(h1:dt a b q=0)(h2:dt c d q=0)(hr:dt c d r=0):dt a b r=0:=by
 have ln:=ln_ne bcd;unfold crW at z;unfold dt det3 at*;generalize lnA a.x a.y a.w b.x b.y b.w=A at*;generalize lnB a.x a.y a.w b.x b.y b.w=B at*;generalize lnC a.x a.y a.w b.x b.y b.w=C at*;generalize lnA c.x c.y c.w d.x d.y d.w=A' at*;generalize lnB c.x c.y c.w d.x d.y d.w=B' at*;generalize lnC c.x c.y c.w d.x d.y d.w=C' at*;have e:q.w*(A*r.x+B*r.y+C*r.w)=0:=by
  have f1:A'*(q.w*(A*r.x+B*r.y+C*r.w))=0:=by grind
  have f2:B'*(q.w*(A*r.x+B*r.y+C*r.w))=0:=by grind
  rcases ln with h|h
  ·exact(pS.mp f1).resolve_left h
  ·exact(pS.mp f2).resolve_left h
 exact(pS.mp e).resolve_left (by omega)
theorem zqp(a b:Q3):dt a b a=0/\dt a b b=0:=⟨zhe a b,zgb a b⟩
theorem zn1{a b:Q3}(h:bq a b=true):on3 a b a=true/\on3 a b b=true:=⟨zgz (zhe a b) (zdp a) (zcv h),zgz (zgb a b) (zcv h) (zdp b)⟩
theorem zmk{n:Nat}{a b c d q:Q3}(ha:PQ n a)(hb:PQ n b)(hc:PQ n c)(hd:PQ n d)(hq:PQ n q)(s0:dt a b c=0)(s1:dt a b d=0)(h1:on3 a b q=true)(h2:on3 c d q=true)(e:q=a∨q=b∨q=c∨q=d):Shr (mtF a b c d) q:=by
 obtain⟨_,i1,i2⟩:=zcp h1;obtain⟨_,j1,j2⟩:=zcp h2;unfold mtF;rw[s0,s1,if_pos ⟨zf7,zf7⟩];have F:fst3 a c=q∨(bq (fst3 a c) q=true/\bq q (fst3 a c)=false):=by
  unfold fst3
  split
  ·by_cases z:bq c q=true
   ·exact .inr ⟨z,j1⟩
   ·exact .inl (zge hc hq z (by rw[j1];decide))
  ·by_cases z:bq a q=true
   ·exact .inr ⟨z,i1⟩
   ·exact .inl (zge ha hq z (by rw[i1];decide))
 have S:snd3 b d=q∨(bq q (snd3 b d)=true/\bq (snd3 b d) q=false):=by
  unfold snd3
  split
  ·by_cases z:bq q b=true
   ·exact .inr ⟨z,i2⟩
   ·exact .inl (zge hb hq (by rw[i2];decide) z)
  ·by_cases z:bq q d=true
   ·exact .inr ⟨z,j2⟩
   ·exact .inl (zge hd hq (by rw[j2];decide) z)
 have E:fst3 a c=q∨snd3 b d=q:=by
  rcases e with rfl|rfl|rfl|rfl
  ·left;unfold fst3;rw[if_neg (by rw[j1];decide)]
  ·right;unfold snd3
   split
   ·rfl
   ·rename_i z
    exact zge hd hq (by rw[j2];decide) z
  ·left;unfold fst3
   split
   ·rfl
   ·rename_i z
    exact zge ha hq z (by rw[i1];decide)
  ·right;unfold snd3;rw[if_neg (by rw[i2];decide)]
 have nb:¬bq (snd3 b d) (fst3 a c)=true:=by
  rcases E with E|E
  ·rw[E];rcases S with S|S
   ·rw[S,zdp];decide
   ·rw[S.2];decide
  ·rw[E];rcases F with F|F
   ·rw[F,zdp];decide
   ·rw[F.2];decide
 unfold mtL;rw[if_neg nb]
 by_cases z:(fst3 a c).x=(snd3 b d).x/\(fst3 a c).y=(snd3 b d).y/\(fst3 a c).w=(snd3 b d).w
 ·rw[if_pos z];show q=fst3 a c;rcases E with E|E
  ·exact E.symm
  ·rw[←E];exact(Q3.ext' z).symm
 ·rw[if_neg z];rcases E with E|E
  ·exact .inl E.symm
  ·exact .inr E.symm
structure Told(ss:List (Q3×Q3))(ps:List (Nat×Nat))(g:Int):Prop where
 ok:∀s,s∈ss->PQ 130 s.1/\PQ 130 s.2/\bq s.1 s.2=true
 gp:∀s,s∈ss->s.1.w<=g/\s.2.w<=g
 lt:∀e,e∈ps->e.1<ss.length/\e.2<ss.length
 all:∀a b,a<ss.length->b<ss.length->a≠b->Nigh g (ss.getD a zQ) (ss.getD b zQ)->(a,b)∈ps∨(b,a)∈ps
section
variable{ss:List (Q3×Q3)}{ps:List (Nat×Nat)}{g:Int}
theorem zba{i:Nat}(h:i<ss.length):ss.getD i zQ∈ss:=by
 rw[kD,kK h];exact vA h
def OnI(ss:List (Q3×Q3))(q:Q3)(i:Nat):Prop:=on3 (ss.getD i zQ).1 (ss.getD i zQ).2 q=true
theorem zfn{q:Q3}{i:Nat}:zj2 ss q i↔i<ss.length/\(q=(ss.getD i zQ).1∨q=(ss.getD i zQ).2):=by
 constructor
 ·rintro⟨e,h,z⟩;have hi:=(kF.mp h).1;rw[kD,h];exact⟨hi,z⟩
 ·rintro⟨hi,z⟩;rw[kD,kK hi] at z;exact⟨ss[i],kK hi,z⟩
theorem Told.lies(T:Told ss ps g){q:Q3}{i:Nat}(h:LyT ss ps q i):i<ss.length/\PQ 700 q/\OnI ss q i:=by
 rcases h with h|⟨x,hx,hi,hs⟩
 ·obtain⟨hi,z⟩:=zfn.mp h;obtain⟨o1,o2,o3⟩:=T.ok _ (zba hi);refine⟨hi,?_⟩;unfold OnI;rcases z with z|z
  ·rw[z];exact⟨Pt.mono o1 (by decide),(zn1 o3).1⟩
  ·rw[z];exact⟨Pt.mono o2 (by decide),(zn1 o3).2⟩
 ·obtain⟨l1,l2⟩:=T.lt x hx;obtain⟨o1,o2,o3⟩:=T.ok _ (zba l1);obtain⟨r1,r2,r3⟩:=T.ok _ (zba l2);obtain⟨p1,p2,p3⟩:=shr_pq o1 o2 r1 r2 o3 r3 hs;rcases hi with rfl|rfl
  ·exact⟨l1,p1,p2⟩
  ·exact⟨l2,p1,p3⟩
theorem Told.pair(T:Told ss ps g){q:Q3}{i j:Nat}(hi:i<ss.length)(hj:j<ss.length)(ne:i≠j)(hq:0<q.w)(oi:OnI ss q i)(oj:OnI ss q j):(i,j)∈ps∨(j,i)∈ps:=by
 obtain⟨o1,o2,o3⟩:=T.ok _ (zba hi);obtain⟨r1,r2,r3⟩:=T.ok _ (zba hj);obtain⟨g1,g2⟩:=T.gp _ (zba hi);obtain⟨g3,g4⟩:=T.gp _ (zba hj);exact T.all i j hi hj ne (nigh_of o1 o2 r1 r2 g1 g2 g3 g4 hq oi oj)
theorem zn4{q:Q3}{i j:Nat}(h:(i,j)∈ps∨(j,i)∈ps)(s1:Shr (mtI ss (i,j)) q)(s2:Shr (mtI ss (j,i)) q):LyT ss ps q i:=by
 rcases h with h|h
 ·exact .inr ⟨_,h,.inl rfl,s1⟩
 ·exact .inr ⟨_,h,.inr rfl,s2⟩
def CrI(ss:List (Q3×Q3))(i j:Nat):Int:=crW (ss.getD i zQ).1 (ss.getD i zQ).2 (ss.getD j zQ).1 (ss.getD j zQ).2
theorem Told.cross(T:Told ss ps g){m:Nat}(hm:700<=m){q:Q3}{i j:Nat}(hi:i<ss.length)(hj:j<ss.length)(hq:PQ m q)(oi:OnI ss q i)(oj:OnI ss q j)(c:CrI ss i j≠0):LyT ss ps q i:=by
 have ne:i≠j:=fun z=>by
  subst z;exact c (cr_same _ _)
 obtain⟨o1,o2,o3⟩:=T.ok _ (zba hi);obtain⟨r1,r2,r3⟩:=T.ok _ (zba hj);obtain⟨ex,ey⟩:=cr_on (zcp oi).1 (zcp oj).1;obtain⟨s1,s2,s3⟩:=zpm (ss.getD i zQ).1 (ss.getD i zQ).2 (ss.getD j zQ).1 (ss.getD j zQ).2;obtain⟨b1,b2,b3⟩:=cr_bd o1 o2 r1 r2;obtain⟨d1,d2,d3⟩:=cr_bd r1 r2 o1 o2;have up:∀{z:Int},z.natAbs<2^(130+130+1+(130+130+1)+1)->z.natAbs<2^m:=fun h=>zan h (by omega)
 refine zn4 (T.pair hi hj ne hq.pos oi oj) ?_ ?_
 ·show Shr (mtF _ _ _ _) q
  rw[zpq (by omega) o1 o2 r1 r2 o3 r3 (up b1) (up b2) (up b3) c hq ex ey oi oj]
  rfl
 ·show Shr (mtF _ _ _ _) q
  rw[zpq (by omega) r1 r2 o1 o2 r3 o3 (up d1) (up d2) (up d3) (by rw[s3];unfold CrI at c;omega) hq (by rw[s1,s3,Eo,Qc,ex]) (by rw[s2,s3,Eo,Qc,ey]) oj oi]
  rfl
theorem Told.ends(T:Told ss ps g){q:Q3}{i k:Nat}(hi:i<ss.length)(h:zj2 ss q k)(oi:OnI ss q i):LyT ss ps q i:=by
 obtain⟨hk,z⟩:=zfn.mp h;obtain⟨_,hq,ok⟩:=T.lies (.inl h:LyT ss ps q k)
 by_cases e:i=k
 ·subst e;exact .inl h
 by_cases c:CrI ss i k=0
 ·obtain⟨o1,o2,o3⟩:=T.ok _ (zba hi);obtain⟨r1,r2,r3⟩:=T.ok _ (zba hk);have up:∀{z:Q3},PQ 130 z->PQ 700 z:=fun h=>Pt.mono h (by decide)
  have c':crW (ss.getD k zQ).1 (ss.getD k zQ).2 (ss.getD i zQ).1 (ss.getD i zQ).2=0:=by
   have:=(zpm (ss.getD i zQ).1 (ss.getD i zQ).2 (ss.getD k zQ).1 (ss.getD k zQ).2).2.2;unfold CrI at c;omega
  have l1:=(zcp oi).1;have l2:=(zcp ok).1;have de:=zqp (ss.getD k zQ).1 (ss.getD k zQ).2;have df:=zqp (ss.getD i zQ).1 (ss.getD i zQ).2;refine zn4 (T.pair hi hk e hq.pos oi ok) ?_ ?_
  ·exact zmk (up o1) (up o2) (up r1) (up r2) hq (zgm hq.pos r3 c l1 l2 de.1) (zgm hq.pos r3 c l1 l2 de.2) oi ok (.inr (.inr z))
  ·exact zmk (up r1) (up r2) (up o1) (up o2) hq (zgm hq.pos o3 c' l2 l1 df.1) (zgm hq.pos o3 c' l2 l1 df.2) ok oi (z.imp id .inl)
 ·exact T.cross (kM _) hi hk hq oi ok c
theorem shr_ends{a b c d q:Q3}(ha:PQ 130 a)(hb:PQ 130 b)(hc:PQ 130 c)(hd:PQ 130 d)(bab:bq a b=true)(bcd:bq c d=true)(s0:dt a b c=0)(s1:dt a b d=0)(h:Shr (mtF a b c d) q):(q=a∨q=b)∨(q=c∨q=d):=by
 obtain⟨b1,b2,b3⟩:=cr_bd ha hb hc hd
 cases e:mtF a b c d with
 |none=>rw[e] at h;cases h
 |spot p=>
  rw[e] at h;have h':q=p:=h;obtain⟨_,_,_,_,z⟩:=zru (m:=700) (by decide) ha hb hc hd bab bcd (zan b1 (by decide)) (zan b2 (by decide)) (zan b3 (by decide)) e
  rcases z ⟨by rw[s0,zf7],by rw[s1,zf7]⟩ with⟨z,_⟩|⟨z,_⟩
  ·exact .inl (.inr (h'.trans z))
  ·exact .inr (.inr (h'.trans z))
 |part u v=>
  rw[e] at h;have h':q=u∨q=v:=h;obtain⟨_,_,_,_,_,_,_,z1,z2⟩:=zlh ha hb hc hd bab bcd e;rcases h' with h'|h'
  ·rcases z1 with z|z
   ·exact .inl (.inl (h'.trans z))
   ·exact .inr (.inl (h'.trans z))
  ·rcases z2 with z|z
   ·exact .inl (.inr (h'.trans z))
   ·exact .inr (.inr (h'.trans z))
theorem Told.full(T:Told ss ps g){q:Q3}{i j:Nat}(hi:i<ss.length)(h:LyT ss ps q j)(oi:OnI ss q i):LyT ss ps q i:=by
 obtain⟨hj,hq,oj⟩:=T.lies h;rcases h with h|⟨x,hx,hxj,hs⟩
 ·exact T.ends hi h oi
 obtain⟨l1,l2⟩:=T.lt x hx;obtain⟨_,_,n1⟩:=T.lies (.inr ⟨x,hx,.inl rfl,hs⟩:LyT ss ps q x.1);obtain⟨_,_,n2⟩:=T.lies (.inr ⟨x,hx,.inr rfl,hs⟩:LyT ss ps q x.2);obtain⟨o1,o2,o3⟩:=T.ok _ (zba l1);obtain⟨r1,r2,r3⟩:=T.ok _ (zba l2);obtain⟨t1,t2,t3⟩:=T.ok _ (zba hi)
 by_cases c:CrI ss x.1 x.2=0
 ·have de:=zqp (ss.getD x.2 zQ).1 (ss.getD x.2 zQ).2;rcases shr_ends o1 o2 r1 r2 o3 r3 (zgm hq.pos r3 c (zcp n1).1 (zcp n2).1 de.1) (zgm hq.pos r3 c (zcp n1).1 (zcp n2).1 de.2) hs with z|z
  ·exact T.ends hi (zfn.mpr ⟨l1,z⟩) oi
  ·exact T.ends hi (zfn.mpr ⟨l2,z⟩) oi
 ·by_cases c1:CrI ss i x.1=0
  ·by_cases c2:CrI ss i x.2=0
   ·exact absurd (cr_par t3 c1 c2) c
   ·exact T.cross (kM _) hi l2 hq oi n2 c2
  ·exact T.cross (kM _) hi l1 hq oi n1 c1
def Pce(ss:List (Q3×Q3))(ps:List (Nat×Nat))(f:Q3×Q3):Prop:=∃i,LyT ss ps f.1 i/\LyT ss ps f.2 i/\bq f.1 f.2=true/\∀r,LyT ss ps r i->bq f.1 r=true->bq r f.2=true->False
end
def zrv:Pos:=(lamAt zb4).2
def qlB:Str:=(Uf "in_order" (za0 zb4) 0 0 .none).qual++"<lambda>"
def OrdOf(os ps:List Q3):Prop:=os.Pairwise (Lt 1)/\(∀p,p∈os↔p∈ps)/\os.length<=ps.length
def sp_inord(tb:Addr)(lp:Pos)(ql:Str):Sp:=fun vs H Q _=>∃(l:Addr)(ys:List V)(ps:List Q3),vs=[.ref l]/\H l=some (.lst ys)/\ys.length<=20000/\LR QH H ys ps/\zah H tb lp ql/\
 ∀D zs(os:List Q3) H',H D=none->zdc tb H H'->zah H' tb lp ql->H' D=some (.lst zs)->LR QH H' zs os->OrdOf os ps->Q (.ref D) H'
theorem zk5{α:Type}(l:List α)(d:α):(QL l.length).map (fun i=>l.getD i d)=l:=by
 refine ve fun i=>?_;rw[kj]
 by_cases c:i<l.length
 ·rw[gX c,uU,kD,kK c];rfl
 ·rw[QD (by rw[uN];omega),QD (by omega)]
  rfl
theorem znj{α:Type}{l:List α}{d:α}{i:Nat}(h:i<l.length):l.getD i d∈l:=by
 rw[kD,kK h];exact vA h
theorem mem_pq{H:Hp}{ys:List V}{ps:List Q3}(h:LR QH H ys ps){p:Q3}(hp:p∈ps):PQ 700 p:=by
 obtain⟨j,hj⟩:=pX.mp hp;have hj':j<ys.length:=by rw[h.1];exact(kF.mp hj).1
 obtain⟨b,r,_,e2,hr⟩:=h.at hj';rw[hj] at e2
 cases e2;exact hr.2
theorem ky_apart{g:Int}{a b:Q3}(ha:PQ 700 a)(hb:PQ 700 b)(ga:a.w<=g)(gb:b.w<=g)(ne:a≠b):kyQ g a≠kyQ g b:=fun e=>by
 cases h1:bq a b with
 |true=>
  have:=ky_lt ha.pos hb.pos ga gb h1;rw[e,sto2.irr] at this
  cases this
 |false=>
  cases h2:bq b a with
  |true=>
   have:=ky_lt hb.pos ha.pos gb ga h2;rw[e,sto2.irr] at this
   cases this
  |false=>exact ne (zr9 ha hb h1 h2)
theorem ky_back{g:Int}{a b:Q3}(ha:PQ 700 a)(hb:PQ 700 b)(ga:a.w<=g)(gb:b.w<=g)(h:lt2 (kyQ g a) (kyQ g b)=true):Lt 1 a b:=by
 cases h1:bq a b with
 |true=>exact znw.mp h1
 |false=>
  cases h2:bq b a with
  |true=>
   have:=sto2.tr _ _ _ h (ky_lt hb.pos ha.pos gb ga h2);rw[sto2.irr] at this
   cases this
  |false=>
   rw[zr9 ha hb h1 h2,sto2.irr] at h
   cases h
theorem zln(T:Txt K mg ad fd)(hK:K.In base)(hB:∀b,b∈([ad 48,ad 50,ad 52]:List Addr)->base.BuiltinsAt mg b):FnOk P w K mg base CX0 3 (ad 11) (fd 11) ["points"] (sp_inord (ad 48) zrv qlB):=by
 refine T.in_order_c.ok zhq (fun vs H Q E h=>?_) (fun A outer s H vs Q E hr h=>?_)
 ·obtain⟨l,ys,ps,rfl,_⟩:=h;rfl
 obtain⟨l,ys,ps,rfl,hl,h30,hp,lt,k⟩:=h;have zx:=@pss2;have zh:=@zbv;have ze:=@zap;have zj:=@pa1;have qpv:=@pv;have zd:=@zaj;have yo:=@zmb;have zL:=@zea;have zI:=@zgk;generalize @PE=QE,@PT=QT,@PW=QW,@PA=QA,@PS=QS,@PSs=QSs,@PG=QG,@PGs=QGs,@L2.PI=QI,@PO=QO,@PIf=QIf at zx zh ze zj qpv zd yo zL zI⊢;refine⟨_,
  (zx
   (zh (i:=1) zhq.nd rfl (vM rfl) (ze (zeq T) (hr.mono (by omega)) rfl T.order_keys.mg T.order_keys.fn.kp T.order_keys.bn .nil pass0 (zj (qpv 0) za1)))
   (zd (yo (P:=ad 48) (c0:=ad 47) (x:="P") (y:="keys") (c:=s.heap.objs.size+1) (i0:=1) (zg2 (hu80 hr)) zrx hr rfl T.b_sorted (zj (zL (zit rfl) rfl T.b_list zez (zj (qpv 1) za1)) zar) ⟨rfl,rfl,rfl,rfl,rfl,by decide+kernel,by decide+kernel⟩ rfl rfl rfl rfl rfl rfl (gY hK T.in_order_c.hd) (hB _ (by simp)) (fun _ _ _ _=>rfl) (by intro fa2 c2 A2 s3 H3 hu2;exact(zI (by show A2.units+3+1<cLine;omega) (qpv 1) (qpv 0) fun _ _=>rfl)))))
  ,?_⟩
 clear zx zh ze zj qpv zd yo zL zI QE QT QW QA QS QSs QG QGs QI QO QIf
 dsimp! [L2.start]
 simp! [];refine⟨l,ys,ps,rfl,hl,by omega,hp,fun d kvs g qs H2 g2 hd2 gp gm ky q1 q2 q3 q4=>?_⟩
 simp! [zp3,zpl];refine⟨kvs,hd2,fun bs L lb hb hL=>?_⟩;have lk:kvs.length=qs.length:=by have:=congrArg vH q1;simpa using this
 have hb2:LR QH H2 (bs.map V.ref) qs:=by
  refine⟨by rw[kP,lb,lk],fun j v hv=>?_⟩
  rw[kj] at hv
  cases eb:bs[j]? with
  |none=>rw[eb] at hv;cases hv
  |some b=>
   rw[eb] at hv
   cases hv;have hj:j<kvs.length:=by rw[←lb];exact(kF.mp eb).1
   have hj':j<qs.length:=by omega
   have ekv:=kK hj;have e:=congrArg (fun l=>l[j]?) q1;simp only[kj,ekv,kK hj',uU,Qa] at e;have z:=hb j b _ eb ekv;rw[e,kQ_map] at z;exact⟨b,qs[j],rfl,kK hj',z,mem_pq hp ((q3 _).mp (vA hj'))⟩
 have g3:=za4 hL (HO.lst (bs.map V.ref));have hL3:upd H2 L (HO.lst (bs.map V.ref)) L=some (HO.lst (bs.map V.ref)):=upd_same;generalize upd H2 L (HO.lst (bs.map V.ref))=H3 at*;have lys:ps.length=ys.length:=hp.1.symm;have lbs:(bs.map V.ref).length=qs.length:=by rw[kP,lb,lk]
 have g23:=g2.trans g3;refine⟨by rw[lbs];exact ud (small10k (by omega)),lt.same g23,fun c' H4 st4 lt4 hc4=>?_⟩
 have hd4:H4 d=some (.dT kvs):=st4 _ _ ((lt.same g23).ne (g3 _ _ hd2) fun _ z=>nomatch z) (g3 _ _ hd2);have ts4:zbp H3 H4:=fun b xs q=>st4.tup (lt.same g23) q;have ky4:=(ky.ts (zaf g3)).ts ts4;have hb4:LR QH H4 (bs.map V.ref) qs:=(hb2.same g3).ts zjh ts4;have z0:Q3:=⟨0,0,0⟩;refine⟨fun i ks H'=>Same H4 H'/\ks.length=i/\∀j,j<i->∃b,ks[j]?=some (.ref b)/\H' b=some (.tup [.int (kyQ g (qs.getD j z0)).1,.int (kyQ g (qs.getD j z0)).2]),⟨⟨.refl _,rfl,fun j hj=>by omega⟩,fun i ks H' q=>q.1 _ _ hc4,fun i ks H' q=>q.2.1,fun i ks H5 v hv q=>?_,fun ks H5 q=>?_⟩⟩
 ·obtain⟨g5,lk5,q⟩:=q;obtain⟨p,f,rfl,hf,hpf⟩:=hb4.2 i v hv;have hpf5:=hpf.same g5;have hd5:=g5 _ _ hd4;obtain⟨b1,e1,h1⟩:=ky4 f ((q3 f).mp (kZ hf));simp! [zhn];refine⟨_,by rw[←e1];exact .t (k:=kQ f) hd5 hpf5.1,g5,by rw[kO,lk5];rfl,fun j hj=>?_⟩
  by_cases e:j<i
  ·obtain⟨b,hb1,hb2⟩:=q j e;exact⟨b,by rw[pj (by omega)];exact hb1,hb2⟩
  ·have ej:j=i:=by omega
   subst ej;have e4:qs.getD j z0=f:=by rw[kD,hf];rfl
   rw[e4];exact⟨b1,by rw[pY (by omega),lk5,Ec];rfl,g5 _ _ h1⟩
 ·obtain⟨g5,lk5,q⟩:=q;refine⟨_,⟨fun i=>kyQ g (qs.getD i z0),fun i hi=>q i (by omega),rfl⟩,fun D pp hD or ep=>?_⟩
  rw[lbs] at or;simp only[zpv] at ep;have gw:∀f,f∈qs->f.w<=g:=fun f hf=>gm f ((q3 f).mp hf);have pqs:∀f,f∈qs->PQ 700 f:=fun f hf=>mem_pq hp ((q3 f).mp hf);have pm:(pp.map fun i=>qs.getD i z0).Perm qs:=by
   have:=or.map fun i=>qs.getD i z0
   rwa [zk5] at this
  have g6:=za4 hD (HO.lst (pp.map fun i=>(bs.map V.ref).getD i .non));refine k D _ (pp.map fun i=>qs.getD i z0) _ (g23.free (?_:H3 D=none)) (fun b o nb e=>g6 _ _ (g5 _ _ (st4 _ _ nb (g23 _ _ e)))) ((lt4.same g5).same g6) upd_same ?_ ⟨?_,fun p=>?_,?_⟩
  ·have h3:=g5.free hD
   cases e:H3 D with
   |none=>rfl
   |some o=>
    by_cases nb:D=(ad 48)
    ·obtain⟨tp,e3,_⟩:=lt4;rw[←nb,h3] at e3
     cases e3
    ·rw[st4 _ _ nb e] at h3
     cases h3
  ·have hb6:LR QH (upd H5 D (HO.lst (pp.map fun i=>(bs.map V.ref).getD i .non))) (bs.map V.ref) qs:=hb4.same (g5.trans g6);refine⟨by rw[kP,kP],fun j v hv=>?_⟩
   rw[kj] at hv
   cases e:pp[j]? with
   |none=>rw[e] at hv;cases hv
   |some i=>
    rw[e] at hv;have ev:(bs.map V.ref).getD i .non=v:=by simpa using hv
    have hi:i<qs.length:=Qe.mp (or.mem_iff.mp (kZ e));obtain⟨b1,f,e1,e2,e3⟩:=hb6.at (j:=i) (by omega)
    rw[kD,e1] at ev;refine⟨b1,f,ev.symm,?_,e3⟩;rw[kj,e,uU,kD,e2];rfl
  ·have pn:pp.Pairwise (·≠·):=or.nodup_iff.mpr List.nodup_range;refine vf.mpr (jE (fun{i j} hi hj h=>?_) (pn.and ep));have bi:=Qe.mp (or.mem_iff.mp hi);have bj:=Qe.mp (or.mem_iff.mp hj);have mi:qs.getD i z0∈qs:=znj bi;have mj:qs.getD j z0∈qs:=znj bj;have ne:qs.getD i z0≠qs.getD j z0:=fun e=>by
    rw[kD,kK bi,kD,kK bj] at e;rcases Nat.lt_or_gt_of_ne h.1 with z|z
    ·exact Uc.mp q2 i j bi bj z e
    ·exact Uc.mp q2 j i bj bi z e.symm
   refine ky_back (pqs _ mi) (pqs _ mj) (gw _ mi) (gw _ mj) ?_;rcases sto2.tot _ _ (ky_apart (pqs _ mi) (pqs _ mj) (gw _ mi) (gw _ mj) ne) with q|q
   ·exact q
   ·rw[h.2] at q;cases q
  ·rw[pm.mem_iff,q3]
  ·rw[pm.length_eq];exact q4
def zpr(K:kJ):Sp:=fun vs H Q _=>∃(p nl sl:Addr)(ys:List V)(ss:List (Q3×Q3))(ns:List Nat)(r:Q3),vs=[.ref p,.ref nl,.ref sl]/\QH H p r/\H nl=some (.lst (natV ns))/\H sl=some (.lst ys)/\LR (StE 130) H ys ss/\(∀k,k∈ns->k<ys.length)/\ns.length<=17001/\
 ∀(t b1 b2 b3:Addr)(H':Hp),H t=none->Same H H'->H' t=some (.tup [.ref p,.ref b1,.ref b2,.ref b3])->H b1=none->H b2=none->H b3=none->b1≠b2->b1≠b3->b2≠b3->H' b1=some (.lst (natV (ns.filter fun k=>decide ((ss.getD k zQ).1=r))))->H' b2=some (.lst (natV (ns.filter fun k=>decide ((ss.getD k zQ).1≠r/\(ss.getD k zQ).2≠r))))->H' b3=some (.lst (natV (ns.filter fun k=>decide ((ss.getD k zQ).2=r))))->Q (.ref t) H'
theorem zjw(a b:Q3):decide (a=b)=decide (a.x=b.x/\a.y=b.y/\a.w=b.w):=by
 by_cases h:a=b
 ·rw[decide_eq_true h,decide_eq_true (by rw[h];exact⟨rfl,rfl,rfl⟩)]
 ·rw[decide_eq_false h,decide_eq_false fun z=>h (Q3.ext' z)]
theorem rd_pair{K:kJ}{H:Hp}{p a b:Addr}{d e:Bk}(hp:H p=some (.tup [.ref a,.ref b]))(ha:RdD K H d (.ref a))(hb:RdD K H e (.ref b)):RdD K H (.tuple [d,e]) (.ref p):=by
 rw[RdD];refine⟨p,_,rfl,.of hp,?_⟩;rw[RdDs];refine⟨_,_,rfl,ha,?_⟩;rw[RdDs];refine⟨_,_,rfl,hb,?_⟩;rw[RdDs]
theorem znr(T:Txt K mg ad fd):FnOk P w K mg base CX0 1 (ad 22) (fd 22) ["P","numbers","stretches"] (zpr K):=by
 refine T.stop_at.fn.ok zf5 (fun vs H Q E h=>?_) (fun cdv A outer s H vs Q E hr h=>?_)
 ·obtain⟨p,nl,sl,ys,ss,ns,r,rfl,_⟩:=h;rfl
 obtain⟨p,nl,sl,ys,ss,ns,r,rfl,hp,hnl,hsl,hs,hns,hlen,k⟩:=h;have zD:=@pss4;have yb:=@zqj;unfold L2.CompBody at yb;have zq:=@zc4;have qpv:=@pv;have zo:=@zbw;have zK:=@zgr;have zp:=@zb8;have zb:=@zck;have za:=@zat;have zd:=@zaj;have zr:=@zdg;have yE:=@pa4;generalize @PE=QE,@PT=QT,@PW=QW,@PA=QA,@PS=QS,@PSs=QSs,@PG=QG,@PGs=QGs,@L2.PI=QI,@PO=QO,@PIf=QIf at zD yb zq qpv zo zK zp zb za zd zr yE⊢;refine⟨_,
  (zD
   (yb (i:=3) zf5.nd rfl (km rfl) (dsc:=za0 zc2) (N:=["P","numbers","stretches","begins","through","ends"]) (own:=["number"]) (ix:=[0,2]) rfl rfl rfl ⟨rfl,by decide+kernel,by decide+kernel,by decide+kernel,by decide+kernel⟩ (zq (qpv 1)) (fun cl C fp s2 H2 xe=>⟨(zo (i:=0) (show QF (["number","P","stretches"]:List Str) from by decide+kernel) rfl (km rfl)),(zK (zp (op_eqK (K':=K) rfl (hu64 hr)) (zb za2 (zb zbl (qpv 2) (qpv 0) fun _ _=>rfl) za fun _ _=>rfl) (qpv 1) (nomark _))),(qpv 0)⟩))
   (yb (i:=4) zf5.nd rfl (km rfl) (dsc:=za0 zc2) (N:=["P","numbers","stretches","begins","through","ends"]) (own:=["number"]) (ix:=[0,2]) rfl rfl rfl ⟨rfl,by decide+kernel,by decide+kernel,by decide+kernel,by decide+kernel⟩ (zq (qpv 1)) (fun cl C fp s2 H2 xe=>⟨(zo (i:=0) (show QF (["number","P","stretches"]:List Str) from by decide+kernel) rfl (km rfl)),(zK (zp (zql (K':=K) rfl (hu64 hr)) (qpv 1) (zb zbl (qpv 2) (qpv 0) fun _ _=>rfl) rfl)),(qpv 0)⟩))
   (yb (i:=5) zf5.nd rfl (km rfl) (dsc:=za0 zc2) (N:=["P","numbers","stretches","begins","through","ends"]) (own:=["number"]) (ix:=[0,2]) rfl rfl rfl ⟨rfl,by decide+kernel,by decide+kernel,by decide+kernel,by decide+kernel⟩ (zq (qpv 1)) (fun cl C fp s2 H2 xe=>⟨(zo (i:=0) (show QF (["number","P","stretches"]:List Str) from by decide+kernel) rfl (km rfl)),(zK (zp (op_eqK (K':=K) rfl (hu64 hr)) (zb za2 (zb zbl (qpv 2) (qpv 0) fun _ _=>rfl) za fun _ _=>rfl) (qpv 1) (nomark _))),(qpv 0)⟩))
   (zd (zr (yE (qpv 0) za1 (qpv 3) za1 (qpv 4) za1 (qpv 5) za1))))
  ,?_⟩
 clear zD yb zq qpv zo zK zp zb za zd zr yE QE QT QW QA QS QSs QG QGs QI QO QIf
 dsimp! [L2.start]
 simp! [];refine zb9 ?_;simp! [zcm];refine⟨⟨_,.of hnl⟩,fun B1 hB1=>?_⟩;refine zax (xs:=natV ns) (fun i us H'=>Same H H'/\H' B1=some (.lst us)/\us=natV ((ns.take i).filter fun k=>decide ((ss.getD k zQ).1=r))) ⟨za4 hB1 _,upd_same,rfl⟩ (fun i us H' q=>.of (q.1 _ _ hnl)) ?_ ?_
 ·rintro i us H2 v hi hv ⟨g2,hB2,eu⟩;obtain⟨m,m1,rfl⟩:=zft hv;have hm:=hns m (kZ m1);obtain⟨b,e,e1,e2,c,c2,h1,h2,h3,hb⟩:=hs.at hm;have ai:atI ys (m:Int)=some (.ref b):=zb6 e1;have hsl2:=g2 _ _ hsl;have h12:=g2 _ _ h1;simp! [hsl2,ai,h12];refine⟨_,_,zfq (.of (g2 _ _ h2.1)),zfq (.of (g2 _ _ hp.1)),zc3 _ _ _,zc3 _ _ _,_,rfl,?_⟩;rw[zgp];refine zew hi m1 (by omega) g2 hB1 hB2 eu ?_
  show decide ((ss.getD m zQ).1=r)=_
  rw[kD,e2];exact zjw e.1 r
 rintro us1 H2 ⟨g2,hB2,eu1⟩;rw[zc1,uM] at eu1;have hnl2:=g2 _ _ hnl;refine zb9 ?_;simp! [zcm];refine⟨⟨_,.of hnl2⟩,fun B2 hB2'=>?_⟩;refine zax (xs:=natV ns) (fun i us H'=>Same H2 H'/\H' B2=some (.lst us)/\us=natV ((ns.take i).filter fun k=>decide ((ss.getD k zQ).1≠r/\(ss.getD k zQ).2≠r))) ⟨za4 hB2' _,upd_same,rfl⟩ (fun i us H' q=>.of (q.1 _ _ hnl2)) ?_ ?_
 ·rintro i us H3 v hi hv ⟨g3,hB3,eu⟩;obtain⟨m,m1,rfl⟩:=zft hv;have hm:=hns m (kZ m1);obtain⟨b,e,e1,e2,c,c2,h1,h2,h3,hb⟩:=hs.at hm;have ai:atI ys (m:Int)=some (.ref b):=zb6 e1;have g03:=g2.trans g3;have hsl3:=g03 _ _ hsl;have h13:=g03 _ _ h1;simp! [hsl3,ai];refine⟨_,[_,_],zfq (.of (g03 _ _ hp.1)),rd_pair (g03 _ _ h1) (zfq (.of (g03 _ _ h2.1))) (zfq (.of (g03 _ _ h3.1))),?_,?_,?_,_,rfl,?_⟩
  ·simp[dPt,Qv,uh]
  ·simp[dPt,Qv,uh]
  ·simp[dPt,Qw,Qg]
  ·refine zew hi m1 (by omega) g3 hB2' hB3 eu ?_
   show decide ((ss.getD m zQ).1≠r/\(ss.getD m zQ).2≠r)=_
   rw[kD,e2];simp only[Af,List.any_nil,zgp,EL,←zjw];show decide (e.1≠r/\e.2≠r)=_
   by_cases h1:e.1=r<;>by_cases h2:e.2=r<;>simp[h1,h2]
 rintro us2 H3 ⟨g3,hB3,eu2⟩;rw[zc1,uM] at eu2;have g03:=g2.trans g3;have hnl3:=g03 _ _ hnl;refine zb9 ?_;simp! [zcm];refine⟨⟨_,.of hnl3⟩,fun B3 hB3'=>?_⟩;refine zax (xs:=natV ns) (fun i us H'=>Same H3 H'/\H' B3=some (.lst us)/\us=natV ((ns.take i).filter fun k=>decide ((ss.getD k zQ).2=r))) ⟨za4 hB3' _,upd_same,rfl⟩ (fun i us H' q=>.of (q.1 _ _ hnl3)) ?_ ?_
 ·rintro i us H4 v hi hv ⟨g4,hB4,eu⟩;obtain⟨m,m1,rfl⟩:=zft hv;have hm:=hns m (kZ m1);obtain⟨b,e,e1,e2,c,c2,h1,h2,h3,hb⟩:=hs.at hm;have ai:atI ys (m:Int)=some (.ref b):=zb6 e1;have g04:=g03.trans g4;have hsl4:=g04 _ _ hsl;have h14:=g04 _ _ h1;simp! [hsl4,ai,h14];refine⟨_,_,zfq (.of (g04 _ _ h3.1)),zfq (.of (g04 _ _ hp.1)),zc3 _ _ _,zc3 _ _ _,_,rfl,?_⟩;rw[zgp];refine zew hi m1 (by omega) g4 hB3' hB4 eu ?_
  show decide ((ss.getD m zQ).2=r)=_
  rw[kD,e2];exact zjw e.2 r
 rintro us3 H4 ⟨g4,hB4,eu3⟩;rw[zc1,uM] at eu3;have g04:=g03.trans g4;subst eu1 eu2 eu3;intro t ht;have g5:=za4 ht (HO.tup [V.ref p,V.ref B1,V.ref B2,V.ref B3]);exact k t B1 B2 B3 _ (g04.free ht) (g04.trans g5) upd_same hB1 (g2.free hB2') (g03.free hB3') (za7 hB2 hB2') (za7 (g3 _ _ hB2) hB3') (za7 hB3 hB3') (((g3.trans g4).trans g5) _ _ hB2) ((g4.trans g5) _ _ hB3) (g5 _ _ hB4)
theorem nd_lt:∀{n:Nat}{l:List Nat},l.Nodup->(∀x,x∈l->x<n)->l.length<=n
 |0,[],_,_=>kM _
 |0,x::l,_,h=>absurd (h x pD) (Dj _)
 |n+1,l,nd,h=>by
  have:=nd_lt (n:=n) (l:=l.erase n) (nd.erase n) fun x hx=>by
   have h1:=h x (List.mem_of_mem_erase hx);have h2:x≠n:=fun z=>by
    rw[z] at hx;exact(List.Nodup.not_mem_erase nd) hx
   omega
  rw[List.length_erase] at this
  split at this<;>omega
theorem nd_sub:∀{l L:List Q3},l.Nodup->(∀x,x∈l->x∈L)->l.length<=L.length
 |[],_,_,_=>pG _
 |a::l,L,nd,h=>by
  have nd':=vV.mp nd;have ha:=h a pD;have:=nd_sub (l:=l) (L:=L.erase a) nd'.2 fun x hx=>(List.mem_erase_of_ne (fun z=>nd'.1 (by rw[←z];exact hx))).mpr (h x (pB _ hx))
  rw[List.length_erase_of_mem ha] at this;have hp:0<L.length:=List.length_pos_of_mem ha;show l.length+1<=L.length;omega
theorem Told.few{ss:List (Q3×Q3)}{ps:List (Nat×Nat)}{g:Int}(T:Told ss ps g){qs:List Q3}(nd:qs.Nodup)(h:∀q,q∈qs->∃i,LyT ss ps q i):qs.length<=2*ss.length+ps.length:=by
 have:=nd_sub (L:=ss.map (·.1)++(ss.map (·.2)++ps.map fun x=>match mtI ss x with|.spot q=>q|_=>zQ.1)) nd fun q hq=>by
  obtain⟨i,hi⟩:=h q hq;have en:∀{k:Nat},k<ss.length->(q=(ss.getD k zQ).1∨q=(ss.getD k zQ).2)->q∈ss.map (·.1)++(ss.map (·.2)++ps.map fun x=>match mtI ss x with|.spot q=>q|_=>zQ.1):=fun{k} hk z=>by
   rcases z with z|z
   ·exact pR _ (pd.mpr ⟨_,zba hk,z.symm⟩)
   ·exact kN _ (pR _ (pd.mpr ⟨_,zba hk,z.symm⟩))
  rcases hi with hi|⟨x,hx,_,hs⟩
  ·obtain⟨hk,z⟩:=zfn.mp hi;exact en hk z
  ·obtain⟨l1,l2⟩:=T.lt x hx;obtain⟨o1,o2,o3⟩:=T.ok _ (zba l1);obtain⟨r1,r2,r3⟩:=T.ok _ (zba l2)
   cases e:mtI ss x with
   |none=>rw[e] at hs;cases hs
   |spot p=>
    rw[e] at hs;have hs':q=p:=hs;refine kN _ (kN _ (pd.mpr ⟨x,hx,?_⟩));rw[e];exact hs'.symm
   |part u v=>
    rw[e] at hs;have hs':q=u∨q=v:=hs;obtain⟨_,_,_,_,_,_,_,z1,z2⟩:=zlh o1 o2 r1 r2 o3 r3 e;rcases hs' with z|z
    ·rcases z1 with y|y
     ·exact en l1 (.inl (z.trans y))
     ·exact en l2 (.inl (z.trans y))
    ·rcases z2 with y|y
     ·exact en l1 (.inr (z.trans y))
     ·exact en l2 (.inr (z.trans y))
 simp only[kO,kP] at this;omega
theorem ste_ok{H:Hp}{ys:List V}{ss:List (Q3×Q3)}(h:LR (StE 130) H ys ss):∀s,s∈ss->PQ 130 s.1/\PQ 130 s.2/\bq s.1 s.2=true:=fun s hs=>by
 obtain⟨j,hj⟩:=pX.mp hs;obtain⟨p,e,_,e2,c,d,_,h2,h3,h4⟩:=h.at (j:=j) (by rw[h.1];exact(kF.mp hj).1)
 rw[hj] at e2
 cases e2;exact⟨h2.2,h3.2,h4⟩
theorem zq4:∀{a b:List Nat},a.Pairwise (·<·)->b.Pairwise (·<·)->(∀x,x∈a↔x∈b)->a=b
 |[],[],_,_,_=>rfl
 |[],y::b,_,_,h=>absurd ((h y).mpr pD) (by simp)
 |x::a,[],_,_,h=>absurd ((h x).mp pD) (by simp)
 |x::a,y::b,ha,hb,h=>by
  obtain⟨a1,a2⟩:=vT.mp ha;obtain⟨b1,b2⟩:=vT.mp hb;have e:x=y:=by
   rcases kr.mp ((h x).mp pD) with z|z
   ·exact z
   ·rcases kr.mp ((h y).mpr pD) with z'|z'
    ·exact z'.symm
    ·have:=a1 y z';have:=b1 x z;omega
  subst e;rw[zq4 a2 b2 fun z=>?_]
  constructor
  ·intro hz;rcases kr.mp ((h z).mp (pB _ hz)) with q|q
   ·have:=a1 z hz;omega
   ·exact q
  ·intro hz;rcases kr.mp ((h z).mpr (pB _ hz)) with q|q
   ·have:=b1 z hz;omega
   ·exact q
def onF(ss:List (Q3×Q3))(q:Q3):List Nat:=(QL ss.length).filter fun k=>on3 (ss.getD k zQ).1 (ss.getD k zQ).2 q
theorem onF_up(ss:List (Q3×Q3))(q:Q3):(onF ss q).Pairwise (·<·):=List.Pairwise.filter _ List.pairwise_lt_range
theorem zle{ss:List (Q3×Q3)}{q:Q3}{k:Nat}:k∈onF ss q↔k<ss.length/\OnI ss q k:=by
 unfold onF OnI;rw[ue,List.mem_range]
def bgF(ss:List (Q3×Q3))(q:Q3):List Nat:=(onF ss q).filter fun k=>decide ((ss.getD k zQ).1=q)
def thF(ss:List (Q3×Q3))(q:Q3):List Nat:=(onF ss q).filter fun k=>decide ((ss.getD k zQ).1≠q/\(ss.getD k zQ).2≠q)
def enF(ss:List (Q3×Q3))(q:Q3):List Nat:=(onF ss q).filter fun k=>decide ((ss.getD k zQ).2=q)
abbrev R4:=Q3×Addr×Addr×Addr
def fl(xs:List R4):List Addr:=xs.flatMap fun x=>[x.2.1,x.2.2.1,x.2.2.2]
theorem zm1(xs:List R4)(x:R4):fl (xs++[x])=fl xs++[x.2.1,x.2.2.1,x.2.2.2]:=by simp[fl]
def SpY(ss:List (Q3×Q3))(H:Hp)(p:Addr)(x:R4):Prop:=∃a,H p=some (.tup [.ref a,.ref x.2.1,.ref x.2.2.1,.ref x.2.2.2])/\QH H a x.1/\H x.2.1=some (.lst (natV (bgF ss x.1)))/\H x.2.2.1=some (.lst (natV (thF ss x.1)))/\H x.2.2.2=some (.lst (natV (enF ss x.1)))
theorem spy_at{ss:List (Q3×Q3)}{H H':Hp}{p:Addr}{x:R4}(h:SpY ss H p x)(g:zbp H H')(g':∀b,b∈[x.2.1,x.2.2.1,x.2.2.2]->∀us,H b=some (.lst us)->H' b=some (.lst us)):SpY ss H' p x:=by
 obtain⟨a,h1,h2,h3,h4,h5⟩:=h;exact⟨a,g _ _ h1,zjh _ _ _ _ g h2,g' _ (by simp) _ h3,g' _ (by simp) _ h4,g' _ (by simp) _ h5⟩
theorem zor{ss:List (Q3×Q3)}{H H':Hp}{ys:List V}{xs:List R4}(h:LR (SpY ss) H ys xs)(g:zbp H H')(g':∀b,b∈fl xs->∀us,H b=some (.lst us)->H' b=some (.lst us)):LR (SpY ss) H' ys xs:=⟨h.1,fun j v z=>by
 obtain⟨p,x,e,f,s⟩:=h.2 j v z;exact⟨p,x,e,f,spy_at s g fun b hb=>g' b (vp.mpr ⟨x,kZ f,hb⟩)⟩⟩
def SameTT(tb tc:Addr)(H H':Hp):Prop:=∀b o,b≠tb->b≠tc->H b=some o->H' b=some o
def sp_stops(tb:Addr)(lp:Pos)(ql:Str)(tc:Addr)(lp':Pos)(ql':Str):Sp:=fun vs H Q _=>∃(l:Addr)(ys:List V)(ss:List (Q3×Q3)),vs=[.ref l]/\H l=some (.lst ys)/\ys.length<=63/\LR (StE 130) H ys ss/\zah H tb lp ql/\zah H tc lp' ql'/\
 ∀(D:Addr)(zs:List V)(xs:List R4)(ps:List (Nat×Nat))(g:Int)(H':Hp),SameTT tb tc H H'->zah H' tb lp ql->zah H' tc lp' ql'->H' D=some (.lst zs)->zs.length<=17000->LR (SpY ss) H' zs xs->Told ss ps g->ps.length<=tri ys.length->(xs.map (·.1)).Pairwise (Lt 1)->(∀q,q∈xs.map (·.1)↔∃i,LyT ss ps q i)->(fl xs).Nodup->(∀b,b∈fl xs->H b=none/\b≠D)->H D=none->Q (.ref D) H'
theorem ok_stops(T:Txt K mg ad fd)(hK:K.In base)(hB:∀b,b∈([ad 48,ad 50,ad 52]:List Addr)->base.BuiltinsAt mg b):FnOk P w K mg base CX0 6 (ad 21) (fd 21) ["stretches"] (sp_stops (ad 48) zrv qlB (ad 52) zje qlN):=by
 refine T.stops.fn.ok znd (fun vs H Q E h=>?_) (fun cdv A outer s H vs Q E hr h=>?_)
 ·obtain⟨l,ys,ss,rfl,_⟩:=h;rfl
 obtain⟨l,ys,ss,rfl,hl,hn,hs,ltB,ltN,k⟩:=h;have zx:=@pss2;have zh:=@zbv;have ze:=@zap;have zj:=@pa1;have qpv:=@pv;have zd:=@zaj;have zA:=@ze0;unfold L2.CompBody at zA;have zq:=@zc4;have zL:=@zea;have zo:=@zbw;have zM:=@zgi;have zt:=@pa3;have zw:=@zce;have zI:=@zgk;generalize @PE=QE,@PT=QT,@PW=QW,@PA=QA,@PS=QS,@PSs=QSs,@PG=QG,@PGs=QGs,@L2.PI=QI,@PO=QO,@PIf=QIf at zx zh ze zj qpv zd zA zq zL zo zM zt zw zI⊢;refine⟨_,
  (zx
   (zh (i:=1) znd.nd rfl (vM rfl) (ze (zm7 T hK hB) (hr.mono (by decide)) rfl T.lying_at.mg T.lying_at.fn.kp T.lying_at.bn .nil pass0 (zj (qpv 0) za1)))
   (zd (zA (dsc:=za0 ze5) (N:=["stretches","lying"]) (own:=["P"]) (ix:=[0,1]) rfl rfl rfl ⟨rfl,by decide+kernel,by decide+kernel,by decide+kernel,by decide+kernel⟩ (zq (ze (zln T hK hB) (hr.mono (by decide)) rfl T.in_order.mg T.in_order.fn.kp T.in_order.bn .nil pass0 (zj (zL (zit rfl) rfl T.b_list zez (zj (qpv 1) za1)) zar))) (fun cl C fp s2 H2 xe=>⟨(zo (i:=0) (show QF (["P","stretches","lying"]:List Str) from by decide+kernel) rfl (km rfl)),zM,(ze (znr T) (hr.mono (by decide)) rfl T.stop_at.mg T.stop_at.fn.kp T.stop_at.bn .nil pass0 (zt (qpv 0) za1 (zw (zih (hu100 hr)) rfl T.b_sorted zg9 (zj (zL (zo6 rfl) rfl T.b_list zez (zj (zI (zfs hr) (qpv 2) (qpv 0) fun _ _=>rfl) za3)) zar)) zar (qpv 1) za1))⟩))))
  ,?_⟩
 clear zx zh ze zj qpv zd zA zq zL zo zM zt zw zI QE QT QW QA QS QSs QG QGs QI QO QIf
 dsimp! [L2.start]
 simp! [];refine⟨l,ys,ss,rfl,hl,by omega,hs,ltN,fun d os kvs qs ps g H1 st1 lt1 hos L1 gp gm hps hnear lps=>?_⟩
 have TT:Told ss ps g:=⟨ste_ok hs,fun s h=>⟨gm _ (vp.mpr ⟨s,h,pD⟩),gm _ (vp.mpr ⟨s,h,pB _ pD⟩)⟩,by rw[←hs.1];exact hps,by rw[←hs.1];exact hnear⟩
 have lss:=hs.1;have ltB1:=zg0 ltB ltN T.tne02 st1;refine zb9 ?_;simp! [zcm,zpl];refine⟨kvs,L1.at_,fun bs La lb hb hLa=>?_⟩;have lk:kvs.length=qs.length:=by have:=congrArg vH L1.keys;simpa using this
 have hb1:LR QH H1 (bs.map V.ref) qs:=by
  refine⟨by rw[kP,lb,lk],fun j v hv=>?_⟩
  rw[kj] at hv
  cases eb:bs[j]? with
  |none=>rw[eb] at hv;cases hv
  |some b=>
   rw[eb] at hv
   cases hv;have hj:j<kvs.length:=by rw[←lb];exact(kF.mp eb).1
   have hj':j<qs.length:=by omega
   have ekv:=kK hj;have e:=congrArg (fun l=>l[j]?) L1.keys;simp only[kj,ekv,kK hj',uU,Qa] at e;have z:=hb j b _ eb ekv;rw[e,kQ_map] at z;exact⟨b,qs[j],rfl,kK hj',z,L1.pq _ (vA hj')⟩
 have g2:=za4 hLa (HO.lst (bs.map V.ref));have hLa2:upd H1 La (HO.lst (bs.map V.ref)) La=some (HO.lst (bs.map V.ref)):=upd_same;generalize upd H1 La (HO.lst (bs.map V.ref))=H2 at*;refine⟨La,_,qs,rfl,hLa2,by rw[kP,lb];have:=L1.len;omega,hb1.same g2,ltB1.same g2,fun D1 zs rs H3 hD1 st3 lt3 hD3 hz ho=>?_⟩
 obtain⟨ho1,hrs,hrl⟩:=ho;have ltB2:=ltB1.same g2;have ltN3:=zg0 (lt1.same g2) ltB2 T.tne02.symm st3;have L3:Ly H3 d os 17000 (LyT ss ps) kvs qs:=(L1.same g2).keep fun b o hb h=>st3 b o (fun z=>by
  rcases(L1.same g2).live b hb with⟨x,e⟩|⟨x,e⟩
  ·exact ltB2.ne e (fun _ z=>nomatch z) z
  ·exact ltB2.ne e (fun _ z=>nomatch z) z) h
 have hl1:=st1.lst ltN hl;have hl3:H3 l=some (.lst ys):=st3.lst ltB2 (g2 _ _ hl1);have hs3:LR (StE 130) H3 ys ss:=hs.ts zc9 fun b xs h=>st3.tup ltB2 (g2 _ _ (st1.tup ltN h));have sTT:SameTT (ad 48) (ad 52) H H3:=fun b o n1 n2 h=>st3 b o n1 (g2 _ _ (st1 b o n2 h));have hfr:∀{b:Addr},H3 b=none->H b=none:=fun{b} h=>by
  cases e:H b with
  |none=>rfl
  |some o=>
   have n1:b≠(ad 48):=fun z=>by
    obtain⟨tp,e3,_⟩:=lt3;rw[←z,h] at e3
    cases e3
   have n2:b≠(ad 52):=fun z=>by
    obtain⟨tp,e3,_⟩:=ltN3;rw[←z,h] at e3
    cases e3
   rw[sTT b o n1 n2 e] at h
   cases h
 refine⟨D1,rfl,⟨_,.of hD3⟩,fun D hD=>?_⟩;have lz:zs.length<=17000:=by
  have h1:=hz.1;have:=L1.len;omega
 refine zax (xs:=zs) (fun i us H'=>Same H3 H'/\H' D=some (.lst us)/\us.length=i/\∃xs:List R4,xs.map (·.1)=rs.take i/\LR (SpY ss) H' us xs/\(fl xs).Nodup/\∀b,b∈fl xs->H3 b=none/\b≠D/\∃o,H' b=some o) ⟨za4 hD _,upd_same,rfl,[],by rw[uG];rfl,.nil,AD,fun b hb=>by cases hb⟩ (fun i us H' q=>.of (q.1 _ _ hD3)) ?_ ?_
 ·rintro i us H4 v hi hv ⟨g4,hD4,lu,xs,ex,hu,ndx,hfx⟩;obtain⟨b,r,rfl,hr',hbr⟩:=hz.2 i v hv;have hrq:=(hrs r).mp (kZ hr');have L4:=L3.same g4;obtain⟨ib,kws,ns,f1,f2,f3,f4,f5,f6,f7⟩:=L4.inn r hrq;have hbr4:=hbr.same g4;simp! [zhn,rListK,zr2];have ek:(kws.map fun kv=>kV kv.1)=natV ns:=by
   have:(kws.map fun kv=>kV kv.1)=(kws.map QP).map kV:=by rw[QV];rfl
   rw[this,f4];unfold zsh natV;rw[QV];rfl
  have hin:∀i,i∈ns->i<ys.length:=fun i hi=>by
   rw[lss];exact(TT.lies ((f7 i).mp hi)).1
  have ln:=nd_lt f6 hin;refine⟨.ref ib,by rw[←f1];exact .t (k:=kQ r) L4.at_ hbr4.1,ib,rfl,kws,f3,fun l1 hl1'=>?_⟩
  rw[ek];refine⟨ns.map fun i:Nat=>(i:Int),by unfold natV;rw[QV];rfl,by rw[kP];omega,fun D2 ms hD2 pm up=>?_⟩
  have em:ms.map V.int=natV (onF ss r):=by
   have e1:ms.map V.int=natV (ms.map vG):=by
    unfold natV;rw[QV];refine vw fun z hz=>?_;obtain⟨i,_,e⟩:=pd.mp (pm.mem_iff.mp hz);show V.int z=V.int ((z.toNat:Nat):Int);rw[←e];rfl
   have nn:∀z,z∈ms->0<=z:=fun z hz=>by
    obtain⟨i,_,e⟩:=pd.mp (pm.mem_iff.mp hz);rw[←e];omega
   have ndm:ms.Pairwise (·≠·):=pm.nodup_iff.mpr (vf.mpr (f6.imp fun h z=>h (by omega)))
   rw[e1,zq4 (a:=ms.map vG) (b:=onF ss r) (vf.mpr (jE (fun{a b} ha hb h=>by have:=nn a ha;have:=nn b hb;omega) (ndm.and up))) (onF_up ss r) fun x=>?_]
   rw[zle]
   constructor
   ·intro hx;obtain⟨z,hz,rfl⟩:=pd.mp hx;obtain⟨i,hi,e⟩:=pd.mp (pm.mem_iff.mp hz);rw[←e];exact⟨(TT.lies ((f7 i).mp hi)).1,(TT.lies ((f7 i).mp hi)).2.2⟩
   ·rintro⟨h1,h2⟩;obtain⟨j,hj⟩:=(L1.mem r).mp hrq;exact pd.mpr ⟨(x:Int),pm.mem_iff.mpr (pd.mpr ⟨x,(f7 x).mpr (TT.full h1 hj h2),rfl⟩),rfl⟩
  have lo:(onF ss r).length<=63:=by
   have:=congrArg vH em;rw[kP,zc1,pm.length_eq,kP] at this;omega
  have g5:=za4 hl1' (HO.lst (natV ns));generalize upd H4 l1 (HO.lst (natV ns))=H5 at*;have g6:=za4 hD2 (HO.lst (ms.map V.int));have hD6:upd H5 D2 (HO.lst (ms.map V.int)) D2=some (HO.lst (ms.map V.int)):=upd_same;generalize upd H5 D2 (HO.lst (ms.map V.int))=H6 at*;have g46:=g5.trans g6;have hD6':=g46 _ _ hD4;refine⟨ys,ss,onF ss r,r,hbr4.same g46,em,(g4.trans g46) _ _ hl3,hs3.ts zc9 (zaf (g4.trans g46)),fun k hk=>by rw[lss];exact(zle.mp hk).1,by omega,fun t b1 b2 b3 H7 ht g7 ht7 n1 n2 n3 n12 n13 n23 e1 e2 e3=>?_⟩
  have hD7:=g7 _ _ hD6';have nd:∀{b:Addr},H6 b=none->b≠D:=fun h z=>by rw[z,hD6'] at h;cases h
  have no:∀{b:Addr},H6 b=none->b∉fl xs:=fun{b} h z=>by
   obtain⟨_,_,o,ho⟩:=hfx b z;rw[g46 _ _ ho] at h
   cases h
  have n3':∀{b:Addr},H6 b=none->H3 b=none:=fun h=>(g4.trans g46).free h;refine cw_put hi hD7 (small10k (by omega)) ⟨zav (g4.trans (g46.trans g7)) hD,upd_same,by rw[kO,lu];rfl,xs++[(r,b1,b2,b3)],?_,?_,?_,fun b hb=>?_⟩
  ·rw[uK,ex,pi,hr'];rfl
  ·have sx:SpY ss H7 t (r,b1,b2,b3):=⟨b,ht7,(hbr4.same g46).same g7,e1,e2,e3⟩;have h7:LR (SpY ss) H7 (us++[.ref t]) (xs++[(r,b1,b2,b3)]):=(zor hu (zaf (g46.trans g7)) fun b _ us h=>(g46.trans g7) _ _ h).snoc sx;refine zor h7 (zet hD7) fun b hb us h=>?_;rw[zm1] at hb;have:b≠D:=by
    rcases kY.mp hb with hb|hb
    ·exact(hfx b hb).2.1
    ·simp only[kr,uV,or_false] at hb;rcases hb with rfl|rfl|rfl
     ·exact nd n1
     ·exact nd n2
     ·exact nd n3
   rw[za8 this];exact h
  ·rw[zm1,jl];refine⟨ndx,by simp[n12,n13,n23],fun x hx y hy z=>?_⟩
   subst z;simp only[kr,uV,or_false] at hy;rcases hy with rfl|rfl|rfl
   ·exact no n1 hx
   ·exact no n2 hx
   ·exact no n3 hx
  ·rw[zm1] at hb;have live:∀{b:Addr}{o:HO},H7 b=some o->∃o,upd H7 D (HO.lst (us++[V.ref t])) b=some o:=fun{b o} h=>by
    by_cases z:b=D
    ·rw[z];exact⟨_,upd_same⟩
    ·exact⟨o,by rw[za8 z];exact h⟩
   rcases kY.mp hb with hb|hb
   ·obtain⟨x1,x2,o,x3⟩:=hfx b hb;exact⟨x1,x2,live ((g46.trans g7) _ _ x3)⟩
   ·simp only[kr,uV,or_false] at hb;rcases hb with rfl|rfl|rfl
    ·exact⟨n3' n1,nd n1,live e1⟩
    ·exact⟨n3' n2,nd n2,live e2⟩
    ·exact⟨n3' n3,nd n3,live e3⟩
 ·rintro us H4 ⟨g4,hD4,lu,xs,ex,hu,ndx,hfx⟩;rw[pH (UF hz.1.symm)] at ex;exact k D us xs ps g H4 (fun b o n1 n2 h=>g4 _ _ (sTT b o n1 n2 h)) (lt3.same g4) (ltN3.same g4) hD4 (by omega) hu TT lps (by rw[ex];exact ho1) (fun q=>by rw[ex,hrs q,L1.mem q]) ndx (fun b hb=>⟨hfr (hfx b hb).1,(hfx b hb).2.1⟩) (hfr hD)
def zqh:Pos:=(lamAt zao).2
def qlP:Str:=(Uf "by_points" (za0 zao) 0 0 .none).qual++"<lambda>"
def kyL(g:Int)(f:Q3×Q3):List (Int×Int):=[kyQ g f.1,kyQ g f.2]
def zi4(fs:List (Q3×Q3)):List Q3:=fs.flatMap fun f=>[f.1,f.2]
theorem zsx{fs:List (Q3×Q3)}{p:Q3}:p∈zi4 fs↔∃f,f∈fs/\(p=f.1∨p=f.2):=by
 unfold zi4
 simp[List.mem_flatMap]
theorem pts_snoc(fs:List (Q3×Q3))(f:Q3×Q3):zi4 (fs++[f])=zi4 fs++[f.1,f.2]:=by simp[zi4]
theorem zp5(fs:List (Q3×Q3)):(zi4 fs).length=2*fs.length:=by
 induction fs with
 |nil=>rfl
 |cons f fs ih=>unfold zi4 at*;rw[DB,kO,ih];simp;omega
def sp_bypP(tb:Addr)(lp:Pos)(ql:Str):Sp:=fun vs H Q _=>∃(l:Addr)(ys:List V)(fs:List (Q3×Q3)),vs=[.ref l]/\H l=some (.lst ys)/\ys.length<=9000/\LR S2H H ys fs/\zah H tb lp ql/\
 ∀D zs fs' H',H D=none->zdc tb H H'->zah H' tb lp ql->H' D=some (.lst zs)->LR S2H H' zs fs'->fs'.Perm fs->Q (.ref D) H'
theorem zkw(T:Txt K mg ad fd)(hK:K.In base)(hB:∀b,b∈([ad 48,ad 50,ad 52]:List Addr)->base.BuiltinsAt mg b):FnOk P w K mg base CX0 3 (ad 12) (fd 12) ["things"] (sp_bypP (ad 50) zqh qlP):=by
 refine T.by_points_c.ok zdy (fun vs H Q E h=>?_) (fun A outer s H vs Q E hr h=>?_)
 ·obtain⟨l,ys,fs,rfl,_⟩:=h;rfl
 obtain⟨l,ys,fs,rfl,hl,h64,hp,lt,k⟩:=h;have zD:=@pss4;have zh:=@zbv;have zC:=@zfi;have zG:=@zds;have zu:=@zdw;have zq:=@zc4;have qpv:=@pv;have zo:=@zbw;have zf:=@zac;have zE:=@zf4;have zJ:=@zlm;have zj:=@pa1;have ze:=@zap;have zd:=@zaj;have yo:=@zmb;have zA:=@ze0;unfold L2.CompBody at zA;have yF:=@pi_tupK;have zM:=@zgi;have zI:=@zgk;generalize @PE=QE,@PT=QT,@PW=QW,@PA=QA,@PS=QS,@PSs=QSs,@PG=QG,@PGs=QGs,@L2.PI=QI,@PO=QO,@PIf=QIf at zD zh zC zG zu zq qpv zo zf zE zJ zj ze zd yo zA yF zM zI⊢;refine⟨_,
  (zD
   (zh (i:=1) zdy.nd rfl (km rfl) (zC zG))
   (zu pT rfl (zq (qpv 0)) (zo (i:=2) zdy.nd rfl (km rfl)) (zf (zE (zJ ug Uw jF zqf (qpv 1) (zj (qpv 2) za1)))))
   (zh (i:=3) zdy.nd rfl (vM rfl) (ze (zeq T) (hr.mono (by omega)) rfl T.order_keys.mg T.order_keys.fn.kp T.order_keys.bn .nil pass0 (zj (qpv 1) za1)))
   (zd (yo (P:=ad 50) (c0:=ad 49) (x:="thing") (y:="keys") (c:=s.heap.objs.size+1) (i0:=3) (zoj (hu80 hr)) kpG_lsts hr rfl T.b_sorted (zj (qpv 0) za1) ⟨rfl,rfl,rfl,rfl,rfl,by decide+kernel,by decide+kernel⟩ rfl rfl rfl rfl rfl rfl (gY hK T.by_points_c.hd) (hB _ (by simp)) (fun _ _ _ _=>rfl) (by intro fa2 c2 A2 s3 H3 hu2;exact(zA (dsc:=(lamAt zao).1) (N:=["thing","keys"]) (own:=["P"]) (ix:=[1]) rfl rfl rfl ⟨rfl,by decide+kernel,by decide+kernel,by decide+kernel,by decide+kernel⟩ (yF (K':=K) rfl (qpv 0)) (fun cl C fp s2 H2 xe=>⟨(zo (i:=0) (show QF (["P","keys"]:List Str) from by decide+kernel) rfl (km rfl)),zM,(zI (by show A2.units+3+1<cLine;omega) (qpv 1) (qpv 0) fun _ _=>rfl)⟩))))))
  ,?_⟩
 clear zD zh zC zG zu zq qpv zo zf zE zJ zj ze zd yo zA yF zM zI QE QT QW QA QS QSs QG QGs QI QO QIf
 dsimp! [L2.start]
 simp! [];intro D0 hD0;have g0:=za4 hD0 (HO.lst []);refine zbo ?_;simp! [zcm];refine⟨⟨_,.of (g0 _ _ hl)⟩,?_⟩;have lenF:fs.length=ys.length:=hp.1.symm;refine zbh (K:=K) (a:=l) (xs:=ys) (fun i σ H'=>Same H H'/\∃(zs:List V)(o:Option V),σ=[some (.ref l),some (.ref D0),o,none]/\H' D0=some (.lst zs)/\LR QH H' zs (zi4 (fs.take i))) ⟨g0,[],none,rfl,upd_same,by rw[uG];exact .nil⟩ (fun i σ H' _ iv=>.of (iv.1 _ _ hl)) ?_ ?_
 ·intro _ _;rintro i v σ H1 hi ⟨g1,zs,o,rfl,hD1,hz⟩;obtain⟨p,f,rfl,hf,a,b,hq,ha,hb⟩:=hp.2 i v hi;have hq1:=g1 _ _ hq;have hi':=(kF.mp hi).1;have lz:zs.length<=18000:=by
   rw[hz.1,zp5,pA];have:=Nat.min_le_right i fs.length;omega
  simp! [rExtT,hq1];refine⟨zff hD1,zs,hD1,ud (small10k (by omega)),zav g1 hD0,?_⟩
  rw[pi,hf];show LR QH _ _ (zi4 (fs.take i++[f]));rw[pts_snoc];exact((hz.app (bs:=[f.1,f.2]) ((LR.one (ha:QH H a f.1)).app (LR.one (hb:QH H b f.2))|>.ts zjh (zaf g1)))).ts zjh (zet hD1)
 ·rintro σ H1 ⟨g1,zs,o,rfl,hD1,hz⟩;rw[pH (by rw[lenF];exact kM _)] at hz
  simp! [];refine⟨D0,zs,zi4 fs,rfl,hD1,by rw[hz.1,zp5];omega,hz,fun d kvs g qs H2 g2 hd2 gp gm ky _ _ _ _=>?_⟩
  have g12:=g1.trans g2;simp! [zp3];refine⟨ys,g12 _ _ hl,ud (small10k (by omega)),lt.same g12,fun c' H3 st3 lt3 hc3=>?_⟩
  have hl3:=st3.lst (lt.same g12) (g12 _ _ hl);have hd3:H3 d=some (.dT kvs):=st3 _ _ ((lt.same g12).ne hd2 fun _ z=>nomatch z) hd2;have ts3:zbp H2 H3:=fun b xs q=>st3.tup (lt.same g12) q;have ky3:=ky.ts ts3;have hp3:LR S2H H3 ys fs:=(hp.ts zgl (zaf g12)).ts zgl ts3;have z0:Q3×Q3:=zQ;refine⟨fun i ks H'=>Same H3 H'/\ks.length=i/\∀j,j<i->LsI H' (ks.getD j .non) (kyL g (fs.getD j z0)),⟨⟨.refl _,rfl,fun j hj=>by omega⟩,fun i ks H' q=>q.1 _ _ hc3,fun i ks H' q=>q.2.1,fun i ks H4 v hv q=>?_,fun ks H4 q=>?_⟩⟩
  ·obtain⟨g4,lk,q⟩:=q;obtain⟨p,f,rfl,hf,hpf⟩:=hp3.2 i v hv;obtain⟨a,b,hq,ha,hb⟩:=zgl _ _ _ _ (zaf g4) hpf;have hd4:=g4 _ _ hd3;obtain⟨b1,e1,h1⟩:=ky3 f.1 (zsx.mpr ⟨f,kZ hf,.inl rfl⟩);obtain⟨b2,e2,h2⟩:=ky3 f.2 (zsx.mpr ⟨f,kZ hf,.inr rfl⟩);refine zb9 ?_;simp! [iTup];refine⟨⟨_,.of hq⟩,fun D hD=>?_⟩;refine comp_tup (xs:=[.ref a,.ref b]) (fun n qs H'=>Same H4 H'/\H' D=some (.lst qs)/\qs=([V.ref b1,V.ref b2]).take n) ⟨za4 hD _,upd_same,rfl⟩ (fun n qs H' z=>.of (z.1 _ _ hq)) ?_ ?_
   ·rintro n qs H5 x hn hx ⟨g5,hD5,eq⟩;simp! [zhn]
    match n,hx,hn with
    |0,hx,_=>
     cases hx;exact⟨_,by rw[←e1];exact .t (k:=kQ f.1) (g5 _ _ hd4) (g5 _ _ ha.1),cw_put (by decide) hD5 (by rw[eq];exact small1000 (by simp)) ⟨zav g5 hD,upd_same,by rw[eq];rfl⟩⟩
    |1,hx,_=>
     cases hx;exact⟨_,by rw[←e2];exact .t (k:=kQ f.2) (g5 _ _ hd4) (g5 _ _ hb.1),cw_put (by decide) hD5 (by rw[eq];exact small1000 (by simp)) ⟨zav g5 hD,upd_same,by rw[eq];rfl⟩⟩
   ·rintro qs H5 ⟨g5,hD5,eq⟩;have eq:qs=[V.ref b1,V.ref b2]:=eq;subst eq;refine⟨g4.trans g5,by rw[kO,lk];rfl,fun j hj=>?_⟩
    by_cases e:j<i
    ·obtain⟨q0,qs0,e0,hq0,l0,k0⟩:=q j e;have ej:(ks++[V.ref D]).getD j .non=ks.getD j .non:=by
      rw[kD,pj (by omega),←kD]
     rw[ej];refine⟨q0,qs0,e0,g5 _ _ hq0,l0,fun j k hk=>?_⟩;obtain⟨b,hb1,hb2⟩:=k0 j k hk;exact⟨b,hb1,g5 _ _ hb2⟩
    ·have ej:j=i:=by omega
     subst ej;have e3:(ks++[V.ref D]).getD j .non=.ref D:=by
      rw[kD,pY (by omega),lk,Ec]
      rfl
     have e4:fs.getD j z0=f:=by rw[kD,hf];rfl
     rw[e3,e4];refine⟨D,_,rfl,hD5,rfl,fun m k hk=>?_⟩;unfold kyL at hk
     match m,hk with
     |0,hk=>cases hk;exact⟨b1,rfl,g5 _ _ (g4 _ _ h1)⟩
     |1,hk=>cases hk;exact⟨b2,rfl,g5 _ _ (g4 _ _ h2)⟩
  ·obtain⟨g4,lk,q⟩:=q;refine⟨_,⟨fun i=>kyL g (fs.getD i z0),fun i hi=>q i (by omega),rfl⟩,fun D pp hD or _=>?_⟩
   have pm:(pp.map fun i=>ys.getD i .non).Perm ys:=by
    have:=or.map fun i=>ys.getD i .non
    rwa [zk5] at this
   generalize (pp.map fun i=>ys.getD i .non)=zs' at*;have g5:=za4 hD (HO.lst zs');obtain⟨fs',po,lo⟩:=(hp3.ts zgl (zaf (g4.trans g5))).perm pm.symm;refine k D zs' fs' _ (g12.free (?_:H2 D=none)) (fun b o nb e=>g5 _ _ (g4 _ _ (st3 _ _ nb (g12 _ _ e)))) ((lt3.same g4).same g5) upd_same lo po.symm;have h3:=g4.free hD
   cases e:H2 D with
   |none=>rfl
   |some o=>
    by_cases nb:D=(ad 50)
    ·obtain⟨tp,e3,_⟩:=lt3;rw[←nb,h3] at e3
     cases e3
    ·rw[st3 _ _ nb e] at h3
     cases h3
def RwH(H:Hp)(p:Addr)(f:Q3×Q3):Prop:=∃s v,H p=some (.tup [.ref s,v])/\S2H H s f
theorem rw_ts:∀(H H':Hp)(p:Addr)(f:Q3×Q3),zbp H H'->RwH H p f->RwH H' p f:=fun _ _ _ _ g⟨s,v,h1,h2⟩=>⟨s,v,g _ _ h1,zgl _ _ _ _ g h2⟩
structure PI(P:ko)(w:pN)(ss:List (Q3×Q3))(ps:List (Nat×Nat))(B:Hp)(d1 d2:Addr)(M:Nat)(kvs:List N3)(kws:List (Key×V))(H:Hp):Prop where
 fr:Same B H
 own:H d1=some (nD P w d1 kvs)
 kn:KN H kvs
 nd:(kvs.map (·.1)).Nodup
 key:∀e,e∈kvs->∃(f:Q3×Q3)(c:Addr)(us:List V),e.1=[kQ f.1,kQ f.2]/\Pce ss ps f/\e.2.2=.ref c/\B c=none/\H c=some (.lst us)/\us.length<=M
 len:kvs.length<=M
 rea:H d2=some (.dK kws)
 kl:kws.length<=M
section
variable{w:pN}{ss:List (Q3×Q3)}{ps:List (Nat×Nat)}{B B' H H':Hp}{d1 d2:Addr}{M M':Nat}{kvs:List N3}{kws:List (Key×V)}
theorem PI.le(I:PI P w ss ps B d1 d2 M kvs kws H)(h:M<=M'):PI P w ss ps B d1 d2 M' kvs kws H:=
 ⟨I.fr,I.own,I.kn,I.nd,fun e he=>by
  obtain⟨f,c,us,h1,h2,h3,h4,h5,h6⟩:=I.key e he;exact⟨f,c,us,h1,h2,h3,h4,h5,by omega⟩,by have:=I.len;omega,I.rea,by have:=I.kl;omega⟩
theorem PI.same(I:PI P w ss ps B d1 d2 M kvs kws H)(g:Same H H'):PI P w ss ps B d1 d2 M kvs kws H':=
 ⟨I.fr.trans g,g _ _ I.own,I.kn.ts fun _ _ h=>g _ _ h,I.nd,fun e he=>by
  obtain⟨f,c,us,h1,h2,h3,h4,h5,h6⟩:=I.key e he;exact⟨f,c,us,h1,h2,h3,h4,g _ _ h5,h6⟩,I.len,g _ _ I.rea,I.kl⟩
theorem PI.more(I:PI P w ss ps B d1 d2 M kvs kws H){D:Addr}{o:HO}(hD:H D=none):PI P w ss ps (upd B D o) d1 d2 M kvs kws (upd H D o):=by
 have J:=I.same (za4 hD o);refine⟨fun b u h=>?_,J.own,J.kn,J.nd,fun e he=>?_,J.len,J.rea,J.kl⟩
 ·by_cases z:b=D
  ·subst z;rw[upd_same] at h⊢;exact h
  ·rw[za8 z] at h⊢;exact I.fr _ _ h
 ·obtain⟨f,c,us,h1,h2,h3,h4,h5,h6⟩:=J.key e he;obtain⟨_,c',us',_,_,h3',_,h5',_⟩:=I.key e he;rw[h3] at h3'
  cases h3';exact⟨f,c,us,h1,h2,h3,by rw[za8 (za7 h5' hD)];exact h4,h5,h6⟩
theorem PI.less(I:PI P w ss ps B d1 d2 M kvs kws H)(h:Same B' B):PI P w ss ps B' d1 d2 M kvs kws H:=
 ⟨fun b o q=>I.fr _ _ (h _ _ q),I.own,I.kn,I.nd,fun e he=>by
  obtain⟨f,c,us,h1,h2,h3,h4,h5,h6⟩:=I.key e he;exact⟨f,c,us,h1,h2,h3,h.free h4,h5,h6⟩,I.len,I.rea,I.kl⟩
theorem PI.app(I:PI P w ss ps B d1 d2 M kvs kws H){c:Addr}{us:List V}{x:V}(hc:H c=some (.lst us))(hB:B c=none)(hu:us.length<=M):PI P w ss ps B d1 d2 (M+1) kvs kws (upd H c (.lst (us++[x]))):=by
 have n1:d1≠c:=fun z=>by have:=I.own;rw[z,hc] at this;cases this
 have n2:d2≠c:=fun z=>by have:=I.rea;rw[z,hc] at this;cases this
 refine⟨fun b o h=>?_,by rw[za8 n1];exact I.own,I.kn.ts (zet hc),I.nd,fun e he=>?_,by have:=I.len;omega,by rw[za8 n2];exact I.rea,by have:=I.kl;omega⟩
 ·rw[za8 (za7 h hB)];exact I.fr _ _ h
 ·obtain⟨f,c',us',h1,h2,h3,h4,h5,h6⟩:=I.key e he
  by_cases z:c'=c
  ·subst z;rw[hc] at h5
   cases h5;exact⟨f,c',_,h1,h2,h3,h4,upd_same,by rw[kO];show us.length+1<=_;omega⟩
  ·exact⟨f,c',us',h1,h2,h3,h4,by rw[za8 z];exact h5,by omega⟩
theorem PI.put(I:PI P w ss ps B d1 d2 M kvs kws H)(hd:B d1=none){f:Q3×Q3}(hf:Pce ss ps f){t c:Addr}{us:List V}(hv:valN kvs [kQ f.1,kQ f.2]=none)(nk:NK H t [kQ f.1,kQ f.2])(hc:H c=some (.lst us))(hB:B c=none)(hu:us.length<=M):PI P w ss ps B d1 d2 (M+1) (putN kvs [kQ f.1,kQ f.2] t (.ref c)) kws (upd H d1 (nD P w d1 (putN kvs [kQ f.1,kQ f.2] t (.ref c)))):=by
 have n2:d2≠d1:=fun z=>by have:=I.rea;rw[z,I.own] at this;cases this
 have nl:∀{b:Addr}{xs:List V},H b=some (.lst xs)->b≠d1:=fun h z=>by rw[z,I.own] at h;cases h
 have ts:∀b xs,H b=some (.tup xs)->upd H d1 (nD P w d1 (putN kvs [kQ f.1,kQ f.2] t (.ref c))) b=some (.tup xs):=fun b xs h=>by
  rw[za8 (fun z=>by rw[z,I.own] at h;cases h)]
  exact h
 refine⟨fun b o h=>?_,upd_same,(I.kn.put nk).ts ts,zid I.nd,fun e he=>?_,by have:=zmn kvs [kQ f.1,kQ f.2] t (.ref c);have:=I.len;omega,by rw[za8 n2];exact I.rea,by have:=I.kl;omega⟩
 ·rw[za8 (za7 h hd)];exact I.fr _ _ h
 ·unfold putN at he;rw[hv] at he;rcases kY.mp he with he|he
  ·obtain⟨f',c',us',h1,h2,h3,h4,h5,h6⟩:=I.key e he;exact⟨f',c',us',h1,h2,h3,h4,by rw[za8 (nl h5)];exact h5,by omega⟩
  ·rw[kf.mp he];exact⟨f,c,us,rfl,hf,rfl,hB,by rw[za8 (nl hc)];exact hc,by omega⟩
theorem PI.rput(I:PI P w ss ps B d1 d2 M kvs kws H)(hd:B d2=none)(k:Key)(v:V):PI P w ss ps B d1 d2 (M+1) kvs (putK kws k v) (upd H d2 (.dK (putK kws k v))):=by
 have n1:d1≠d2:=fun z=>by have:=I.own;rw[z,I.rea] at this;cases this
 have nl:∀{b:Addr}{xs:List V},H b=some (.lst xs)->b≠d2:=fun h z=>by rw[z,I.rea] at h;cases h
 refine⟨fun b o h=>?_,by rw[za8 n1];exact I.own,I.kn.ts fun b xs h=>?_,I.nd,fun e he=>?_,by have:=I.len;omega,upd_same,by have:=zci kws k v;have:=I.kl;omega⟩
 ·rw[za8 (za7 h hd)];exact I.fr _ _ h
 ·rw[za8 (fun z=>by rw[z,I.rea] at h;cases h)]
  exact h
 ·obtain⟨f,c,us,h1,h2,h3,h4,h5,h6⟩:=I.key e he;exact⟨f,c,us,h1,h2,h3,h4,by rw[za8 (nl h5)];exact h5,by omega⟩
theorem zpg{k:K2}{v:V}(h:valN kvs k=some v):∃e,e∈kvs/\e.1=k/\e.2.2=v:=by
 unfold valN at h;obtain⟨e,h1,h2⟩:=ut.mp h;have h3:=List.find?_some h1;exact⟨e,List.mem_of_find?_eq_some h1,by simpa using h3,h2⟩
theorem PI.keys(I:PI P w ss ps B d1 d2 M kvs kws H):∃fs:List (Q3×Q3),kvs.map (·.1)=fs.map (fun f=>[kQ f.1,kQ f.2])/\∀f,f∈fs->Pce ss ps f:=by
 have go:∀l:List N3,(∀e,e∈l->∃f:Q3×Q3,e.1=[kQ f.1,kQ f.2]/\Pce ss ps f)->∃fs:List (Q3×Q3),l.map (·.1)=fs.map (fun f=>[kQ f.1,kQ f.2])/\∀f,f∈fs->Pce ss ps f:=fun l=>by
  induction l with
  |nil=>exact fun _=>⟨[],rfl,fun f h=>by cases h⟩
  |cons e l ih=>
   intro h;obtain⟨fs,e1,e2⟩:=ih fun x hx=>h x (pB _ hx);obtain⟨f,f1,f2⟩:=h e pD;refine⟨f::fs,by rw[pC,pC,e1,f1],fun x hx=>?_⟩
   rcases kr.mp hx with rfl|hx
   ·exact f2
   ·exact e2 x hx
 exact go kvs fun e he=>by
  obtain⟨f,c,us,h1,h2,_⟩:=I.key e he;exact⟨f,h1,h2⟩
def RIs(ss:List (Q3×Q3))(ps:List (Nat×Nat))(dn:List Q3)(kws:List (Key×V))(B:Hp):Prop:=∀i q,LyT ss ps q i->q∈dn->(∀r,r∈dn->LyT ss ps r i->bq q r=false)->q≠(ss.getD i zQ).2->∃a,valV kws (.inl (i:Int))=some (.ref a)/\QH B a q
theorem zra{T:Q3->Prop}:∀{l:List Q3},l.Pairwise (Lt 1)->(∃r,r∈l/\T r)->∃p,p∈l/\T p/\∀r,r∈l->T r->bq p r=false
 |[],_,⟨r,h,_⟩=>by cases h
 |a::l,pw,⟨r,hr,ht⟩=>by
  obtain⟨p1,p2⟩:=vT.mp pw
  by_cases z:∃r,r∈l/\T r
  ·obtain⟨p,h1,h2,h3⟩:=zra p2 z;refine⟨p,pB _ h1,h2,fun r hr tr=>?_⟩;rcases kr.mp hr with rfl|hr
   ·exact zcv (znw.mpr (p1 p h1))
   ·exact h3 r hr tr
  ·have ea:∀r,r∈a::l->T r->r=a:=fun r hr tr=>by
    rcases kr.mp hr with h|h
    ·exact h
    ·exact absurd ⟨r,h,tr⟩ z
   exact⟨a,pD,ea r hr ht▸ht,fun r hr tr=>by rw[ea r hr tr];exact zdp a⟩
theorem zjj{l:List Q3}(pw:l.Pairwise (Lt 1)){k:Nat}{q r:Q3}(hk:l[k]?=some q):(r∈l.take k->bq r q=true)/\(r∈l->bq r q=true->r∈l.take k):=by
 have hlt:=(kF.mp hk).1;have sp:l=l.take k++(q::l.drop (k+1)):=by
  conv=>lhs;rw[←uJ k l]
  rw[uk hlt]
  congr 2
  have:=kK hlt;rw[hk] at this;exact(pV this).symm
 have pw':=pw;rw[sp,Bw] at pw';refine⟨fun h=>znw.mpr (pw'.2.2 r h q pD),fun h hb=>?_⟩;rw[sp] at h;rcases kY.mp h with h|h
 ·exact h
 ·rcases kr.mp h with h|h
  ·rw[h,zdp] at hb;cases hb
  ·have:=znw.mpr ((vT.mp pw'.2.1).1 r h);rw[zcv hb] at this
   cases this
theorem piece_of{g:Int}(T:Told ss ps g){os:List Q3}(pw:os.Pairwise (Lt 1))(ho:∀q,q∈os↔∃i,LyT ss ps q i){k i:Nat}{q:Q3}(hk:os[k]?=some q)(hq:LyT ss ps q i)(n1:(ss.getD i zQ).1≠q)(R:RIs ss ps (os.take k) kws B):
  ∃p a,Pce ss ps (p,q)/\valV kws (.inl (i:Int))=some (.ref a)/\QH B a p:=by
 obtain⟨hi,pq,oq⟩:=T.lies hq;obtain⟨s1,s2,s3⟩:=T.ok _ (zba hi);obtain⟨_,i1,i2⟩:=zcp oq;have up:∀{z:Q3},PQ 130 z->PQ 700 z:=fun h=>Pt.mono h (by decide)
 have l1:LyT ss ps (ss.getD i zQ).1 i:=.inl (zfn.mpr ⟨hi,.inl rfl⟩);have b1:bq (ss.getD i zQ).1 q=true:=by
  cases h:bq (ss.getD i zQ).1 q with
  |true=>rfl
  |false=>exact absurd (zge (up s1) pq (by rw[h];decide) (by rw[i1];decide)) n1
 obtain⟨p,h1,h2,h3⟩:=zra (T:=fun r=>LyT ss ps r i) (pw.sublist (AX k os)) ⟨_,(zjj pw hk).2 ((ho _).mpr ⟨i,l1⟩) b1,l1⟩;have bp:=(zjj pw hk (r:=p)).1 h1;obtain⟨a,ha,hb⟩:=R i p h2 h1 h3 fun z=>by rw[z,i2] at bp;cases bp
 refine⟨p,a,⟨i,h2,hq,bp,fun r hr r1 r2=>?_⟩,ha,hb⟩;have:=h3 r ((zjj pw hk).2 ((ho _).mpr ⟨i,hr⟩) r2) hr;rw[r1] at this
 cases this
theorem RIs.next{g:Int}(T:Told ss ps g){os:List Q3}(pw:os.Pairwise (Lt 1)){k:Nat}{q:Q3}(hk:os[k]?=some q){kws':List (Key×V)}{a:Addr}(ha:QH B a q){bt:List Nat}(hbt:∀i,i∈bt↔LyT ss ps q i/\(ss.getD i zQ).2≠q)(hv:∀i:Nat,valV kws' (.inl (i:Int))=if i∈bt then some (.ref a) else valV kws (.inl (i:Int)))(R:RIs ss ps (os.take k) kws B):RIs ss ps (os.take (k+1)) kws' B:=fun i r hr hm hl hn=>by
 have et:os.take (k+1)=os.take k++[q]:=by rw[pi,hk];rfl
 rw[et] at hm hl;rw[hv i];rcases kY.mp hm with hm|hm
 ·have nq:¬LyT ss ps q i:=fun z=>by
   have:=hl q (kN _ (kf.mpr rfl)) z;rw[(zjj pw hk).1 hm] at this
   cases this
  rw[if_neg (fun z=>nq ((hbt i).mp z).1)];exact R i r hr hm (fun x hx=>hl x (pR _ hx)) hn
 ·have e:=kf.mp hm;subst e;rw[if_pos ((hbt i).mpr ⟨hr,fun z=>hn z.symm⟩)];exact⟨a,rfl,ha⟩
end
theorem codeX_ne{P:ko}{w:pN}{d:Addr}{kvs:List N3}{q:Str}:zh0 d q≠nD P w d kvs:=fun e=>by
 unfold zh0 nD at e
 injection e with e
 have h:=congrFun e (Heap.push {objs:=BY d {cls:=.none,data:=.fields #[.none,.str q 0]}} {cls:=.none,data:=.fields #[.none,.str q 0]});have g:(Heap.push {objs:=BY d {cls:=.none,data:=.fields #[.none,.str q 0]}} {cls:=.none,data:=.fields #[.none,.str q 0]}).get? d=some {cls:=.none,data:=.fields #[.none,.str q 0]}:=by
  have:=kh {objs:=BY d {cls:=.none,data:=.fields #[.none,.str q 0]}} (o:={cls:=.none,data:=.fields #[.none,.str q 0]}) rfl;rw[Array.size_replicate] at this;exact this
 obtain⟨_,_,_,_,_,o',es,ep,h1,_,h2,_⟩:=h.mp ⟨d,_,_,0,rfl,g,rfl,rfl⟩;rw[g] at h1
 cases h1
 cases h2
def SpZ(ss:List (Q3×Q3))(ps:List (Nat×Nat))(H:Hp)(p:Addr)(q:Q3):Prop:=∃(a b1 b2 b3:Addr)(ns:List Nat),H p=some (.tup [.ref a,.ref b1,.ref b2,.ref b3])/\QH H a q/\ns.length<=13/\(∀i,i∈ns↔LyT ss ps q i)/\
 H b1=some (.lst (natV (ns.filter fun k=>decide ((ss.getD k zQ).1=q))))/\H b2=some (.lst (natV (ns.filter fun k=>decide ((ss.getD k zQ).1≠q/\(ss.getD k zQ).2≠q))))/\H b3=some (.lst (natV (ns.filter fun k=>decide ((ss.getD k zQ).2=q))))
theorem spz_of{ss:List (Q3×Q3)}{ps:List (Nat×Nat)}{g:Int}(T:Told ss ps g)(hn:ss.length<=13){H:Hp}{ys:List V}{xs:List R4}(h:LR (SpY ss) H ys xs)(hq:∀q,q∈xs.map (·.1)↔∃i,LyT ss ps q i):LR (SpZ ss ps) H ys (xs.map (·.1)):=by
 refine⟨by rw[kP];exact h.1,fun j v z=>?_⟩
 obtain⟨p,x,e,f,a,h1,h2,h3,h4,h5⟩:=h.2 j v z;obtain⟨i,hi⟩:=(hq x.1).mp (pd.mpr ⟨x,kZ f,rfl⟩);refine⟨p,x.1,e,by rw[kj,f];rfl,a,x.2.1,x.2.2.1,x.2.2.2,onF ss x.1,h1,h2,?_,fun k=>?_,h3,h4,h5⟩
 ·exact pP (Qd _ _) (by rw[uN];exact hn)
 ·rw[zle];exact⟨fun⟨q1,q2⟩=>T.full q1 hi q2,fun q=>⟨(T.lies q).1,(T.lies q).2.2⟩⟩
def SameT3(ta tb tc:Addr)(H H':Hp):Prop:=∀b o,b≠ta->b≠tb->b≠tc->H b=some o->H' b=some o
def zrp(ta:Addr)(la:Pos)(qa:Str)(tb:Addr)(lb:Pos)(qb:Str)(tc:Addr)(lc:Pos)(qc:Str):Sp:=fun vs H Q _=>∃(l:Addr)(ys:List V)(ss:List (Q3×Q3)),vs=[.ref l]/\H l=some (.lst ys)/\ys.length<=13/\LR (StE 130) H ys ss/\zah H ta la qa/\zah H tb lb qb/\zah H tc lc qc/\
 ∀(D:Addr)(zs:List V)(fs:List (Q3×Q3))(ps:List (Nat×Nat))(g:Int)(H':Hp),SameT3 ta tb tc H H'->zah H' ta la qa->zah H' tb lb qb->zah H' tc lc qc->H' D=some (.lst zs)->zs.length<=9000->LR RwH H' zs fs->fs.Nodup->Told ss ps g->(∀f,f∈fs->Pce ss ps f)->Q (.ref D) H'
theorem zjy(T:Txt K mg ad fd)(hK:K.In base)(hB:∀b,b∈([ad 48,ad 50,ad 52]:List Addr)->base.BuiltinsAt mg b):FnOk P w K mg base CX0 7 (ad 27) (fd 27) ["stretches"] (zrp (ad 48) zrv qlB (ad 50) zqh qlP (ad 52) zje qlN):=by
 refine T.pieces.fn.ok zcq (fun vs H Q E h=>?_) (fun cdv A outer s H vs Q E hr h=>?_)
 ·obtain⟨l,ys,ss,rfl,_⟩:=h;rfl
 obtain⟨l,ys,ss,rfl,hl,hn,hs,ltB,ltP,ltN,k⟩:=h;have zD:=@pss4;have zh:=@zbv;have yG:=@pe_nnew;have yn:=@zmh;have zu:=@zdw;have zq:=@zc4;have ze:=@zap;have zj:=@pa1;have qpv:=@pv;have yh:=@zt4;have zF:=@zfb;have zo:=@zbw;have zP:=@zgh;have zx:=@pss2;have zw:=@zce;have zc:=@zd7;have zf:=@zac;have zE:=@zf4;have zJ:=@zlm;have yH:=@pe_nsd;have zr:=@zdg;have zg:=@pa2;have zI:=@zgk;have zC:=@zfi;have zG:=@zds;have ya:=@zm4;have zd:=@zaj;have zA:=@ze0;unfold L2.CompBody at zA;have zL:=@zea;have zM:=@zgi;have yK:=@pe_nget;generalize @PE=QE,@PT=QT,@PW=QW,@PA=QA,@PS=QS,@PSs=QSs,@PG=QG,@PGs=QGs,@L2.PI=QI,@PO=QO,@PIf=QIf at zD zh yG yn zu zq ze zj qpv yh zF zo zP zx zw zc zf zE zJ yH zr zg zI zC zG ya zd zA zL zM yK⊢;refine⟨_,
  (zD
   (zh (i:=1) zcq.nd rfl (vM rfl) (yG (P:=P) (w:=w) rfl rfl))
   (zh (i:=2) zcq.nd rfl (km rfl) yn)
   (zu pT rfl (zq (ze (ok_stops T hK hB) (hr.mono (by decide)) rfl T.stops.mg T.stops.fn.kp T.stops.bn .nil pass0 (zj (qpv 0) za1))) (yh (n:=4) rfl (zF (zo (i:=3) zcq.nd rfl (km rfl)) (zF (zo (i:=4) zcq.nd rfl (km rfl)) (zF (zo (i:=5) zcq.nd rfl (km rfl)) (zF (zo (i:=6) zcq.nd rfl (km rfl)) zP))))) (zx
   (zu pT rfl (zq (zw (zih (hu100 hr)) rfl T.b_sorted zg9 (zj (zc zp2 (qpv 5) (qpv 6)) zam))) (zo (i:=7) zcq.nd rfl (km rfl)) (zf (zE (zJ ug UI UJ ze7 (yH (P:=P) (w:=w) rfl rfl (hu64 hr) (qpv 1) (zr (zg (zI (zfs hr) (qpv 2) (qpv 7) fun _ _=>rfl) za3 (qpv 3) za1)) (zC zG) ⟨rfl,rfl,rfl,rfl⟩) (zj (qpv 7) za1)))))
   (zu pT rfl (zq (zc zp2 (qpv 4) (qpv 5))) (zo (i:=7) zcq.nd rfl (km rfl)) (zf (ya (zfs hr) (qpv 2) (qpv 7) (qpv 3) rfl)))))
   (zd (zA (dsc:=za0 zda) (N:=["stretches","owners","reached","P","begins","through","ends","number"]) (own:=["S"]) (ix:=[1]) rfl rfl rfl ⟨rfl,by decide+kernel,by decide+kernel,by decide+kernel,by decide+kernel⟩ (zq (ze (zkw T hK hB) (hr.mono (by decide)) rfl T.by_points.mg T.by_points.fn.kp T.by_points.bn .nil pass0 (zj (zL (zny (P:=P) (w:=w) rfl rfl rfl) rfl T.b_list zez (zj (qpv 1) za1)) zar))) (fun cl C fp s2 H2 xe=>⟨(zo (i:=0) (show QF (["S","owners"]:List Str) from by decide+kernel) rfl (km rfl)),zM,(zr (zg (qpv 0) za1 (yK (P:=P) (w:=w) rfl rfl (hu64 hr) (qpv 1) (qpv 0) fun _ _=>rfl) za3))⟩))))
  ,?_⟩
 clear zD zh yG yn zu zq ze zj qpv yh zF zo zP zx zw zc zf zE zJ yH zr zg zI zC zG ya zd zA zL zM yK QE QT QW QA QS QSs QG QGs QI QO QIf
 dsimp! [L2.start]
 simp! [tNNew,zpb];intro d1 hd1 d2 hd2;have g1:=za4 hd1 (nD P w d1 []);have e1:upd H d1 (nD P w d1 []) d1=some (nD P w d1 []):=upd_same;generalize upd H d1 (nD P w d1 [])=H1 at*;have g2:=za4 hd2 (HO.dK []);have e2:upd H1 d2 (HO.dK []) d2=some (HO.dK []):=upd_same;have e12:=g2 _ _ e1;generalize upd H1 d2 (HO.dK [])=H2 at*;have g02:=g1.trans g2;have ltB2:=ltB.same g02;have ltN2:=ltN.same g02;refine zbo ?_;simp! [zcm];refine⟨l,ys,ss,rfl,g02 _ _ hl,by omega,hs.ts zc9 (zaf g02),ltB2,ltN2,fun D zs xs ps g H3 st3 ltB3 ltN3 hD3 _ hzy TT lps pw ho _ _ _=>?_⟩
 have hz:=spz_of TT (by rw[←hs.1];exact hn) hzy ho
 generalize xs.map (·.1)=os at*;have lz:zs.length<=104:=by
  have ndo:os.Nodup:=pw.imp fun{a b} h z=>by
   have:=znw.mpr h;rw[z,zdp] at this
   cases this
  have:=TT.few ndo fun q hq=>(ho q).mp hq;have t13:=zjb (n:=13) hn;have h1:=hz.1;have h2:=hs.1;have e13:tri 13=78:=rfl;omega
 have h31:H3 d1=some (nD P w d1 []):=st3 _ _ (ltB2.ne e12 fun _ z=>nomatch z) (ltN2.ne e12 fun _ z=>nomatch z) e12;have h32:H3 d2=some (.dK []):=st3 _ _ (ltB2.ne e2 fun _ z=>nomatch z) (ltN2.ne e2 fun _ z=>nomatch z) e2;obtain⟨B,⟨Bd1,Bd2⟩,BS,BH⟩:∃B:Hp,(B d1=none/\B d2=none)/\Same B H3/\∀b o,H3 b=some o->b≠d1->b≠d2->B b=some o:=by
  refine⟨fun b=>if b=d1∨b=d2 then none else H3 b,⟨if_pos (.inl rfl),if_pos (.inr rfl)⟩,fun b o h=>?_,fun b o h n1 n2=>?_⟩
  ·have h:(if b=d1∨b=d2 then none else H3 b)=some o:=h
   by_cases z:b=d1∨b=d2
   ·rw[if_pos z] at h;cases h
   ·rw[if_neg z] at h;exact h
  ·show(if b=d1∨b=d2 then none else H3 b)=_
   rw[if_neg (fun z=>z.elim n1 n2)];exact h
 have BL:∀{b:Addr}{xs:List V},H3 b=some (.lst xs)->B b=some (.lst xs):=fun h=>BH _ _ h (fun z=>by rw[z,h31] at h;cases h) (fun z=>by rw[z,h32] at h;cases h)
 have BT:∀{b:Addr}{xs:List V},H3 b=some (.tup xs)->B b=some (.tup xs):=fun h=>BH _ _ h (fun z=>by rw[z,h31] at h;cases h) (fun z=>by rw[z,h32] at h;cases h)
 have BR:∀{b:Addr}{o:HO},H b=some o->b≠(ad 48)->b≠(ad 52)->B b=some o:=fun{b o} h n1 n2=>BH _ _ (st3 _ _ n1 n2 (g02 _ _ h)) (za7 h hd1) (za7 (g1 _ _ h) hd2);have BLam:∀{t:Addr}{lp:Pos}{ql:Str},zah H3 t lp ql->H t≠none->zah B t lp ql:=fun{t lp ql} h h0=>by
  obtain⟨tp,h1,h2,h3⟩:=h;have n1:∀{b:Addr},H b≠none->b≠d1:=fun z y=>z (y▸hd1);have n2:∀{b:Addr},H b≠none->b≠d2:=fun z y=>z (g1.free (y▸hd2));exact⟨tp,BH _ _ h1 (n1 h0) (n2 h0),h2,h3.imp id fun⟨c,e,hc⟩=>⟨c,e,BH _ _ hc (fun z=>by rw[z,h31] at hc;exact codeX_ne (pV hc).symm) fun z=>by rw[z,h32] at hc;cases hc⟩⟩
 have ltBB:=BLam ltB3 (by obtain⟨tp,h1,_⟩:=ltB;rw[h1];exact fun z=>nomatch z)
 have ltNB:=BLam ltN3 (by obtain⟨tp,h1,_⟩:=ltN;rw[h1];exact fun z=>nomatch z)
 have ltPB:zah B (ad 50) zqh qlP:=by
  obtain⟨tp,h1,h2,h3⟩:=ltP;exact⟨tp,BH _ _ (st3 _ _ T.tne01.symm T.tne12 (g02 _ _ h1)) (za7 h1 hd1) (za7 (g1 _ _ h1) hd2),h2,h3.imp id fun⟨c,e,hc⟩=>⟨c,e,BH _ _ (st3 _ _ (ltB2.ne (g02 _ _ hc) fun _ z=>nomatch z) (ltN2.ne (g02 _ _ hc) fun _ z=>nomatch z) (g02 _ _ hc)) (za7 hc hd1) (za7 (g1 _ _ hc) hd2)⟩⟩
 have hDB:=BL hD3;have hzB:LR (SpZ ss ps) B zs os:=⟨hz.1,fun j v z=>by
  obtain⟨p,d,e,f,a,b1,b2,b3,ns,h1,h2,h4,h5,h6,h7,h8⟩:=hz.2 j v z;exact⟨p,d,e,f,a,b1,b2,b3,ns,BT h1,⟨BT h2.1,h2.2⟩,h4,h5,BL h6,BL h7,BL h8⟩⟩
 refine⟨D,rfl,⟨_,.of hD3⟩,?_⟩;refine zbh (K:=K) (a:=D) (xs:=zs) (fun k σ H'=>∃(kvs:List N3)(kws:List (Key×V))(o3 o4 o5 o6 o7:Option V),σ=[some (.ref l),some (.ref d1),some (.ref d2),o3,o4,o5,o6,o7]/\PI P w ss ps B d1 d2 (80*k) kvs kws H'/\RIs ss ps (os.take k) kws B)
  ⟨[],[],none,none,none,none,none,rfl,⟨BS,h31,(fun p hp=>by cases hp),AD,(fun e he=>by cases he),pG _,h32,pG _⟩,fun i q _ hm=>by rw[uG] at hm;cases hm⟩ (fun k σ H' _ iv=>?_) ?_ ?_
 ·obtain⟨kvs,kws,_,_,_,_,_,_,I,_⟩:=iv;exact .of (I.fr _ _ hDB)
 ·intro _ _;rintro k v σ H4 hk ⟨kvs,kws,o3,o4,o5,o6,o7,rfl,I,R⟩;obtain⟨p,q,rfl,hq,a,b1,b2,b3,ns,hp,ha,ln,hns,hb1,hb2,hb3⟩:=hzB.2 k v hk;have hp4:=I.fr _ _ hp;have hb24:=I.fr _ _ hb2;have hb34:=I.fr _ _ hb3;have m1:∀i,i∈ns.filter (fun k=>decide ((ss.getD k zQ).1=q))↔LyT ss ps q i/\(ss.getD i zQ).1=q:=fun i=>by rw[ue,hns,decide_eq_true_iff]
  have m2:∀i,i∈ns.filter (fun k=>decide ((ss.getD k zQ).1≠q/\(ss.getD k zQ).2≠q))↔LyT ss ps q i/\(ss.getD i zQ).1≠q/\(ss.getD i zQ).2≠q:=fun i=>by rw[ue,hns,decide_eq_true_iff]
  have m3:∀i,i∈ns.filter (fun k=>decide ((ss.getD k zQ).2=q))↔LyT ss ps q i/\(ss.getD i zQ).2=q:=fun i=>by rw[ue,hns,decide_eq_true_iff]
  have l1:=Qd (fun k=>decide ((ss.getD k zQ).1=q)) ns;have l2:=Qd (fun k=>decide ((ss.getD k zQ).1≠q/\(ss.getD k zQ).2≠q)) ns;have l3:=Qd (fun k=>decide ((ss.getD k zQ).2=q)) ns;generalize ns.filter (fun k=>decide ((ss.getD k zQ).1=q))=A1 at*;generalize ns.filter (fun k=>decide ((ss.getD k zQ).1≠q/\(ss.getD k zQ).2≠q))=A2 at*;generalize ns.filter (fun k=>decide ((ss.getD k zQ).2=q))=A3 at*;simp! [hp4];refine zbo ?_;simp! [zcm,zr2,rCat,hb24,hb34];refine⟨by rw[zc1,zc1];exact ud (small1000 (by omega)),fun r1 hr1=>?_⟩
  rw[←zhd];refine⟨(A2++A3).map fun i:Nat=>(i:Int),by unfold natV;rw[QV];rfl,by rw[kP,kO];omega,fun D2 ms hD2 pm _=>?_⟩
  have mm:∀z,z∈ms->∃i:Nat,z=(i:Int)/\LyT ss ps q i/\(ss.getD i zQ).1≠q:=fun z hz=>by
   obtain⟨i,hi,rfl⟩:=pd.mp (pm.mem_iff.mp hz);rcases kY.mp hi with hi|hi
   ·exact⟨i,rfl,((m2 i).mp hi).1,((m2 i).mp hi).2.1⟩
   ·obtain⟨h1,h2⟩:=(m3 i).mp hi;refine⟨i,rfl,h1,fun z=>?_⟩;have:=(TT.ok _ (zba (TT.lies h1).1)).2.2;rw[z,h2,zdp] at this
    cases this
  have lms:ms.length<=26:=by
   rw[pm.length_eq,kP,kO];omega
  have I5:=I.same (za4 hr1 (HO.lst (natV (A2++A3))));generalize upd H4 r1 (HO.lst (natV (A2++A3)))=H5 at*;have J:=I5.more (o:=HO.lst (ms.map V.int)) hD2;have BS2:=za4 (I5.fr.free hD2) (HO.lst (ms.map V.int));have eD2:upd B D2 (HO.lst (ms.map V.int)) D2=some (HO.lst (ms.map V.int)):=upd_same;have B21:upd B D2 (HO.lst (ms.map V.int)) d1=none:=by rw[za8 (za7 I5.own hD2)];exact Bd1
  generalize upd B D2 (HO.lst (ms.map V.int))=B2 at*;generalize upd H5 D2 (HO.lst (ms.map V.int))=H6 at*;refine⟨⟨_,.of (J.fr _ _ eD2)⟩,?_⟩;refine zbh (K:=K) (a:=D2) (xs:=ms.map V.int) (fun j σ H'=>∃(kvs:List N3)(o7:Option V),σ=[some (.ref l),some (.ref d1),some (.ref d2),some (.ref a),some (.ref b1),some (.ref b2),some (.ref b3),o7]/\PI P w ss ps B2 d1 d2 (80*k+2*j) kvs kws H') ⟨kvs,o7,rfl,J⟩ (fun j σ H' _ iv=>by
   obtain⟨_,_,_,J'⟩:=iv;exact .of (J'.fr _ _ eD2)) ?_ ?_
  ·intro _ _;rintro j v σ H7 hj ⟨kv7,o8,rfl,I7⟩;rw[kj] at hj;obtain⟨z,hz',rfl⟩:=ut.mp hj;obtain⟨i,rfl,lq,n1⟩:=mm z (kZ hz');have hjl:=(kF.mp hz').1;obtain⟨p',ap,pc,hv,hap⟩:=piece_of TT pw ho hq lq n1 R;have hap7:=(hap.same BS2).same I7.fr;have ha7:=(ha.same BS2).same I7.fr;simp! [tNSd,zhn,rSDN];have hkl:=(kF.mp hk).1;refine⟨⟨_,I7.own⟩,.ref ap,by rw[←hv];exact DGet.k (k:=Uk (i:Int)) I7.rea,fun t ht c hc=>?_⟩
   have s1:=za4 ht (HO.tup [V.ref ap,V.ref a]);have et:upd H7 t (HO.tup [V.ref ap,V.ref a]) t=some (HO.tup [V.ref ap,V.ref a]):=upd_same;generalize upd H7 t (HO.tup [V.ref ap,V.ref a])=H8 at*;have s2:=za4 hc (HO.lst []);have ec:upd H8 c (HO.lst []) c=some (HO.lst []):=upd_same;have hcB:=(I7.same s1).fr.free hc;have I9:=I7.same (s1.trans s2);have et9:=s2 _ _ et;generalize upd H8 c (HO.lst [])=H9 at*;have nk:NK H9 t [kQ p',kQ q]:=NK.two et9 ((s1.trans s2) _ _ hap7.1) ((s1.trans s2) _ _ ha7.1);have ln9:=I9.len;refine⟨kv7,I9.own,I9.kn,[kQ p',kQ q],nk,small10k (by omega),fun v hv9=>?_,fun hv9=>?_⟩
   ·obtain⟨e,he,e1',e2'⟩:=zpg hv9;obtain⟨f,c',us,_,_,h3,h4,h5,h6⟩:=I9.key e he;rw[h3] at e2';subst e2';exact⟨zff h5,c',rfl,us,h5,small10k (by omega),kv7,(I9.app h5 h4 h6).le (by omega)⟩
   ·have I10:=I9.put B21 (f:=(p',q)) pc hv9 nk ec hcB (pG _);have nc:c≠d1:=fun z=>by
     have:=I9.own;rw[←z,ec] at this
     cases this
    have ec10:upd H9 d1 (nD P w d1 (putN kv7 [kQ p',kQ q] t (V.ref c))) c=some (HO.lst []):=by rw[za8 nc];exact ec
    exact⟨zff ec10,[],ec10,small10k (by decide),_,(I10.app ec10 hcB (pG _)).le (by omega)⟩
  ·rintro σ H7 ⟨kv7,o8,rfl,I7⟩;rw[kP] at I7;have J7:=I7.less BS2;have hb17:=J7.fr _ _ hb1;have hb27:=J7.fr _ _ hb2;have hkl:=(kF.mp hk).1;simp! [];refine zbo ?_;simp! [zcm,rCat,hb17,hb27];refine⟨by rw[zc1,zc1];exact ud (small1000 (by omega)),fun r2 hr2=>?_⟩
   rw[←zhd];have J8:=J7.more (o:=HO.lst (natV (A1++A2))) hr2;have BS3:=za4 (J7.fr.free hr2) (HO.lst (natV (A1++A2)));have eD3:upd B r2 (HO.lst (natV (A1++A2))) r2=some (HO.lst (natV (A1++A2))):=upd_same;have B32:upd B r2 (HO.lst (natV (A1++A2))) d2=none:=by rw[za8 (za7 J7.rea hr2)];exact Bd2
   generalize upd B r2 (HO.lst (natV (A1++A2)))=B3 at*;generalize upd H7 r2 (HO.lst (natV (A1++A2)))=H8 at*;have la:(A1++A2).length<=26:=by rw[kO];omega
   refine⟨⟨_,.of (J8.fr _ _ eD3)⟩,?_⟩;refine zbh (K:=K) (a:=r2) (xs:=natV (A1++A2)) (fun j σ H'=>∃(kw':List (Key×V))(o7:Option V),σ=[some (.ref l),some (.ref d1),some (.ref d2),some (.ref a),some (.ref b1),some (.ref b2),some (.ref b3),o7]/\PI P w ss ps B3 d1 d2 (80*k+52+j) kv7 kw' H'/\∀i:Nat,valV kw' (.inl (i:Int))=if i∈(A1++A2).take j then some (.ref a) else valV kws (.inl (i:Int))) ⟨kws,o8,rfl,J8.le (by omega),fun i=>by rw[uG,if_neg (fun z=>by cases z)]⟩ (fun j σ H' _ iv=>by
    obtain⟨_,_,_,J',_⟩:=iv;exact .of (J'.fr _ _ eD3)) ?_ ?_
   ·intro _ _;rintro j v σ H9 hj ⟨kw9,o9,rfl,I9,hv9⟩;obtain⟨i,hi,rfl⟩:=zft hj;have hjl:=(kF.mp hi).1;have kl9:=I9.kl;simp! [sDPut];refine⟨_,DPut.k (k:=Uk (i:Int)) I9.rea (small10k (by omega)),_,I9.rput B32 _ _,fun i'=>?_⟩
    rw[zej,pi,hi,hv9 i']
    by_cases e:i'=i
    ·subst e;rw[if_pos rfl,if_pos (kN _ (by simp))]
    ·rw[if_neg (fun z=>e (by cases z;rfl))]
     by_cases m:i'∈(A1++A2).take j
     ·rw[if_pos m,if_pos (pR _ m)]
     ·rw[if_neg m,if_neg (fun z=>by
       rcases kY.mp z with z|z
       ·exact m z
       ·exact e (by simpa using z))]
   ·rintro σ H9 ⟨kw9,o9,rfl,I9,hv9⟩;rw[zc1] at I9 hv9;rw[uM] at hv9;simp! []
    refine⟨kv7,kw9,(I9.less BS3).le (by omega),RIs.next TT pw hq ha (bt:=A1++A2) (fun i=>?_) hv9 R⟩
    rw[kY,m1,m2]
    constructor
    ·rintro(⟨h1,h2⟩|⟨h1,_,h2⟩)
     ·refine⟨h1,fun z=>?_⟩;have:=(TT.ok _ (zba (TT.lies h1).1)).2.2;rw[z,h2,zdp] at this
      cases this
     ·exact⟨h1,h2⟩
    ·rintro⟨h1,h2⟩
     by_cases z:(ss.getD i zQ).1=q
     ·exact .inl ⟨h1,z⟩
     ·exact .inr ⟨h1,z,h2⟩
 ·rintro σ H4 ⟨kvs,kws,o3,o4,o5,o6,o7,rfl,I,R⟩;simp! [];refine zb9 ?_;simp! [zcm,rListN];refine⟨kvs,I.own,fun L hL=>?_⟩;obtain⟨fs,ek,hfs⟩:=I.keys;have s1:=za4 hL (HO.lst (kvs.map fun p=>V.ref p.2.1));have eL:upd H4 L (HO.lst (kvs.map fun p=>V.ref p.2.1)) L=some (HO.lst (kvs.map fun p=>V.ref p.2.1)):=upd_same;have I5:=I.same s1;generalize upd H4 L (HO.lst (kvs.map fun p=>V.ref p.2.1))=H5 at*;have lf:kvs.length=fs.length:=by have:=congrArg vH ek;simpa using this
  have ndf:fs.Nodup:=by
   have:=I.nd;rw[ek] at this;exact(vf.mp this).imp fun h z=>h (by rw[z])
  have hLR:LR S2H H5 (kvs.map fun p=>V.ref p.2.1) fs:=by
   refine⟨by rw[kP,lf],fun j v z=>?_⟩
   rw[kj] at z;obtain⟨e,he,rfl⟩:=ut.mp z;have hj:j<fs.length:=by rw[←lf];exact(kF.mp he).1
   have ej:=congrArg (fun l=>l[j]?) ek;simp only[kj,he,kK hj,uU,Qa] at ej;obtain⟨cs,h1,h2⟩:=I5.kn e (kZ he);rw[ej] at h2
   cases h2 with
   |cons x1 h2=>cases h2 with
    |cons x2 h2=>cases h2 with
     |nil=>
      obtain⟨i,y1,y2,_⟩:=hfs _ (vA hj);exact⟨_,fs[j],rfl,kK hj,_,_,h1,⟨x1,(TT.lies y1).2.1⟩,⟨x2,(TT.lies y2).2.1⟩⟩
  have lk:=I.len;have ltP5:=ltPB.same I5.fr;refine⟨L,_,fs,rfl,eL,by rw[kP];omega,hLR,ltP5,fun D1 zs' fs' H6 hD1 st6 lt6 hD6 hz6 pm=>?_⟩
  have h61:H6 d1=some (nD P w d1 kvs):=st6 _ _ (ltP5.ne I5.own fun _ z=>nomatch z) I5.own;have kn6:KN H6 kvs:=I5.kn.ts fun b xs h=>st6.tup ltP5 h;have lz':zs'.length<=9000:=by
   rw[hz6.1,pm.length_eq];omega
  refine⟨D1,rfl,⟨_,.of hD6⟩,fun D' hD'=>?_⟩;refine zax (xs:=zs') (zrh RwH fs' H6 D') (zku hD') (fun i us H' q=>.of (q.1 _ _ hD6)) ?_ ?_
  ·rintro i us H7 v hi hv iv;obtain⟨g7,_,lu,_⟩:=id iv;obtain⟨b,f,rfl,hf,hbf⟩:=hz6.2 i v hv;have hb7:=zgl _ _ _ _ (zaf g7) hbf;obtain⟨c1,c2,h1,h2,h3⟩:=id hb7;have hm:f∈fs:=pm.mem_iff.mp (kZ hf);have hs':(valN kvs [kQ f.1,kQ f.2]).isSome=true:=zmc.mpr (by rw[ek];exact pd.mpr ⟨f,hm,rfl⟩)
   obtain⟨u,hu⟩:=vx.mp hs';simp! [tNGet];refine⟨kvs,g7 _ _ h61,kn6.ts (zaf g7),[kQ f.1,kQ f.2],NK.two (k:=kQ f.1) (l:=kQ f.2) h1 h2.1 h3.1,u,hu,fun t ht=>?_⟩;have g8:=za4 ht (HO.tup [V.ref b,u]);exact zkv rw_ts hD' (by omega) iv hi hf g8 ⟨b,u,upd_same,zgl _ _ _ _ (zaf g8) hb7⟩
  ·rintro us H7 ⟨g7,hD7,lu,hu⟩;rw[pH (UF hz6.1.symm)] at hu;exact k D' us fs' ps g H7 (fun b o n1 n2 n3 h=>g7 _ _ (st6 _ _ n2 (I5.fr _ _ (BR h n1 n3)))) ((zg0 (ltBB.same I5.fr) ltP5 T.tne01 st6).same g7) (lt6.same g7) ((zg0 (ltNB.same I5.fr) ltP5 T.tne12.symm st6).same g7) hD7 (by omega) hu (pm.nodup_iff.mpr ndf) TT fun f hf=>hfs f (pm.mem_iff.mp hf)
def s6(e:Q3×Q3):S6:=⟨e.1.x,e.1.y,e.1.w,e.2.x,e.2.y,e.2.w⟩
def vB(m:Q3)(e:Q3×Q3):Bool:=abv m.x m.y m.w (s6 e)
def loE(e:Q3×Q3):Q3×Q3:=if e.2.y*e.1.w<e.1.y*e.2.w then(e.2,e.1) else e
def hB(m:Q3)(e:Q3×Q3):Bool:= !decide (m.y*(loE e).1.w<(loE e).1.y*m.w)&&(decide (m.y*(loE e).2.w<(loE e).2.y*m.w)&&decide (0<dt (loE e).1 (loE e).2 m))
def oB(m:Q3)(e:Q3×Q3):Bool:=on3 e.1 e.2 m
def eB(m:Q3)(e:Q3×Q3):Bool:= !decide (0<dX m e.1)&&decide (0<dX m e.2)&& !decide (0<dY m e.1)&&decide (0<dY m e.2)&& !decide (dt e.1 e.2 m<0)&& !decide (0<dt e.1 e.2 m)
def qB(m a:Q3):Bool:=decide (0<dX m a)&&decide (0<dY m a)
theorem dX_pos{m a:Q3}:0<dX m a↔m.x*a.w<a.x*m.w:=by unfold dX;omega
theorem dY_pos{m a:Q3}:0<dY m a↔m.y*a.w<a.y*m.w:=by unfold dY;omega
theorem v_eq(m:Q3)(e:Q3×Q3):vB m e=(!decide (0<dX m e.1)&&decide (0<dX m e.2)&&decide (dt e.1 e.2 m<0)):=by
 unfold vB abv zl0 s6 dt;simp only[dX_pos]
 by_cases h:m.x*e.1.w<e.1.x*m.w
 ·simp[h]
 ·simp[h]
theorem h_eq(m:Q3)(e:Q3×Q3):hB m e=if decide (dY e.1 e.2<0)=true then(!decide (0<dY m e.2)&&decide (0<dY m e.1)&&decide (dt e.1 e.2 m<0)) else(!decide (0<dY m e.1)&&decide (0<dY m e.2)&&decide (0<dt e.1 e.2 m)):=by
 unfold hB loE;simp only[dY_pos];have hy:dY e.1 e.2<0↔e.2.y*e.1.w<e.1.y*e.2.w:=by unfold dY;omega
 by_cases h:e.2.y*e.1.w<e.1.y*e.2.w
 ·rw[if_pos h,if_pos (decide_eq_true (hy.mpr h))];have:(0<dt e.2 e.1 m)↔dt e.1 e.2 m<0:=by rw[dt_swap];omega
  simp only[this,EF]
 ·rw[if_neg h,if_neg (by simpa using fun z=>h (hy.mp z)),EF]
theorem par_b:∀a1 a2 b1 b2 n p y:Bool,((n&&p)||((a1&& !b1)||((!a2&&b2&&y)||((!b2&&a2&& !y)||((!a1&&b1&&a2&&b2&& !n)||((!a1&&b1&& !a2&& !b2&&n)||((!a1&& !b1&& !b2&&a2&&n)||((!a1&& !b1&& !a2&&b2&&p)||((a1&&b1&& !a2&&b2&& !p)||((a1&&b1&& !b2&&a2&& !n)||
  (((!a1&&b1&&n).toNat+(if y=true then(!b2&&a2&&n) else(!a2&&b2&&p)).toNat+(!a1&&b1&& !a2&&b2&& !n&& !p).toNat+(a1&&a2).toNat+(b1&&b2).toNat)%2==0)))))))))))=true:=by decide
theorem par_bool{a1 a2 b1 b2 n p y:Bool}(h1:(n&&p)=false)(h2:(a1&& !b1)=false)(h3:(!a2&&b2&&y)=false)(h4:(!b2&&a2&& !y)=false)(h5:(!a1&&b1&&a2&&b2&& !n)=false)(h6:(!a1&&b1&& !a2&& !b2&&n)=false)(h7:(!a1&& !b1&& !b2&&a2&&n)=false)(h8:(!a1&& !b1&& !a2&&b2&&p)=false)(h9:(a1&&b1&& !a2&&b2&& !p)=false)(h10:(a1&&b1&& !b2&&a2&& !n)=false):
  ((!a1&&b1&&n).toNat+(if y=true then(!b2&&a2&&n) else(!a2&&b2&&p)).toNat+(!a1&&b1&& !a2&&b2&& !n&& !p).toNat+(a1&&a2).toNat+(b1&&b2).toNat)%2=0:=by
 have t:=par_b a1 a2 b1 b2 n p y;rw[h1,h2,h3,h4,h5,h6,h7,h8,h9,h10] at t;simp only[EJ] at t;exact pE t
theorem psg(a b:Int):(0<a->0<b->0<a*b)/\(a<=0->b<=0->0<=a*b)/\(a<=0->0<b->a*b<=0)/\(0<a->b<=0->a*b<=0):=by
 refine⟨uw,fun h1 h2=>Int.mul_nonneg_of_nonpos_of_nonpos h1 h2,fun h1 h2=>?_,fun h1 h2=>?_⟩
 ·exact UY h1 (uI h2)
 ·exact jP (uI h1) h2
theorem zso{W D z:Int}(hW:0<W)(h:W*D=z):(z<0->D<0)/\(0<z->0<D)/\(0<=z->0<=D)/\(z<=0->D<=0):=by
 have h1:=zjr (k:=W) (z:=D) hW;rw[h] at h1;rcases zbe z with⟨a,b⟩|⟨a,b⟩|⟨a,b⟩<;>rcases zbe D with⟨c,d⟩|⟨c,d⟩|⟨c,d⟩<;>omega
theorem edge{m:Q3}{e:Q3×Q3}(hm:0<m.w)(h1:0<e.1.w)(h2:0<e.2.w)(hx:0<=dX e.1 e.2):((vB m e).toNat+(hB m e).toNat+(eB m e).toNat+(qB m e.1).toNat+(qB m e.2).toNat)%2=0:=by
 have hD:m.w*dt e.1 e.2 m=dX m e.1*dY m e.2-dY m e.1*dX m e.2:=by unfold dt dX dY det3 lnA lnB lnC;grind
 have hX:m.w*dX e.1 e.2=e.1.w*dX m e.2-e.2.w*dX m e.1:=by unfold dX;grind
 have hY:m.w*dY e.1 e.2=e.1.w*dY m e.2-e.2.w*dY m e.1:=by unfold dY;grind
 rw[v_eq,h_eq];unfold eB qB;have d1:=zso hm hD;have d2:=zso hm hX;have d3:=zso hm hY;have a1:=psg (dX m e.1) (dY m e.2);have a2:=psg (dY m e.1) (dX m e.2);have a3:=psg e.1.w (dX m e.2);have a4:=psg e.2.w (dX m e.1);have a5:=psg e.1.w (dY m e.2);have a6:=psg e.2.w (dY m e.1);clear hD hX hY;generalize dX m e.1*dY m e.2=p at*;generalize dY m e.1*dX m e.2=q at*;generalize e.1.w*dX m e.2=r at*;generalize e.2.w*dX m e.1=s at*;generalize e.1.w*dY m e.2=t at*;generalize e.2.w*dY m e.1=u at*;generalize dX e.1 e.2=X at*;generalize dY e.1 e.2=Y at*;generalize dt e.1 e.2 m=D at*;generalize dX m e.1=ax at*;generalize dX m e.2=bx at*;generalize dY m e.1=ay at*;generalize dY m e.2=by_ at*;have nn:∀{b:Bool},¬b=true->b=false:=fun{b} h=>by cases b;rfl;exact absurd rfl h
 refine par_bool (nn ?_) (nn ?_) (nn ?_) (nn ?_) (nn ?_) (nn ?_) (nn ?_) (nn ?_) (nn ?_) (nn ?_)<;>simp only[vF,Qx,decide_eq_true_eq,decide_eq_false_iff_not,UT]
 ·rintro⟨z1,z2⟩;exact Ed z1 z2
 ·rintro⟨z1,z2⟩;have k1:=a3.2.2.2 h1 z2;have k2:=a4.1 h2 z1;exact absurd (d2.1 (by clear a1 a2 a3 a4 a5 a6 d1 d2 d3;omega)) (UT.mpr hx)
 ·rintro⟨⟨z1,z2⟩,z3⟩;have k1:=a5.1 h1 z2;have k2:=a6.2.2.2 h2 z1;exact Ed z3 (d3.2.1 (by clear a1 a2 a3 a4 a5 a6 d1 d2 d3;omega))
 ·rintro⟨⟨z1,z2⟩,z3⟩;have k1:=a5.2.2.2 h1 z1;have k2:=a6.1 h2 z2;exact absurd (d3.1 (by clear a1 a2 a3 a4 a5 a6 d1 d2 d3;omega)) (UT.mpr z3)
 ·rintro⟨⟨⟨⟨z1,z2⟩,z3⟩,z4⟩,z5⟩;have k1:=a1.2.2.1 z1 z4;have k2:=a2.1 z3 z2;exact absurd (d1.1 (by clear a1 a2 a3 a4 a5 a6 d1 d2 d3;omega)) (UT.mpr z5)
 ·rintro⟨⟨⟨⟨z1,z2⟩,z3⟩,z4⟩,z5⟩;have k1:=a1.2.1 z1 z4;have k2:=a2.2.2.1 z3 z2;exact absurd z5 (UT.mpr (d1.2.2.1 (by clear a1 a2 a3 a4 a5 a6 d1 d2 d3;omega)))
 ·rintro⟨⟨⟨⟨z1,z2⟩,z3⟩,z4⟩,z5⟩;have k1:=a1.2.1 z1 z3;have k2:=a2.2.2.2 z4 z2;exact absurd z5 (UT.mpr (d1.2.2.1 (by clear a1 a2 a3 a4 a5 a6 d1 d2 d3;omega)))
 ·rintro⟨⟨⟨⟨z1,z2⟩,z3⟩,z4⟩,z5⟩;have k1:=a1.2.2.1 z1 z4;have k2:=a2.2.1 z3 z2;exact absurd z5 (UT.mpr (d1.2.2.2 (by clear a1 a2 a3 a4 a5 a6 d1 d2 d3;omega)))
 ·rintro⟨⟨⟨⟨z1,z2⟩,z3⟩,z4⟩,z5⟩;have k1:=a1.1 z1 z4;have k2:=a2.2.2.1 z3 z2;exact absurd (d1.2.1 (by clear a1 a2 a3 a4 a5 a6 d1 d2 d3;omega)) (UT.mpr z5)
 ·rintro⟨⟨⟨⟨z1,z2⟩,z3⟩,z4⟩,z5⟩;have k1:=a1.2.2.2 z1 z3;have k2:=a2.1 z4 z2;exact absurd (d1.1 (by clear a1 a2 a3 a4 a5 a6 d1 d2 d3;omega)) (UT.mpr z5)
theorem bq_dX{a b:Q3}(h:bq a b=true):0<=dX a b/\(dX a b=0->0<dY a b):=by
 unfold bq at h;rw[zcg] at h;unfold dX dY;omega
def cnt(p:Q3×Q3->Bool)(l:List (Q3×Q3)):Nat:=(l.filter p).length
theorem zfx(p:Q3×Q3->Bool)(l l':List (Q3×Q3)):cnt p (l++l')=cnt p l+cnt p l':=by unfold cnt;rw[Cd,kO]
theorem zj0(p:Q3×Q3->Bool)(e:Q3×Q3):cnt p [e]=(p e).toNat:=by
 unfold cnt;rw[Ax]
 cases p e<;>rfl
theorem zec{p q:Q3×Q3->Bool}{l:List (Q3×Q3)}(h:∀e,e∈l->p e=q e):cnt p l=cnt q l:=by
 unfold cnt;rw[List.filter_congr h]
theorem cnt_none{p:Q3×Q3->Bool}{l:List (Q3×Q3)}(h:∀e,e∈l->p e=false):cnt p l=0:=by
 unfold cnt;rw[List.filter_eq_nil_iff.mpr fun e he=>by rw[h e he];decide]
 rfl
def ordE(p q:Q3):Q3×Q3:=if bq p q=true then(p,q) else(q,p)
def sdq(p q:Q3):List (Q3×Q3):=if p=q then[] else[ordE p q]
def z3:Q3:=⟨0,0,1⟩
def sdK(r:List Q3)(k:Nat):List (Q3×Q3):=sdq (r.getD k z3) (r.getD ((k+1)%r.length) z3)
def sdR(r:List Q3)(j:Nat):List (Q3×Q3):=(QL j).flatMap (sdK r)
def sdA(rs:List (List Q3)):List (Q3×Q3):=rs.flatMap fun r=>sdR r r.length
theorem zml(r:List Q3)(j:Nat):sdR r (j+1)=sdR r j++sdK r j:=by
 unfold sdR;rw[Dh,CJ]
 simp
theorem zqd{n:Nat}{p q:Q3}(hp:PQ n p)(hq:PQ n q)(ne:p≠q):PQ n (ordE p q).1/\PQ n (ordE p q).2/\bq (ordE p q).1 (ordE p q).2=true:=by
 unfold ordE
 by_cases h:bq p q=true
 ·rw[if_pos h];exact⟨hp,hq,h⟩
 ·rw[if_neg h];refine⟨hq,hp,?_⟩
  cases z:bq q p with
  |true=>rfl
  |false=>exact absurd (zge hp hq h (by rw[z];decide)) ne
def crs(m:Q3)(l:List (Q3×Q3)):Nat:=cnt (vB m) l+cnt (hB m) l+cnt (eB m) l
theorem side_par{n:Nat}{m:Q3}(hm:0<m.w){p q:Q3}(hp:PQ n p)(hq:PQ n q):(crs m (sdq p q)+(qB m p).toNat+(qB m q).toNat)%2=0:=by
 unfold crs sdq
 by_cases h:p=q
 ·rw[if_pos h,h];show(0+0+0+(qB m q).toNat+(qB m q).toNat)%2=0;omega
 ·rw[if_neg h,zj0,zj0,zj0];obtain⟨h1,h2,h3⟩:=zqd hp hq h;have e:=edge hm h1.pos h2.pos (bq_dX h3).1;unfold ordE at*
  by_cases z:bq p q=true
  ·rw[if_pos z] at e⊢;exact e
  ·rw[if_neg z] at e⊢;have e':_%2=0:=e;dsimp only at e';omega
theorem zma{n:Nat}{m:Q3}(hm:0<m.w){r:List Q3}(hr:∀k,k<r.length->PQ n (r.getD k z3)):∀j,j<=r.length->(crs m (sdR r j)+(qB m (r.getD 0 z3)).toNat+(qB m (r.getD (j%r.length) z3)).toNat)%2=0
 |0,_=>by
  rw[Nat.zero_mod];show(0+0+0+(qB m (r.getD 0 z3)).toNat+(qB m (r.getD 0 z3)).toNat)%2=0;omega
 |j+1,hj=>by
  have ih:=zma hm hr j (by omega)
  rw[Nat.mod_eq_of_lt (show j<r.length by omega)] at ih
  have s:=side_par hm (hr j (by omega)) (hr ((j+1)%r.length) (Nat.mod_lt _ (by omega)))
  have e:crs m (sdR r (j+1))=crs m (sdR r j)+crs m (sdK r j):=by
   rw[zml];unfold crs;rw[zfx,zfx,zfx];omega
  unfold sdK at e;omega
theorem zkp{n:Nat}{m:Q3}(hm:0<m.w):∀{rs:List (List Q3)},(∀r,r∈rs->∀k,k<r.length->PQ n (r.getD k z3))->crs m (sdA rs)%2=0
 |[],_=>rfl
 |r::rs,h=>by
  have i1:=zkp hm fun r' hr'=>h r' (pB _ hr');have i2:=zma hm (h r pD) r.length (kM _);rw[Nat.mod_self] at i2;have e:crs m (sdA (r::rs))=crs m (sdR r r.length)+crs m (sdA rs):=by
   unfold sdA;rw[DB];unfold crs;rw[zfx,zfx,zfx];omega
  omega
theorem lt_sc{h a b:Int}(hh:0<h):h*a<h*b↔a<b:=⟨fun z=>AS z (uI hh),fun z=>Int.mul_lt_mul_of_pos_left z hh⟩
theorem eq_sc{h a b:Int}(hh:0<h):h*a=h*b↔a=b:=⟨fun z=>Ud (by omega) z,fun z=>by rw[z]⟩
structure Mul(h:Int)(M m:Q3):Prop where
 pos:0<h
 x:M.x=h*m.x
 y:M.y=h*m.y
 w:M.w=h*m.w
section
variable{h:Int}{M m:Q3}
theorem Mul.dt(s:Mul h M m)(a b:Q3):dt a b M=h*dt a b m:=by unfold My.dt det3;rw[s.x,s.y,s.w];grind
theorem Mul.dX(s:Mul h M m)(a:Q3):dX M a=h*dX m a:=by unfold My.dX;rw[s.x,s.w];grind
theorem Mul.dY(s:Mul h M m)(a:Q3):dY M a=h*dY m a:=by unfold My.dY;rw[s.y,s.w];grind
theorem Mul.lt(s:Mul h M m){z:Int}:(0<h*z↔0<z)/\(h*z<0↔z<0):=by
 have a:=lt_sc (h:=h) (a:=0) (b:=z) s.pos;have b:=lt_sc (h:=h) (a:=z) (b:=0) s.pos;rw[UH] at a b;exact⟨a,b⟩
theorem Mul.vB(s:Mul h M m)(e:Q3×Q3):vB M e=vB m e:=by
 rw[v_eq,v_eq,s.dX,s.dX,s.dt];simp only[s.lt.1,s.lt.2]
theorem Mul.hB(s:Mul h M m)(e:Q3×Q3):hB M e=hB m e:=by
 rw[h_eq,h_eq,s.dY,s.dY,s.dt];simp only[s.lt.1,s.lt.2]
theorem Mul.bq(s:Mul h M m)(a:Q3):bq M a=bq m a/\bq a M=bq a m:=by
 have e1:M.x*a.w=h*(m.x*a.w):=by rw[s.x];grind
 have e2:a.x*M.w=h*(a.x*m.w):=by rw[s.w];grind
 have e3:M.y*a.w=h*(m.y*a.w):=by rw[s.y];grind
 have e4:a.y*M.w=h*(a.y*m.w):=by rw[s.w];grind
 unfold My.bq bef;rw[e1,e2,e3,e4];simp only[eq_sc s.pos,lt_sc s.pos]
 trivial
theorem Mul.oB(s:Mul h M m)(e:Q3×Q3):oB M e=oB m e:=by
 have d:sgn (det3 e.1.x e.1.y e.1.w e.2.x e.2.y e.2.w M.x M.y M.w)=sgn (det3 e.1.x e.1.y e.1.w e.2.x e.2.y e.2.w m.x m.y m.w):=by
  have:=s.dt e.1 e.2;unfold My.dt at this;rw[this,zjr s.pos]
 unfold Mine.oB on3 onB;rw[d];have b1:=(s.bq e.1).1;have b2:=(s.bq e.2).2;unfold My.bq at b1 b2;rw[b1,b2]
end
def midQ(f:Q3×Q3):Q3:=⟨f.1.x*f.2.w+f.2.x*f.1.w,f.1.y*f.2.w+f.2.y*f.1.w,2*f.1.w*f.2.w⟩
def midP(f:Q3×Q3):Q3:=⟨ptX (midQ f).x (midQ f).y (midQ f).w,ptY (midQ f).x (midQ f).y (midQ f).w,ptW (midQ f).x (midQ f).y (midQ f).w⟩
theorem zq9{f:Q3×Q3}(h1:0<f.1.w)(h2:0<f.2.w):0<(midQ f).w:=uw (uw (by decide) h1) h2
theorem zt8{f:Q3×Q3}(h1:PQ 700 f.1)(h2:PQ 700 f.2):Bd3 1402 (midQ f).x (midQ f).y (midQ f).w:=by
 obtain⟨_,_,a1,a2,a3⟩:=h1;obtain⟨_,_,b1,b2,b3⟩:=h2;have l2:(2*f.1.w).natAbs<2^(2+700):=zas (by decide) a3
 exact⟨zan (zrr (zas a1 b3) (zas b1 a3)) (by decide),zan (zrr (zas a2 b3) (zas b2 a3)) (by decide),zas l2 b3⟩
theorem zm0{f:Q3×Q3}(h1:0<f.1.w)(h2:0<f.2.w):Mul (fac3 (midQ f).x (midQ f).y (midQ f).w) (midQ f) (midP f):=by
 have hp:=zq9 h1 h2;have e:∀z:Int,((g3 (midQ f).x (midQ f).y (midQ f).w:Nat):Int) ∣ z->z=fac3 (midQ f).x (midQ f).y (midQ f).w*z.fdiv (fac3 (midQ f).x (midQ f).y (midQ f).w):=fun z hz=>by
  rw[uY];exact(zcl (zhg _ _ _ _ hz)).symm
 refine⟨?_,e _ (g3_da _ _ _),e _ (g3_db _ _ _),e _ (zqt _ _ _)⟩;rcases zi1 (x:=(midQ f).x) (y:=(midQ f).y) (w:=(midQ f).w) (by omega) with z|z<;>omega
theorem zsm{f:Q3×Q3}(h1:PQ 700 f.1)(h2:PQ 700 f.2):PQ 1402 (midP f):=by
 obtain⟨a,b,c⟩:=zt8 h1 h2;have:=zq9 h1.pos h2.pos;exact pt_mk (by omega) a b c
theorem mid_in{f:Q3×Q3}(h1:0<f.1.w)(h2:0<f.2.w)(h:bq f.1 f.2=true):bq f.1 (midQ f)=true/\bq (midQ f) f.2=true/\dt f.1 f.2 (midQ f)=0:=by
 unfold bq at*;rw[zcg] at*;have x1:(midQ f).x*f.1.w-f.1.x*(midQ f).w=f.1.w*(f.2.x*f.1.w-f.1.x*f.2.w):=by unfold midQ;grind
 have y1:(midQ f).y*f.1.w-f.1.y*(midQ f).w=f.1.w*(f.2.y*f.1.w-f.1.y*f.2.w):=by unfold midQ;grind
 have x2:f.2.x*(midQ f).w-(midQ f).x*f.2.w=f.2.w*(f.2.x*f.1.w-f.1.x*f.2.w):=by unfold midQ;grind
 have y2:f.2.y*(midQ f).w-(midQ f).y*f.2.w=f.2.w*(f.2.y*f.1.w-f.1.y*f.2.w):=by unfold midQ;grind
 have k:∀{a z:Int},0<a->0<z->0<a*z:=fun{a z} h h'=>uw h h';refine⟨?_,?_,by unfold dt det3 lnA lnB lnC midQ;grind⟩
 ·rcases h with h|⟨h,h'⟩
  ·have:=k h1 (show 0<f.2.x*f.1.w-f.1.x*f.2.w by omega)
   exact .inl (by omega)
  ·have:=k h1 (show 0<f.2.y*f.1.w-f.1.y*f.2.w by omega)
   rw[show f.2.x*f.1.w-f.1.x*f.2.w=0 by omega,UH] at x1
   exact .inr ⟨by omega,by omega⟩
 ·rw[zcg];rcases h with h|⟨h,h'⟩
  ·have:=k h2 (show 0<f.2.x*f.1.w-f.1.x*f.2.w by omega)
   exact .inl (by omega)
  ·have:=k h2 (show 0<f.2.y*f.1.w-f.1.y*f.2.w by omega)
   rw[show f.2.x*f.1.w-f.1.x*f.2.w=0 by omega,UH] at x2
   exact .inr ⟨by omega,by omega⟩
theorem cr_dt(a b c d:Q3):crW a b c d=c.w*dt a b d-d.w*dt a b c:=by unfold crW dt det3 lnA lnB lnC;grind
theorem cr_dir(a b c d:Q3):crW a b c d=dX a b*dY c d-dY a b*dX c d:=by unfold crW dX dY lnA lnB;grind
theorem Told.through{ss:List (Q3×Q3)}{ps:List (Nat×Nat)}{g:Int}(T:Told ss ps g){f:Q3×Q3}(hf:Pce ss ps f){e:Q3×Q3}(he:e∈ss)(ho:oB (midP f) e=true):dX f.1 f.2*dY e.1 e.2=dY f.1 f.2*dX e.1 e.2/\midP f≠e.2:=by
 obtain⟨i,a1,a2,a3,a4⟩:=hf;obtain⟨hi,p1,o1⟩:=T.lies a1;obtain⟨_,p2,o2⟩:=T.lies a2;obtain⟨s1,s2,s3⟩:=T.ok _ (zba hi);have mm:=zm0 p1.pos p2.pos;obtain⟨i1,i2,i3⟩:=mid_in p1.pos p2.pos a3;rw[(mm.bq _).2] at i1;rw[(mm.bq _).1] at i2;rw[mm.dt] at i3;have i0:dt f.1 f.2 (midP f)=0:=(pS.mp i3).resolve_left (by have:=mm.pos;omega)
 have pm:=zsm p1 p2;have up:∀{n:Nat}{z:Q3},n<=1402->PQ n z->PQ 1402 z:=fun{n z} hn h=>Pt.mono h hn;have oi:OnI ss (midP f) i:=zqs (up (by decide) s1) (up (by decide) s2) (up (by decide) p1) (up (by decide) p2) pm a3 o1 o2 i0 (zcv i1) (zcv i2)
 obtain⟨j,hj⟩:=pX.mp he;have hjl:=(kF.mp hj).1;have ej:ss.getD j zQ=e:=by rw[kD,hj];rfl
 have oj:OnI ss (midP f) j:=by unfold OnI;rw[ej];exact ho
 constructor
 ·have c:CrI ss i j=0:=by
   by_cases c:CrI ss i j=0
   ·exact c
   ·exact(a4 _ (T.cross (m:=1402) (by decide) hi hjl pm oi oj c) i1 i2).elim
  unfold CrI at c;rw[ej] at c;have z1:crW (ss.getD i zQ).1 (ss.getD i zQ).2 f.1 f.2=0:=by
   rw[cr_dt,(zcp o1).1,(zcp o2).1];omega
  have:=cr_par s3 z1 c;rw[cr_dir] at this;omega
 ·intro z;exact a4 _ (T.ends hi (zfn.mpr ⟨hjl,.inr (by rw[ej];exact z)⟩) oi) i1 i2
theorem dir_a{W c d ax ay bx by_ D X Y:Int}(hW:0<W)(hD:W*D=ax*by_-ay*bx)(hX:W*X=c*bx-d*ax)(hY:W*Y=c*by_-d*ay)(h0:D=0):ax*Y=ay*X/\bx*Y=by_*X:=by
 have e:ax*by_-ay*bx=0:=by rw[←hD,h0,UH]
 constructor
 ·refine Ud (a:=W) (by omega) ?_
  have:W*(ax*Y)-W*(ay*X)=c*(ax*by_-ay*bx):=by
   have h1:W*(ax*Y)=ax*(W*Y):=by grind
   have h2:W*(ay*X)=ay*(W*X):=by grind
   rw[h1,h2,hX,hY];grind
  rw[e,UH] at this;omega
 ·refine Ud (a:=W) (by omega) ?_
  have:W*(bx*Y)-W*(by_*X)=d*(ax*by_-ay*bx):=by
   have h1:W*(bx*Y)=bx*(W*Y):=by grind
   have h2:W*(by_*X)=by_*(W*X):=by grind
   rw[h1,h2,hX,hY];grind
  rw[e,UH] at this;omega
theorem zr7{a b X Y:Int}(hX:0<X)(hY:0<Y)(h:a*Y=b*X):(0<a↔0<b)/\(a=0↔b=0):=by
 have e1:=zjr (k:=Y) (z:=a) hY;have e2:=zjr (k:=X) (z:=b) hX;rw[uY,h,uY] at e1;rw[e1] at e2;rcases zbe a with⟨z,y⟩|⟨z,y⟩|⟨z,y⟩<;>rcases zbe b with⟨z',y'⟩|⟨z',y'⟩|⟨z',y'⟩<;>omega
section
variable{ss:List (Q3×Q3)}{ps:List (Nat×Nat)}{g:Int}
theorem e_on{m:Q3}{e:Q3×Q3}(h:eB m e=true):dX m e.1<=0/\0<dX m e.2/\dY m e.1<=0/\0<dY m e.2/\dt e.1 e.2 m=0:=by
 unfold eB at h;simp only[vF,Qx,decide_eq_true_eq,decide_eq_false_iff_not,UT] at h;obtain⟨⟨⟨⟨⟨h1,h2⟩,h3⟩,h4⟩,h5⟩,h6⟩:=h;exact⟨h1,h2,h3,h4,by omega⟩
theorem e_o{m:Q3}{e:Q3×Q3}(h:eB m e=true):oB m e=true:=by
 obtain⟨h1,h2,h3,h4,h5⟩:=e_on h;unfold dX dY at*;refine zgz h5 ?_ ?_
 ·unfold bq;rw[zca];omega
 ·unfold bq;rw[zca];omega
theorem e_dir{m:Q3}{e:Q3×Q3}(hm:0<m.w)(h1:0<e.1.w)(h2:0<e.2.w)(h:eB m e=true):0<dX e.1 e.2/\0<dY e.1 e.2:=by
 obtain⟨k1,k2,k3,k4,k5⟩:=e_on h;have hX:m.w*dX e.1 e.2=e.1.w*dX m e.2-e.2.w*dX m e.1:=by unfold dX;grind
 have hY:m.w*dY e.1 e.2=e.1.w*dY m e.2-e.2.w*dY m e.1:=by unfold dY;grind
 have a1:=(psg e.1.w (dX m e.2)).1 h1 k2;have a2:=(psg e.2.w (dX m e.1)).2.2.2 h2 k1;have a3:=(psg e.1.w (dY m e.2)).1 h1 k4;have a4:=(psg e.2.w (dY m e.1)).2.2.2 h2 k3;exact⟨(zso hm hX).2.1 (by omega),(zso hm hY).2.1 (by omega)⟩
theorem o_e{m:Q3}{e:Q3×Q3}(hm:PQ 1402 m)(h1:PQ 130 e.1)(h2:PQ 130 e.2)(hx:0<dX e.1 e.2)(hy:0<dY e.1 e.2)(ne:m≠e.2)(h:oB m e=true):eB m e=true:=by
 obtain⟨k0,k1,k2⟩:=zcp h;have hD:m.w*dt e.1 e.2 m=dX m e.1*dY m e.2-dY m e.1*dX m e.2:=by unfold dt dX dY det3 lnA lnB lnC;grind
 have hX:m.w*dX e.1 e.2=e.1.w*dX m e.2-e.2.w*dX m e.1:=by unfold dX;grind
 have hY:m.w*dY e.1 e.2=e.1.w*dY m e.2-e.2.w*dY m e.1:=by unfold dY;grind
 obtain⟨r1,r2⟩:=dir_a hm.pos hD hX hY k0;obtain⟨q1,q2⟩:=zr7 hx hy r1;obtain⟨q3,q4⟩:=zr7 hx hy r2;have ax:dX m e.1<=0:=by
  unfold bq at k1;rw[zca] at k1;unfold dX;omega
 have bx:0<=dX m e.2:=by
  unfold bq at k2;rw[zca] at k2;unfold dX;omega
 have bx':dX m e.2≠0:=fun z=>by
  have z2:=q4.mp z;unfold dX at z;unfold dY at z2;exact ne (Q3.ext' (zlq hm (Pt.mono h2 (by decide)) (by omega) (by omega)))
 unfold eB;simp only[vF,Qx,decide_eq_true_eq,decide_eq_false_iff_not,UT];exact⟨⟨⟨⟨⟨ax,by omega⟩,by omega⟩,q3.mp (by omega)⟩,by omega⟩,by omega⟩
def odd2(n:Nat):Bool:=decide (n%2=1)
def hnd(f:Q3×Q3)(ss:List (Q3×Q3)):Bool×Bool:=if dX f.1 f.2=0 then(odd2 (cnt (vB (midQ f)) ss+cnt (oB (midQ f)) ss),odd2 (cnt (vB (midQ f)) ss)) else(odd2 (cnt (vB (midQ f)) ss),odd2 (cnt (vB (midQ f)) ss+cnt (oB (midQ f)) ss))
def hndL(f:Q3×Q3)(ss:List (Q3×Q3)):Bool×Bool:=if dY f.1 f.2=0 then(odd2 (cnt (vB (midQ f)) ss),odd2 (cnt (vB (midQ f)) ss+cnt (oB (midQ f)) ss)) else
 if 0<dY f.1 f.2 then(odd2 (cnt (hB (midQ f)) ss+cnt (oB (midQ f)) ss),odd2 (cnt (hB (midQ f)) ss)) else(odd2 (cnt (hB (midQ f)) ss),odd2 (cnt (hB (midQ f)) ss+cnt (oB (midQ f)) ss))
theorem zgg{a b:Nat}(h:(a+b)%2=0):odd2 a=odd2 b:=by
 unfold odd2;rw[decide_eq_decide];omega
theorem zm8(T:Told ss ps g){rs:List (List Q3)}(es:ss=sdA rs){n:Nat}(hr:∀r,r∈rs->∀k,k<r.length->PQ n (r.getD k z3)){f:Q3×Q3}(hf:Pce ss ps f):hnd f ss=hndL f ss:=by
 obtain⟨i,a1,a2,a3,a4⟩:=id hf;have p1:=(T.lies a1).2.1;have p2:=(T.lies a2).2.1;have mm:=zm0 p1.pos p2.pos;have pm:=zsm p1 p2;have par:crs (midP f) ss%2=0:=by rw[es];exact zkp pm.pos hr
 have th:∀e,e∈ss->oB (midP f) e=true->_:=fun e he ho=>T.through hf he ho;obtain⟨x0,xy⟩:=bq_dX a3;have cv:cnt (vB (midQ f)) ss=cnt (vB (midP f)) ss:=zec fun e _=>mm.vB e;have ch:cnt (hB (midQ f)) ss=cnt (hB (midP f)) ss:=zec fun e _=>mm.hB e;have co:cnt (oB (midQ f)) ss=cnt (oB (midP f)) ss:=zec fun e _=>mm.oB e;unfold hnd hndL;rw[cv,ch,co];unfold crs at par;have no:∀z:dX f.1 f.2=0∨dY f.1 f.2<0,cnt (eB (midP f)) ss=0:=fun z=>cnt_none fun e he=>by
  cases h:eB (midP f) e with
  |false=>rfl
  |true=>
   obtain⟨t1,t2,t3⟩:=T.ok e he;obtain⟨d1,d2⟩:=e_dir pm.pos t1.pos t2.pos h;have r:=(th e he (e_o h)).1;rcases z with z|z
   ·rw[z,jq] at r;have:=uw (xy z) d1;omega
   ·have k1:=UO x0 (uI d2);have k2:=uT z d1;omega
 by_cases c0:dX f.1 f.2=0
 ·have e0:=no (.inl c0);have y0:=xy c0;rw[if_pos c0,if_neg (by omega),if_pos y0,zgg (a:=cnt (vB (midP f)) ss+_) (b:=cnt (hB (midP f)) ss+cnt (oB (midP f)) ss) (by omega),zgg (a:=cnt (vB (midP f)) ss) (b:=cnt (hB (midP f)) ss) (by omega)]
 ·rw[if_neg c0]
  by_cases c1:dY f.1 f.2=0
  ·rw[if_pos c1]
  ·rw[if_neg c1]
   by_cases c2:0<dY f.1 f.2
   ·rw[if_pos c2];have e1:cnt (eB (midP f)) ss=cnt (oB (midP f)) ss:=zec fun e he=>by
     obtain⟨t1,t2,t3⟩:=T.ok e he
     cases h:eB (midP f) e with
     |true=>exact(e_o h).symm
     |false=>
      cases h2:oB (midP f) e with
      |false=>rfl
      |true=>
       obtain⟨r,ne⟩:=th e he h2;obtain⟨u0,uy⟩:=bq_dX t3;have hx:0<dX e.1 e.2:=by
        rcases Ce u0 with z|z
        ·exact z
        ·have:=uw (show 0<dX f.1 f.2 by omega) (uy z.symm)
         rw[←z,UH] at r;omega
       have hy:0<dY e.1 e.2:=by
        have:=uw c2 hx;rw[←r] at this;rcases Ur 0 (dY e.1 e.2) with z|z
        ·exact z
        ·have:=(psg (dX f.1 f.2) (dY e.1 e.2)).2.2.2 (by omega) z
         omega
       rw[o_e pm t1 t2 hx hy ne h2] at h
       cases h
    rw[e1] at par;rw[zgg (a:=cnt (vB (midP f)) ss) (b:=cnt (hB (midP f)) ss+cnt (oB (midP f)) ss) (by omega),zgg (a:=cnt (vB (midP f)) ss+_) (b:=cnt (hB (midP f)) ss) (by omega)]
   ·rw[if_neg c2];have e0:=no (.inr (by omega))
    rw[zgg (a:=cnt (vB (midP f)) ss) (b:=cnt (hB (midP f)) ss) (by omega),zgg (a:=cnt (vB (midP f)) ss+_) (b:=cnt (hB (midP f)) ss+cnt (oB (midP f)) ss) (by omega)]
end
theorem zfc{p:Q3×Q3->Bool}{l:List (Q3×Q3)}{i:Nat}{e:Q3×Q3}(h:l[i]?=some e):cnt p (l.take (i+1))=cnt p (l.take i)+(p e).toNat:=by
 rw[pi,h,zfx];show _+cnt p [e]=_;rw[zj0]
theorem v_iff{m:Q3}{e:Q3×Q3}:vB m e=true↔(¬m.x*e.1.w<e.1.x*m.w/\m.x*e.2.w<e.2.x*m.w/\dt e.1 e.2 m<0):=abv_iff
theorem zfm{b:Bool}(h:b=true):b.toNat=1:=by rw[h];rfl
theorem zc6{b:Bool}(h:¬b=true):b.toNat=0:=by
 cases b
 ·rfl
 ·exact absurd rfl h
def zq8:Sp:=fun vs H Q _=>∃(p q:Addr)(e m:Q3×Q3),vs=[.ref p,.ref q]/\StE 130 H p e/\TB 5000 H q m.1.x m.1.y m.1.w/\Q (.bl (zl0 (s6 e) m.1.x m.1.w)) H
theorem zjn(T:Txt K mg ad fd):FnOk P w K mg base CX0 1 (ad 17) (fd 17) ["S"] zo0:=by
 refine T.is_upright.fn.ok zjo (fun vs H Q E h=>?_) (fun cdv A outer s H vs Q E hr h=>?_)
 ·obtain⟨p,d,rfl,_⟩:=h;rfl
 obtain⟨p,d,rfl,⟨a,b,hp,ha,hb⟩,k⟩:=h;have zf:=@zac;have zd:=@zaj;have zB:=@zef;have zc:=@zd7;have zb:=@zck;have qpv:=@pv;have za:=@zat;generalize @PE=QE,@PT=QT,@PW=QW,@PA=QA,@PS=QS,@PSs=QSs,@PG=QG,@PGs=QGs,@L2.PI=QI,@PO=QO,@PIf=QIf at zf zd zB zc zb qpv za⊢;refine⟨_,
  (zf (zd (zB zdr (zc zaa (zb za2 (zb za2 (qpv 0) za fun _ _=>rfl) za fun _ _=>rfl) (zb za2 (zb za2 (qpv 0) za fun _ _=>rfl) za fun _ _=>rfl)) (zc zaa (zb za2 (zb za2 (qpv 0) za fun _ _=>rfl) za fun _ _=>rfl) (zb za2 (zb za2 (qpv 0) za fun _ _=>rfl) za fun _ _=>rfl)) (nomark _))))
  ,?_⟩
 clear zf zd zB zc zb qpv za QE QT QW QA QS QSs QG QGs QI QO QIf
 dsimp! [L2.start]
 simp! [hp,ha.1,hb.1];exact⟨cbig ha.2.1 hb.2.2.2,cbig hb.2.1 ha.2.2.2,k⟩
theorem ok_spans(T:Txt K mg ad fd):FnOk P w K mg base CX0 1 (ad 19) (fd 19) ["S","P"] zq8:=by
 refine T.spans.fn.ok sc_spans (fun vs H Q E h=>?_) (fun cdv A outer s H vs Q E hr h=>?_)
 ·obtain⟨p,q,e,m,rfl,_⟩:=h;rfl
 obtain⟨p,q,e,m,rfl,⟨a,b,hp,ha,hb,_⟩,hq,k⟩:=h;have zx:=@pss2;have zm:=@zdb;have zp:=@zb8;have zc:=@zd7;have zb:=@zck;have qpv:=@pv;have za:=@zat;have zf:=@zac;have zd:=@zaj;have zN:=@znl;have zn:=@zau;have zB:=@zef;generalize @PE=QE,@PT=QT,@PW=QW,@PA=QA,@PS=QS,@PSs=QSs,@PG=QG,@PGs=QGs,@L2.PI=QI,@PO=QO,@PIf=QIf at zx zm zp zc zb qpv za zf zd zN zn zB⊢;refine⟨_,
  (zx
   (zm (zp zgy (zc zaa (zb za2 (qpv 1) za fun _ _=>rfl) (zb za2 (zb za2 (qpv 0) za fun _ _=>rfl) za fun _ _=>rfl)) (zc zaa (zb za2 (zb za2 (qpv 0) za fun _ _=>rfl) za fun _ _=>rfl) (zb za2 (qpv 1) za fun _ _=>rfl)) (nomark _)) (zf (zd zN)) zn)
   (zd (zB zgy (zc zaa (zb za2 (qpv 1) za fun _ _=>rfl) (zb za2 (zb za2 (qpv 0) za fun _ _=>rfl) za fun _ _=>rfl)) (zc zaa (zb za2 (zb za2 (qpv 0) za fun _ _=>rfl) za fun _ _=>rfl) (zb za2 (qpv 1) za fun _ _=>rfl)) (nomark _))))
  ,?_⟩
 clear zx zm zp zc zb qpv za zf zd zN zn zB QE QT QW QA QS QSs QG QGs QI QO QIf
 dsimp! [L2.start]
 have ta:=ha.tb (n:=1000);have tb:=hb.tb (n:=1000);simp! [hp,ta.1,tb.1,hq.1];unfold zl0 s6 at k;dsimp only at k;refine⟨cbig hq.2.1 ta.2.2.2,cbig ta.2.1 hq.2.2.2,ite2 (fun c=>?_) (fun c=>⟨cbig hq.2.1 tb.2.2.2,cbig tb.2.1 hq.2.2.2,?_⟩)⟩
 ·rw[if_pos (of_decide_eq_true c)] at k;exact k
 ·rw[if_neg (fun z=>c (decide_eq_true z))] at k;exact k
def zs5:Sp:=fun vs H Q _=>∃(l q:Addr)(ys:List V)(ss:List (Q3×Q3))(m:Q3),vs=[.ref l,.ref q]/\H l=some (.lst ys)/\ys.length<=13/\LR (StE 130) H ys ss/\TB 5000 H q m.x m.y m.w/\∀H',Same H H'->Q (.int (cnt (vB m) ss)) H'
theorem ok_above(T:Txt K mg ad fd):FnOk P w K mg base CX0 4 (ad 18) (fd 18) ["stretches","P"] zs5:=by
 refine T.above.fn.ok sc_above (fun vs H Q E h=>?_) (fun cdv A outer s H vs Q E hr h=>?_)
 ·obtain⟨l,q,ys,ss,m,rfl,_⟩:=h;rfl
 obtain⟨l,q,ys,ss,m,rfl,hl,hz,hs,hq,k⟩:=h;have zf:=@zac;have zd:=@zaj;have zw:=@zce;have zj:=@pa1;have zA:=@ze0;unfold L2.CompBody at zA;have zq:=@zc4;have qpv:=@pv;have zo:=@zbw;have zK:=@zgr;have zH:=@PW.pt;have zS:=@zk1;have zv:=@zer;have ze:=@zap;have zg:=@pa2;have zU:=@zhl;have zp:=@zb8;have zt:=@pa3;have zb:=@zck;have za:=@zat;generalize @PE=QE,@PT=QT,@PW=QW,@PA=QA,@PS=QS,@PSs=QSs,@PG=QG,@PGs=QGs,@L2.PI=QI,@PO=QO,@PIf=QIf at zf zd zw zj zA zq qpv zo zK zH zS zv ze zg zU zp zt zb za⊢;refine⟨_,
  (zf (zd (zw zcx rfl T.b_len zfh (zj (zA (dsc:=za0 ze4) (N:=["stretches","P"]) (own:=["S"]) (ix:=[1]) rfl rfl rfl ⟨rfl,by decide+kernel,by decide+kernel,by decide+kernel,by decide+kernel⟩ (zq (qpv 0)) (fun cl C fp s2 H2 xe=>⟨(zo (i:=0) (show QF (["S","P"]:List Str) from by decide+kernel) rfl (km rfl)),(zK (zH (zS (zv (ze (ok_spans T) (hr.mono (by decide)) rfl T.spans.mg T.spans.fn.kp T.spans.bn .nil pass0 (zg (qpv 0) za1 (qpv 1) za1))) (zU (zp zgy (ze (zs0 T) (hr.mono (by decide)) rfl T.turn.mg T.turn.fn.kp T.turn.bn .nil pass0 (zt (zb za2 (qpv 0) za fun _ _=>rfl) za3 (zb za2 (qpv 0) za fun _ _=>rfl) za3 (qpv 1) za1)) za (nomark _)))))),(qpv 0)⟩)) zcj))))
  ,?_⟩
 clear zf zd zw zj zA zq qpv zo zK zH zS zv ze zg zU zp zt zb za QE QT QW QA QS QSs QG QGs QI QO QIf
 dsimp! [L2.start]
 simp! [];refine zb9 ?_;simp! [zcm];refine⟨⟨_,.of hl⟩,fun D hD=>?_⟩;refine zax (xs:=ys) (fun i zs H'=>Same H H'/\H' D=some (.lst zs)/\zs.length=cnt (vB m) (ss.take i)/\zs.length<=i) ⟨za4 hD _,upd_same,rfl,pG _⟩ (fun i zs H' p=>.of (p.1 _ _ hl)) ?_ ?_
 ·rintro i zs H2 v hi hv ⟨g2,hD2,hn,hle⟩;obtain⟨p,d,rfl,hd,hp⟩:=hs.2 i v hv;have hp2:=zc9 _ _ _ _ (zaf g2) hp;have hq2:=hq.same g2;have ct:=zfc (p:=vB m) hd;simp! [];obtain⟨a,b,ha,hA,hB,_⟩:=id hp2;refine⟨p,q,d,(m,m),rfl,hp2,hq2,_,rfl,ite2 (fun c=>?_) fun c=>?_⟩
  ·simp! [ha];refine⟨a,b,q,_,_,_,_,_,_,m.x,m.y,m.w,rfl,hA.tb,hB.tb,hq2,fun H3 g3'=>⟨_,rfl,ite2 (fun c2=>?_) fun c2=>?_⟩⟩
   ·have ea:vB m d=true:=by unfold vB abv;rw[c,gC];exact decide_eq_true (zng.mp (of_decide_eq_true c2))
    refine cw_put hi (g3' _ _ hD2) (small1000 (by omega)) ⟨zav (g2.trans g3') hD,upd_same,?_,?_⟩
    ·rw[ct,zfm ea,kO,hn];rfl
    ·rw[kO];exact Qo hle
   ·have ea:¬vB m d=true:=by
     unfold vB abv;rw[c,gC];exact fun z=>c2 (decide_eq_true (zng.mpr (of_decide_eq_true z)))
    exact cw_skip hi ⟨g2.trans g3',g3' _ _ hD2,by rw[ct,zc6 ea,hn];rfl,Qy hle⟩
  ·have ea:¬vB m d=true:=by
    unfold vB abv;intro z;rw[vF] at z;exact c z.1
   exact cw_skip hi ⟨g2,hD2,by rw[ct,zc6 ea,hn];rfl,Qy hle⟩
 ·rintro zs H2 ⟨g2,hD2,hn,hle⟩;simp! [hD2];rw[hn,hs.1,uM];exact k H2 g2
def sp_lies5:Sp:=fun vs H Q _=>∃(p s:Addr)(e:Q3×Q3)(m:Q3),vs=[.ref p,.ref s]/\StE 130 H s e/\TB 5000 H p m.x m.y m.w/\∀H',Same H H'->Q (.bl (oB m e)) H'
theorem zom(T:Txt K mg ad fd):FnOk P w K mg base CX0 4 (ad 14) (fd 14) ["P","S"] sp_lies5:=by
 refine T.lies_on.fn.ok znn (fun vs H Q E h=>?_) (fun cdv A outer s H vs Q E hr h=>?_)
 ·obtain⟨p,s,e,m,rfl,_⟩:=h;rfl
 obtain⟨p,s,e,m,rfl,⟨a,b,hs,ha,hb,_⟩,hp,k⟩:=h;have zx:=@pss2;have zm:=@zdb;have zp:=@zb8;have ze:=@zap;have zt:=@pa3;have zb:=@zck;have qpv:=@pv;have za:=@zat;have zf:=@zac;have zd:=@zaj;have zN:=@znl;have zn:=@zau;have ye:=@zp0;have zY:=@zqu;have zg:=@pa2;have yf:=@zqw;generalize @PE=QE,@PT=QT,@PW=QW,@PA=QA,@PS=QS,@PSs=QSs,@PG=QG,@PGs=QGs,@L2.PI=QI,@PO=QO,@PIf=QIf at zx zm zp ze zt zb qpv za zf zd zN zn ye zY zg yf⊢;refine⟨_,
  (zx
   (zm (zp zpi (ze (zs0 T) (hr.mono (by decide)) rfl T.turn.mg T.turn.fn.kp T.turn.bn .nil pass0 (zt (zb za2 (qpv 1) za fun _ _=>rfl) za3 (zb za2 (qpv 1) za fun _ _=>rfl) za3 (qpv 0) za1)) za (nomark _)) (zf (zd zN)) zn)
   (zd (ye (zY (ze (zf3 T) (hr.mono (by decide)) rfl T.before.mg T.before.fn.kp T.before.bn .nil pass0 (zg (qpv 0) za1 (zb za2 (qpv 1) za fun _ _=>rfl) za3))) (yf (zY (ze (zf3 T) (hr.mono (by decide)) rfl T.before.mg T.before.fn.kp T.before.bn .nil pass0 (zg (zb za2 (qpv 1) za fun _ _=>rfl) za3 (qpv 0) za1)))))))
  ,?_⟩
 clear zx zm zp ze zt zb qpv za zf zd zN zn ye zY zg yf QE QT QW QA QS QSs QG QGs QI QO QIf
 dsimp! [L2.start]
 simp! [hs];unfold oB on3 onB at k;refine⟨a,b,p,_,_,_,_,_,_,_,_,_,rfl,ha.tb,hb.tb,hp,fun H1 g1=>⟨rfl,?_⟩⟩;have hs1:=g1 _ _ hs;have z:=k H1 g1;have hp1:=hp.same g1;have ha1:=(ha.same g1).tb (n:=5000);have hb1:=(hb.same g1).tb (n:=5000);simp! [hs1];refine ite2 (fun c=>?_) (fun c=>?_)
 ·rw[if_neg (fun y=>absurd c (by rw[y];decide))] at z
  exact z
 ·have c':sgn (det3 e.1.x e.1.y e.1.w e.2.x e.2.y e.2.w m.x m.y m.w)=0:=by simpa using c
  rw[if_pos c'] at z;refine⟨p,a,_,_,_,_,_,_,rfl,hp1,ha1,_,rfl,ite2 (fun c2=>?_) fun c2=>?_⟩
  ·have c2':bef m.x m.y m.w e.1.x e.1.y e.1.w=false:=by simpa using c2
   simp! [hs1];refine⟨b,p,_,_,_,_,_,_,rfl,hb1,hp1,_,rfl,?_⟩;rw[c2',vm,gC] at z;exact z
  ·have c2':bef m.x m.y m.w e.1.x e.1.y e.1.w=true:=by simpa using c2
   rw[c2',Qr,Bh] at z;exact z
theorem ok_amid(T:Txt K mg ad fd):FnOk P w K mg base CX0 3 (ad 9) (fd 9) ["P","Q"] sp_amid:=by
 refine T.amid.fn.ok sc_amid (fun vs H Q E h=>?_) (fun cdv A outer s H vs Q E hr h=>?_)
 ·obtain⟨p,q,x1,y1,w1,x2,y2,w2,rfl,_⟩:=h;rfl
 obtain⟨p,q,x1,y1,w1,x2,y2,w2,rfl,⟨hp,pp⟩,⟨hq,pq⟩,n1,n2,k⟩:=h;have zf:=@zac;have zd:=@zaj;have ze:=@zap;have zt:=@pa3;have zc:=@zd7;have zb:=@zck;have qpv:=@pv;have za:=@zat;generalize @PE=QE,@PT=QT,@PW=QW,@PA=QA,@PS=QS,@PSs=QSs,@PG=QG,@PGs=QGs,@L2.PI=QI,@PO=QO,@PIf=QIf at zf zd ze zt zc zb qpv za⊢;refine⟨_,
  (zf (zd (ze (zmj T) (hr.mono (by decide)) rfl T.point.mg T.point.fn.kp T.point.bn .nil pass0 (zt (zc zc5 (zc zaa (zb za2 (qpv 0) za fun _ _=>rfl) (zb za2 (qpv 1) za fun _ _=>rfl)) (zc zaa (zb za2 (qpv 1) za fun _ _=>rfl) (zb za2 (qpv 0) za fun _ _=>rfl))) zam (zc zc5 (zc zaa (zb za2 (qpv 0) za fun _ _=>rfl) (zb za2 (qpv 1) za fun _ _=>rfl)) (zc zaa (zb za2 (qpv 1) za fun _ _=>rfl) (zb za2 (qpv 0) za fun _ _=>rfl))) zam (zc zaa (zc zko za (zb za2 (qpv 0) za fun _ _=>rfl)) (zb za2 (qpv 1) za fun _ _=>rfl)) zam))))
  ,?_⟩
 clear zf zd ze zt zc zb qpv za QE QT QW QA QS QSs QG QGs QI QO QIf
 dsimp! [L2.start]
 simp! [zi2,hp,hq];have l2:(2*w1).natAbs<2^(2+1000):=zas (by decide) pp.2.2
 refine⟨cbig pp.1 pq.2.2,cbig pq.1 pp.2.2,cbig pp.2.1 pq.2.2,cbig pq.2.1 pp.2.2,.inl ⟨by decide,by decide⟩,cbig l2 pq.2.2,?_,zan (zas l2 pq.2.2) (by decide),k⟩
 exact Dn (Dn (by decide) n1) n2
def sp_hands:Sp:=fun vs H Q _=>∃(s l:Addr)(f:Q3×Q3)(ys:List V)(ss:List (Q3×Q3)),vs=[.ref s,.ref l]/\S2H H s f/\H l=some (.lst ys)/\ys.length<=13/\LR (StE 130) H ys ss/\∀(t:Addr) H',Same H H'->H' t=some (.tup [.bl (hnd f ss).1,.bl (hnd f ss).2])->Q (.ref t) H'
theorem zmm(T:Txt K mg ad fd):FnOk P w K mg base CX0 5 (ad 20) (fd 20) ["S","stretches"] sp_hands:=by
 refine T.hands.fn.ok zf9 (fun vs H Q E h=>?_) (fun cdv A outer s H vs Q E hr h=>?_)
 ·obtain⟨s,l,f,ys,ss,rfl,_⟩:=h;rfl
 obtain⟨s,l,f,ys,ss,rfl,⟨a,b,hp,ha,hb⟩,hl,hz,hs,k⟩:=h;have yl:=@pss7;have zh:=@zbv;have ze:=@zap;have zg:=@pa2;have zb:=@zck;have qpv:=@pv;have za:=@zat;have zw:=@zce;have zj:=@pa1;have zA:=@ze0;unfold L2.CompBody at zA;have zq:=@zc4;have zo:=@zbw;have zK:=@zgr;have zv:=@zer;have zB:=@zef;have zc:=@zd7;have zm:=@zdb;have zf:=@zac;have zd:=@zaj;have zr:=@zdg;have zn:=@zau;generalize @PE=QE,@PT=QT,@PW=QW,@PA=QA,@PS=QS,@PSs=QSs,@PG=QG,@PGs=QGs,@L2.PI=QI,@PO=QO,@PIf=QIf at yl zh ze zg zb qpv za zw zj zA zq zo zK zv zB zc zm zf zd zr zn⊢;refine⟨_,
  (yl
   (zh (i:=2) zf9.nd rfl (vM rfl) (ze (ok_amid T) (hr.mono (by decide)) rfl T.amid.mg T.amid.fn.kp T.amid.bn .nil pass0 (zg (zb za2 (qpv 0) za fun _ _=>rfl) za3 (zb za2 (qpv 0) za fun _ _=>rfl) za3)))
   (zh (i:=3) zf9.nd rfl (km rfl) (ze (ok_above T) (hr.mono (by decide)) rfl T.above.mg T.above.fn.kp T.above.bn .nil pass0 (zg (qpv 1) za1 (qpv 2) za1)))
   (zh (i:=4) zf9.nd rfl (km rfl) (zw zcx rfl T.b_len zfh (zj (zA (dsc:=za0 ze3) (N:=["S","stretches","middle","over","on","first","second"]) (own:=["other"]) (ix:=[2]) rfl rfl rfl ⟨rfl,by decide+kernel,by decide+kernel,by decide+kernel,by decide+kernel⟩ (zq (qpv 1)) (fun cl C fp s2 H2 xe=>⟨(zo (i:=0) (show QF (["other","middle"]:List Str) from by decide+kernel) rfl (km rfl)),(zK (zv (ze (zom T) (hr.mono (by decide)) rfl T.lies_on.mg T.lies_on.fn.kp T.lies_on.bn .nil pass0 (zg (qpv 1) za1 (qpv 0) za1)))),(qpv 0)⟩)) zcj)))
   (zh (i:=5) zf9.nd rfl (km rfl) (zB zdr (zc zcw (qpv 3) za) za (nomark _)))
   (zh (i:=6) zf9.nd rfl (km rfl) (zB zdr (zc zcw (zc zc5 (qpv 3) (qpv 4)) za) za (nomark _)))
   (zm (zv (ze (zjn T) (hr.mono (by decide)) rfl T.is_upright.mg T.is_upright.fn.kp T.is_upright.bn .nil pass0 (zj (qpv 0) za1))) (zf (zd (zr (zg (qpv 6) za1 (qpv 5) za1)))) zn)
   (zd (zr (zg (qpv 5) za1 (qpv 6) za1))))
  ,?_⟩
 clear yl zh ze zg zb qpv za zw zj zA zq zo zK zv zB zc zm zf zd zr zn QE QT QW QA QS QSs QG QGs QI QO QIf
 dsimp! [L2.start]
 simp! [hp];have a0:=ha.2.pos;have b0:=hb.2.pos;refine⟨a,b,_,_,_,_,_,_,rfl,ha.tb,hb.tb,by omega,by omega,fun r H1 g1 hr1=>?_⟩
 have mm:=zm0 a0 b0;have pm:=zsm ha.2 hb.2;have tm:TB 5000 H1 r (midP f).x (midP f).y (midP f).w:=⟨hr1,Pt.bd pm (by decide)⟩
 refine⟨l,r,ys,ss,midP f,rfl,g1 _ _ hl,hz,hs.ts zc9 (zaf g1),tm,fun H2 g2=>?_⟩;have g12:=g1.trans g2;refine zb9 ?_;simp! [zcm];have hl2:=g12 _ _ hl;refine⟨⟨_,.of hl2⟩,fun D hD=>?_⟩;refine zax (xs:=ys) (fun i zs H'=>Same H2 H'/\H' D=some (.lst zs)/\zs.length=cnt (oB (midP f)) (ss.take i)/\zs.length<=i) ⟨za4 hD _,upd_same,rfl,pG _⟩ (fun i zs H' p=>.of (p.1 _ _ hl2)) ?_ ?_
 ·rintro i zs H3 v hi hv ⟨g3,hD3,hn,hle⟩;obtain⟨p,d,rfl,hd,hp'⟩:=hs.2 i v hv;have g13:=g12.trans g3;have ct:=zfc (p:=oB (midP f)) hd;simp! [];refine⟨r,p,d,midP f,rfl,zc9 _ _ _ _ (zaf g13) hp',tm.same (g2.trans g3),fun H4 g4=>⟨_,rfl,ite2 (fun c=>?_) fun c=>?_⟩⟩
  ·refine cw_put hi (g4 _ _ hD3) (small1000 (by omega)) ⟨zav (g3.trans g4) hD,upd_same,?_,?_⟩
   ·rw[ct,zfm c,kO,hn];rfl
   ·rw[kO];exact Qo hle
  ·exact cw_skip hi ⟨g3.trans g4,g4 _ _ hD3,by rw[ct,zc6 c,hn];rfl,Qy hle⟩
 ·rintro zs H3 ⟨g3,hD3,hn,hle⟩;rw[hs.1,uM] at hn;have g13:=g12.trans g3;simp! [hD3];rw[hn];have cv:cnt (vB (midQ f)) ss=cnt (vB (midP f)) ss:=zec fun e _=>mm.vB e;have co:cnt (oB (midQ f)) ss=cnt (oB (midP f)) ss:=zec fun e _=>mm.oB e;have k':=fun(t:Addr) H' g h=>k t H' g h;unfold hnd at k';rw[cv,co] at k';have od:∀n:Nat,decide ((n:Int)%2=1)=odd2 n:=fun n=>by unfold odd2;rw[decide_eq_decide];omega
  have od2:∀m n:Nat,decide (((m:Int)+(n:Int))%2=1)=odd2 (m+n):=fun m n=>by rw[←od,Do]
  have hp3:=g13 _ _ hp;refine⟨by decide,by decide,s,s6 f,rfl,⟨a,b,hp3,(ha.same g13).tb,(hb.same g13).tb⟩,_,rfl,?_⟩
  have ex:(f.1.x*f.2.w=f.2.x*f.1.w)↔dX f.1 f.2=0:=by unfold dX;omega
  refine ite2 (fun c t ht=>?_) (fun c t ht=>?_)
  ·have c0:=ex.mp (of_decide_eq_true c);refine k' t _ (g13.trans (za4 ht _)) ?_;rw[if_pos c0,od,od2];exact upd_same
  ·have c0:¬dX f.1 f.2=0:=fun z=>c (decide_eq_true (ex.mpr z));refine k' t _ (g13.trans (za4 ht _)) ?_;rw[if_neg c0,od,od2];exact upd_same
theorem zb1(T:Txt K mg ad fd):FnOk P w K mg base CX0 1 (ad 28) (fd 28) ["_law_script","_law_k"] (ze2 K):=by
 refine T.law_cell_at.fn.ok zi8 (fun vs H Q E h=>?_) (fun cdv A outer s H vs Q E hr h=>?_)
 ·obtain⟨l,ns,k,rfl,_⟩:=h;rfl
 obtain⟨l,ns,k,rfl,hl,h0,q⟩:=h;have zx:=@pss2;have zm:=@zdb;have zp:=@zb8;have qpv:=@pv;have zw:=@zce;have zj:=@pa1;have zf:=@zac;have zd:=@zaj;have zb:=@zck;have zn:=@zau;have za:=@zat;generalize @PE=QE,@PT=QT,@PW=QW,@PA=QA,@PS=QS,@PSs=QSs,@PG=QG,@PGs=QGs,@L2.PI=QI,@PO=QO,@PIf=QIf at zx zm zp qpv zw zj zf zd zb zn za⊢;refine⟨_,
  (zx
   (zm (zp zgy (qpv 1) (zw zgt rfl T.b_len zfh (zj (qpv 0) za1)) (nomark _)) (zf (zd (zb zsu (qpv 0) (qpv 1) fun _ _=>rfl))) zn)
   (zd za))
  ,?_⟩
 clear zx zm zp qpv zw zj zf zd zb zn za QE QT QW QA QS QSs QG QGs QI QO QIf
 dsimp! [L2.start]
 simp only[tSeq,zpf,tRet,tRetN,tIfS,tAsg,gName,zt7,tVar,tC,tOp,tUn,rI,rI0,rU,rEq,rNe,zsc,tB,tNot,tAnd,tOr,zpx,tOrV,zou,tIf,tCB,zm2,tNil,zbt,tTup,tLst,gTup,gCons,gNil,L2.start,rIsi,rIxT,rIxL,cx_K,tyN_non,tyN_bl,tyN_int,tyN_str,isi_ii,isi_ib,zoy,zqy,zsr,zsa,isi_tt,zrd,zoz,zri,zr5,zpu,zov,scal_ii,scal_bb,sz0,sz1,sz2,sz3,sz4,pC,vL,uA,jJ,vj,vo,vX,uv,jW,jX,AM,AN,Qa,V.int.injEq,V.bl.injEq,V.ref.injEq,V.ty.injEq,jK,and_true,true_and,exists_eq_left,exists_eq_left',exists_and_left,exists_and_right,exists_eq,exists_eq',and_assoc,Ah,Ai,Qr,vm,pJ,if_true,if_false,reduceIte,BO,decide_true,decide_false];refine⟨_,.inl hl,?_⟩;rw[kP];refine ite2 (fun c=>?_) (fun c=>?_)
 ·have c':k<(ns.length:Int):=of_decide_eq_true c;have hk:k.toNat<ns.length:=by omega
  refine⟨_,hl,_,?_,q⟩;have ek:k=((k.toNat:Nat):Int):=by omega
  have z:atI (ns.map V.int) ((k.toNat:Nat):Int)=some (.int (ns.getD k.toNat 0)):=zb6 (by
   rw[kj,kK hk,kD,kK hk]<;>rfl)
  rw[←ek] at z;exact z
 ·have c':¬k<(ns.length:Int):=fun z=>c (decide_eq_true z);have e:ns.getD k.toNat 0=0:=by rw[kD,QD (by omega)];rfl
  rw[e] at q;exact q
def gOk(i g:Nat):Prop:=g=1∨(i<3/\g=3)∨(i<2/\g=2)∨(i<1/\g=4)
def dAt(i d:Nat):Prop:=(i=0/\d=2)∨(i=1/\d=2)∨(i=2/\d=3)
theorem zpn{i d g:Nat}(hd:dAt i d)(h:gOk i g)(n:¬d ∣ g):gOk (i+1) g:=by
 unfold gOk at*;rcases hd with⟨rfl,rfl⟩|⟨rfl,rfl⟩|⟨rfl,rfl⟩<;>omega
theorem g_go{i d g g':Nat}(hd:dAt i d)(h:gOk i g)(e:g'*d=g):gOk (i+1) g':=by
 unfold gOk at*;rcases hd with⟨rfl,rfl⟩|⟨rfl,rfl⟩|⟨rfl,rfl⟩<;>omega
theorem zky(x y w:Int)(d:Nat):g3 (x*d) (y*d) (w*d)=g3 x y w*d:=by
 unfold g3;simp only[vE,Cc,Aa]
theorem zsb{x y w:Int}{d:Nat}(h:d ∣ g3 x y w):(d:Int) ∣ x/\(d:Int) ∣ y/\(d:Int) ∣ w:=
 ⟨CP (jY.mpr h) (g3_da _ _ _),CP (jY.mpr h) (g3_db _ _ _),CP (jY.mpr h) (zqt _ _ _)⟩
def zrw:Sp:=fun vs H Q _=>∃x y w:Int,vs=[.int x,.int y,.int w]/\Bd3 100 x y w/\0<w/\w<=4/\∀p H'(r:Q3),Same H H'->PtQ 100 H' p r->Q (.ref p) H'
theorem zj8(T:Txt K mg ad fd):FnOk P w K mg base CX0 1 (ad 29) (fd 29) ["_law_x","_law_y","_law_w"] zrw:=by
 refine T.law_lowest.fn.ok zcr (fun vs H Q E h=>?_) (fun cdv A outer s H vs Q E hr h=>?_)
 ·obtain⟨x,y,w,rfl,_⟩:=h;rfl
 obtain⟨x,y,w,rfl,b,hw,w4,k⟩:=h;have zx:=@pss2;have zu:=@zdw;have zq:=@zc4;have zC:=@zfi;have zt:=@pa3;have za:=@zat;have zo:=@zbw;have zf:=@zac;have zm:=@zdb;have zH:=@PW.pt;have zS:=@zk1;have zp:=@zb8;have zc:=@zd7;have qpv:=@pv;have zU:=@zhl;have zy:=@pss3;have zh:=@zbv;have zn:=@zau;have zd:=@zaj;have zr:=@zdg;generalize @PE=QE,@PT=QT,@PW=QW,@PA=QA,@PS=QS,@PSs=QSs,@PG=QG,@PGs=QGs,@L2.PI=QI,@PO=QO,@PIf=QIf at zx zu zq zC zt za zo zf zm zH zS zp zc qpv zU zy zh zn zd zr⊢;refine⟨_,
  (zx
   (zu pT rfl (zq (zC (zt za za9 za za9 za za9))) (zo (i:=3) zcr.nd rfl (km rfl)) (zf (zm (zH (zS (zp zdr (zc zhv (qpv 0) (qpv 3)) za (nomark _)) (zS (zp zdr (zc zhv (qpv 1) (qpv 3)) za (nomark _)) (zU (zp zdr (zc zhv (qpv 2) (qpv 3)) za (nomark _)))))) (zy
   (zh (i:=0) zcr.nd rfl (km rfl) (zc zdj (qpv 0) (qpv 3)))
   (zh (i:=1) zcr.nd rfl (km rfl) (zc zdj (qpv 1) (qpv 3)))
   (zh (i:=2) zcr.nd rfl (km rfl) (zc zdj (qpv 2) (qpv 3)))) zn)))
   (zd (zr (zt (qpv 0) za1 (qpv 1) za1 (qpv 2) za1))))
  ,?_⟩
 clear zx zu zq zC zt za zo zf zm zH zS zp zc qpv zU zy zh zn zd zr QE QT QW QA QS QSs QG QGs QI QO QIf
 dsimp! [L2.start]
 simp! [];have g0:gOk 0 (g3 x y w):=by
  have h1:=Int.le_of_dvd hw (zqt x y w);have h2:=zpk (a:=x) (b:=y) (c:=w) (by omega)
  unfold gOk;omega
 refine zbo ?_;simp! [zcm];refine fun l hl=>⟨⟨_,.of upd_same⟩,?_⟩;refine zbh (K:=K) (a:=l) (xs:=[V.int 2,V.int 2,V.int 3]) (fun i σ H'=>Same (upd H l (HO.lst [V.int 2,V.int 2,V.int 3])) H'/\∃(x y w:Int)(o:Option V),σ=[some (.int x),some (.int y),some (.int w),o]/\Bd3 100 x y w/\0<w/\gOk i (g3 x y w)) ⟨.refl _,x,y,w,none,rfl,b,hw,g0⟩ (fun i σ H' _ iv=>.of (iv.1 _ _ upd_same)) ?_ ?_
 ·intro _ _;rintro i v σ H2 hi ⟨g2,x,y,w,o,rfl,b,hw,gk⟩;obtain⟨d,rfl,hd⟩:∃d:Nat,v=.int (d:Int)/\dAt i d:=by
   match i,hi with
   |0,hi=>cases hi;exact⟨2,rfl,.inl ⟨rfl,rfl⟩⟩
   |1,hi=>cases hi;exact⟨2,rfl,.inr (.inl ⟨rfl,rfl⟩)⟩
   |2,hi=>cases hi;exact⟨3,rfl,.inr (.inr ⟨rfl,rfl⟩)⟩
  have d3:d=2∨d=3:=by unfold dAt at hd;omega
  have d0:(d:Int)≠0:=by omega
  have ld:(d:Int).natAbs<2^4:=by have e:(2:Nat)^4=16:=rfl;omega
  have dv:∀z:Int,z.fmod d=0->z.fdiv d*d=z:=fun z e=>by
   have:=Bf z d;rw[e,uY] at this;omega
  have no:∀z:Int,¬decide (z.fmod d=0)=true->(d:Int) ∣ z->False:=fun z c h=>c (decide_eq_true (Au h));simp! [];refine⟨d0,ite2 (fun c1=>⟨d0,ite2 (fun c2=>⟨d0,ite2 (fun c3=>?_) (fun c=>⟨g2,b,hw,zpn hd gk fun h=>no _ c (zsb h).2.2⟩)⟩) (fun c=>⟨g2,b,hw,zpn hd gk fun h=>no _ c (zsb h).2.1⟩)⟩) (fun c=>⟨g2,b,hw,zpn hd gk fun h=>no _ c (zsb h).1⟩)⟩;have ex:=dv x (of_decide_eq_true c1);have ey:=dv y (of_decide_eq_true c2);have ew:=dv w (of_decide_eq_true c3);refine⟨cdivb d0 ld,cdivb d0 ld,cdivb d0 ld,g2,⟨uq (zbd ex d0) b.1,uq (zbd ey d0) b.2.1,uq (zbd ew d0) b.2.2⟩,ziq ew (.inl ⟨by omega,hw⟩),g_go hd gk ?_⟩
  rw[←zky,ex,ey,ew]
 ·rintro σ H2 ⟨g2,x,y,w,o,rfl,b,hw,gk⟩;simp! [];have g1:g3 x y w=1:=by
   have gk':gOk 3 (g3 x y w):=gk;unfold gOk at gk';omega
  exact fun p hp=>k p _ ⟨x,y,w⟩ (((za4 hl _).trans g2).trans (za4 hp _)) ⟨upd_same,hw,g1,b.1,b.2.1,b.2.2⟩
def zsv:Sp:=fun vs H Q _=>∃c f:Int,vs=[.int c,.int f]/\f.natAbs<2^80/\∀p H'(r:Q3),Same H H'->PtQ 100 H' p r->Q (.ref p) H'
theorem zex(T:Txt K mg ad fd):FnOk P w K mg base CX0 2 (ad 30) (fd 30) ["_law_cell","_law_far_here"] zsv:=by
 refine T.law_point.fn.ok zf0 (fun vs H Q E h=>?_) (fun cdv A outer s H vs Q E hr h=>?_)
 ·obtain⟨c,f,rfl,_⟩:=h;rfl
 obtain⟨c,f,rfl,hf,k⟩:=h;have zD:=@pss4;have zh:=@zbv;have zc:=@zd7;have qpv:=@pv;have za:=@zat;have zm:=@zdb;have zp:=@zb8;have zf:=@zac;have zd:=@zaj;have zr:=@zdg;have zt:=@pa3;have zn:=@zau;have ze:=@zap;have zb:=@zck;have zC:=@zfi;have yL:=@pa5;generalize @PE=QE,@PT=QT,@PW=QW,@PA=QA,@PS=QS,@PSs=QSs,@PG=QG,@PGs=QGs,@L2.PI=QI,@PO=QO,@PIf=QIf at zD zh zc qpv za zm zp zf zd zr zt zn ze zb zC yL⊢;refine⟨_,
  (zD
   (zh (i:=2) zf0.nd rfl (km rfl) (zc zdx (zc zcw (qpv 0) za) za))
   (zh (i:=3) zf0.nd rfl (km rfl) (zc zdx (zc zcw (zc zls (qpv 0) za) za) za))
   (zm (zp op_gt (qpv 1) za (nomark _)) (zf (zd (zr (zt (zc zc5 (zc zaa (qpv 2) (qpv 1)) (qpv 3)) zam (zc zdx (zc zaa (qpv 3) (qpv 1)) (qpv 2)) zam za za9)))) zn)
   (zd (ze (zj8 T) (hr.mono (by decide)) rfl T.law_lowest.mg T.law_lowest.fn.kp T.law_lowest.bn .nil pass0 (zt (qpv 2) za1 (qpv 3) za1 (zb zbl (zC (yL za za9 za za9 za za9 za za9 za za9)) (zc zcw (zc zls (qpv 0) za) za) fun _ _=>rfl) za3))))
  ,?_⟩
 clear zD zh zc qpv za zm zp zf zd zr zt zn ze zb zC yL QE QT QW QA QS QSs QG QGs QI QO QIf
 dsimp! [L2.start]
 simp! [];have f0:=Uj c (show(7:Int)≠0 by decide)
 have f7:=UC c (show(0:Int)<7 by decide)
 have h0:=Uj (c/7) (show(7:Int)≠0 by decide)
 have h7:=UC (c/7) (show(0:Int)<7 by decide)
 have m0:=Uj (c/49) (show(5:Int)≠0 by decide)
 have m5:=UC (c/49) (show(0:Int)<5 by decide)
 have lx:(c%7-3).natAbs<2^3:=by have e:(2:Nat)^3=8:=rfl;omega
 have ly:(c/7%7-3).natAbs<2^3:=by have e:(2:Nat)^3=8:=rfl;omega
 generalize c%7-3=x at*;generalize c/7%7-3=y at*;generalize c/49%5=m at*;refine⟨by decide,⟨by decide,by decide⟩,by decide,ite2 (fun _=>⟨cbig lx hf,cbig ly hf,fun p hp=>k p _ ⟨_,_,1⟩ (za4 hp _) ⟨upd_same,pt_oneN (by decide) ?_ ?_⟩⟩) (fun _=>⟨by decide,fun p hp=>⟨⟨by decide,by decide⟩,by decide,?_⟩⟩)⟩
 ·exact zan (zrr (zas lx hf) (zan ly (by decide))) (by decide)
 ·exact zan (zdv (zas ly hf) (zan lx (by decide))) (by decide)
 ·have fin:∀z:Int,0<z->z<5->zrw [V.int x,V.int y,V.int z] (upd H p (HO.lst [V.int 1,V.int 1,V.int 2,V.int 3,V.int 4])) Q E0:=fun z z0 z5=>by
   have lz:z.natAbs<2^3:=by have e:(2:Nat)^3=8:=rfl;omega
   exact⟨x,y,z,rfl,⟨zan lx (by decide),zan ly (by decide),zan lz (by decide)⟩,z0,by omega,fun q H' r g h=>k q H' r ((za4 hp _).trans g) h⟩
  rcases(by omega:m=0∨m=1∨m=2∨m=3∨m=4) with rfl|rfl|rfl|rfl|rfl
  ·exact⟨_,at0,fin 1 (by decide) (by decide)⟩
  ·exact⟨_,at1,fin 1 (by decide) (by decide)⟩
  ·exact⟨_,at2,fin 2 (by decide) (by decide)⟩
  ·exact⟨_,at3,fin 3 (by decide) (by decide)⟩
  ·exact⟨_,at4,fin 4 (by decide) (by decide)⟩
def zp1:Sp:=fun vs H Q _=>∃(p q r:Addr)(x1 y1 w1 x2 y2 w2 x3 y3 w3:Int),vs=[.ref p,.ref q,.ref r]/\TB 1000 H p x1 y1 w1/\TB 1000 H q x2 y2 w2/\TB 5000 H r x3 y3 w3/\Q (.int (sgn (det3 x1 y1 w1 x2 y2 w2 x3 y3 w3))) H
theorem zfw(T:Txt K mg ad fd):FnOk P w K mg base CX0 1 (ad 31) (fd 31) ["_law_one","_law_two","_law_three"] zp1:=by
 refine T.law_turn.fn.ok zem (fun vs H Q E h=>?_) (fun cdv A outer s H vs Q E hr h=>?_)
 ·obtain⟨p,q,r,x1,y1,w1,x2,y2,w2,x3,y3,w3,rfl,_⟩:=h;rfl
 obtain⟨p,q,r,x1,y1,w1,x2,y2,w2,x3,y3,w3,rfl,hp,hq,hr',k⟩:=h;have zD:=@pss4;have zh:=@zbv;have zc:=@zd7;have zb:=@zck;have qpv:=@pv;have za:=@zat;have zd:=@zaj;have zL:=@zea;have zj:=@pa1;have zB:=@zef;generalize @PE=QE,@PT=QT,@PW=QW,@PA=QA,@PS=QS,@PSs=QSs,@PG=QG,@PGs=QGs,@L2.PI=QI,@PO=QO,@PIf=QIf at zD zh zc zb qpv za zd zL zj zB⊢;refine⟨_,
  (zD
   (zh (i:=3) zem.nd rfl (km rfl) (zc zaa (zb za2 (qpv 0) za fun _ _=>rfl) (zc zdx (zc zaa (zb za2 (qpv 1) za fun _ _=>rfl) (zb za2 (qpv 2) za fun _ _=>rfl)) (zc zaa (zb za2 (qpv 1) za fun _ _=>rfl) (zb za2 (qpv 2) za fun _ _=>rfl)))))
   (zh (i:=3) zem.nd rfl (km rfl) (zc zdx (qpv 3) (zc zaa (zb za2 (qpv 0) za fun _ _=>rfl) (zc zdx (zc zaa (zb za2 (qpv 1) za fun _ _=>rfl) (zb za2 (qpv 2) za fun _ _=>rfl)) (zc zaa (zb za2 (qpv 1) za fun _ _=>rfl) (zb za2 (qpv 2) za fun _ _=>rfl))))))
   (zh (i:=3) zem.nd rfl (km rfl) (zc zc5 (qpv 3) (zc zaa (zb za2 (qpv 0) za fun _ _=>rfl) (zc zdx (zc zaa (zb za2 (qpv 1) za fun _ _=>rfl) (zb za2 (qpv 2) za fun _ _=>rfl)) (zc zaa (zb za2 (qpv 1) za fun _ _=>rfl) (zb za2 (qpv 2) za fun _ _=>rfl))))))
   (zd (zc zdx (zL zl2 rfl T.b_int zrl (zj (zB op_gt (qpv 3) za (nomark _)) zbc)) (zL zl2 rfl T.b_int zrl (zj (zB zgy (qpv 3) za (nomark _)) zbc)))))
  ,?_⟩
 clear zD zh zc zb qpv za zd zL zj zB QE QT QW QA QS QSs QG QGs QI QO QIf
 dsimp! [L2.start]
 simp! [hp.1,hq.1,hr'.1,zs7,PyProof.Rows.b2i,decide_eq_true_eq];have c1:(y2*w3-w2*y3).natAbs<2^(6000+1):=zdv (zas hq.2.2.1 hr'.2.2.2) (zas hq.2.2.2 hr'.2.2.1);have c2:(x2*w3-w2*x3).natAbs<2^(6000+1):=zdv (zas hq.2.1 hr'.2.2.2) (zas hq.2.2.2 hr'.2.1);have c3:(x2*y3-y2*x3).natAbs<2^(6000+1):=zdv (zas hq.2.1 hr'.2.2.1) (zas hq.2.2.1 hr'.2.1);refine⟨cbig hq.2.2.1 hr'.2.2.2,cbig hq.2.2.2 hr'.2.2.1,cbig hp.2.1 c1,cbig hq.2.1 hr'.2.2.2,cbig hq.2.2.2 hr'.2.1,cbig hp.2.2.1 c2,cbig hq.2.1 hr'.2.2.1,cbig hq.2.2.1 hr'.2.1,cbig hp.2.2.2 c3,?_⟩;rw[sgn_diff];exact k
def zsw:Sp:=fun vs H Q _=>∃(p q:Addr)(x1 y1 w1 x2 y2 w2:Int),vs=[.ref p,.ref q]/\TB 5000 H p x1 y1 w1/\TB 5000 H q x2 y2 w2/\Q (.bl (decide (x1*w2<x2*w1))) H
def sp_lower:Sp:=fun vs H Q _=>∃(p q:Addr)(x1 y1 w1 x2 y2 w2:Int),vs=[.ref p,.ref q]/\TB 5000 H p x1 y1 w1/\TB 5000 H q x2 y2 w2/\Q (.bl (decide (y1*w2<y2*w1))) H
theorem zcc(T:Txt K mg ad fd):FnOk P w K mg base CX0 1 (ad 32) (fd 32) ["_law_one","_law_other"] zsw:=by
 refine T.law_lefter.fn.ok zix (fun vs H Q E h=>?_) (fun cdv A outer s H vs Q E hr h=>?_)
 ·obtain⟨p,q,x1,y1,w1,x2,y2,w2,rfl,_⟩:=h;rfl
 obtain⟨p,q,x1,y1,w1,x2,y2,w2,rfl,hp,hq,k⟩:=h;have zf:=@zac;have zd:=@zaj;have zB:=@zef;have zc:=@zd7;have zb:=@zck;have qpv:=@pv;have za:=@zat;generalize @PE=QE,@PT=QT,@PW=QW,@PA=QA,@PS=QS,@PSs=QSs,@PG=QG,@PGs=QGs,@L2.PI=QI,@PO=QO,@PIf=QIf at zf zd zB zc zb qpv za⊢;refine⟨_,
  (zf (zd (zB zgy (zc zaa (zb za2 (qpv 0) za fun _ _=>rfl) (zb za2 (qpv 1) za fun _ _=>rfl)) (zc zaa (zb za2 (qpv 1) za fun _ _=>rfl) (zb za2 (qpv 0) za fun _ _=>rfl)) (nomark _))))
  ,?_⟩
 clear zf zd zB zc zb qpv za QE QT QW QA QS QSs QG QGs QI QO QIf
 dsimp! [L2.start]
 simp! [hp.1,hq.1];exact⟨cbig hp.2.1 hq.2.2.2,cbig hq.2.1 hp.2.2.2,k⟩
theorem zc8(T:Txt K mg ad fd):FnOk P w K mg base CX0 1 (ad 33) (fd 33) ["_law_one","_law_other"] sp_lower:=by
 refine T.law_lower.fn.ok zk3 (fun vs H Q E h=>?_) (fun cdv A outer s H vs Q E hr h=>?_)
 ·obtain⟨p,q,x1,y1,w1,x2,y2,w2,rfl,_⟩:=h;rfl
 obtain⟨p,q,x1,y1,w1,x2,y2,w2,rfl,hp,hq,k⟩:=h;have zf:=@zac;have zd:=@zaj;have zB:=@zef;have zc:=@zd7;have zb:=@zck;have qpv:=@pv;have za:=@zat;generalize @PE=QE,@PT=QT,@PW=QW,@PA=QA,@PS=QS,@PSs=QSs,@PG=QG,@PGs=QGs,@L2.PI=QI,@PO=QO,@PIf=QIf at zf zd zB zc zb qpv za⊢;refine⟨_,
  (zf (zd (zB zgy (zc zaa (zb za2 (qpv 0) za fun _ _=>rfl) (zb za2 (qpv 1) za fun _ _=>rfl)) (zc zaa (zb za2 (qpv 1) za fun _ _=>rfl) (zb za2 (qpv 0) za fun _ _=>rfl)) (nomark _))))
  ,?_⟩
 clear zf zd zB zc zb qpv za QE QT QW QA QS QSs QG QGs QI QO QIf
 dsimp! [L2.start]
 simp! [hp.1,hq.1];exact⟨cbig hp.2.2.1 hq.2.2.2,cbig hq.2.2.1 hp.2.2.2,k⟩
theorem zen(T:Txt K mg ad fd):FnOk P w K mg base CX0 2 (ad 34) (fd 34) ["_law_one","_law_other"] zik:=by
 refine T.law_before.fn.ok zj5 (fun vs H Q E h=>?_) (fun cdv A outer s H vs Q E hr h=>?_)
 ·obtain⟨p,q,x1,y1,w1,x2,y2,w2,rfl,_⟩:=h;rfl
 obtain⟨p,q,x1,y1,w1,x2,y2,w2,rfl,hp,hq,k⟩:=h;have zx:=@pss2;have zm:=@zdb;have zH:=@PW.pt;have zW:=@pw_or;have zv:=@zer;have ze:=@zap;have zg:=@pa2;have qpv:=@pv;have yc:=@zs3;have zf:=@zac;have zd:=@zaj;have zn:=@zau;generalize @PE=QE,@PT=QT,@PW=QW,@PA=QA,@PS=QS,@PSs=QSs,@PG=QG,@PGs=QGs,@L2.PI=QI,@PO=QO,@PIf=QIf at zx zm zH zW zv ze zg qpv yc zf zd zn⊢;refine⟨_,
  (zx
   (zm (zH (zW (zv (ze (zcc T) (hr.mono (by decide)) rfl T.law_lefter.mg T.law_lefter.fn.kp T.law_lefter.bn .nil pass0 (zg (qpv 0) za1 (qpv 1) za1))) (yc (zv (ze (zcc T) (hr.mono (by decide)) rfl T.law_lefter.mg T.law_lefter.fn.kp T.law_lefter.bn .nil pass0 (zg (qpv 1) za1 (qpv 0) za1)))))) (zf (zd (ze (zcc T) (hr.mono (by decide)) rfl T.law_lefter.mg T.law_lefter.fn.kp T.law_lefter.bn .nil pass0 (zg (qpv 0) za1 (qpv 1) za1)))) zn)
   (zd (ze (zc8 T) (hr.mono (by decide)) rfl T.law_lower.mg T.law_lower.fn.kp T.law_lower.bn .nil pass0 (zg (qpv 0) za1 (qpv 1) za1))))
  ,?_⟩
 clear zx zm zH zW zv ze zg qpv yc zf zd zn QE QT QW QA QS QSs QG QGs QI QO QIf
 dsimp! [L2.start]
 simp! [];unfold bef at k;refine⟨p,q,_,_,_,_,_,_,rfl,hp,hq,_,rfl,ite2 (fun c=>?_) fun c=>?_⟩
 ·refine⟨p,q,_,_,_,_,_,_,rfl,hp,hq,?_⟩;have c':=of_decide_eq_true c;rw[if_neg (by omega)] at k
  exact k
 ·refine⟨q,p,_,_,_,_,_,_,rfl,hq,hp,_,rfl,ite2 (fun c2=>?_) fun c2=>?_⟩
  ·refine⟨p,q,_,_,_,_,_,_,rfl,hp,hq,?_⟩;have c':=of_decide_eq_true c2;rw[if_neg (by omega)] at k
   exact k
  ·refine⟨p,q,_,_,_,_,_,_,rfl,hp,hq,?_⟩;have c':¬x1*w2<x2*w1:=fun z=>c (decide_eq_true z);have c2':¬x2*w1<x1*w2:=fun z=>c2 (decide_eq_true z);rw[if_pos (by omega)] at k
   exact k
def sp_lfar:Sp:=fun vs H Q _=>∃c:Int,vs=[.int c]/\∀(f:Int) H',Same H H'->f.natAbs<2^80->Q (.int f) H'
theorem ziv(T:Txt K mg ad fd):FnOk P w K mg base CX0 1 (ad 40) (fd 40) ["_law_cell"] sp_lfar:=by
 refine T.law_far.fn.ok zo3 (fun vs H Q E h=>?_) (fun cdv A outer s H vs Q E hr h=>?_)
 ·obtain⟨c,rfl,_⟩:=h;rfl
 obtain⟨c,rfl,k⟩:=h;have zf:=@zac;have zd:=@zaj;have zb:=@zck;have zC:=@zfi;have yM:=@pa6;have za:=@zat;have zc:=@zd7;have qpv:=@pv;generalize @PE=QE,@PT=QT,@PW=QW,@PA=QA,@PS=QS,@PSs=QSs,@PG=QG,@PGs=QGs,@L2.PI=QI,@PO=QO,@PIf=QIf at zf zd zb zC yM za zc qpv⊢;refine⟨_,
  (zf (zd (zb zbl (zC (yM za za9 za za9 za za9 za za9 za za9 (zc zc5 (zc op_pow za za) za) zam)) (zc zcw (qpv 0) za) fun _ _=>rfl)))
  ,?_⟩
 clear zf zd zb zC yM za zc qpv QE QT QW QA QS QSs QG QGs QI QO QIf
 dsimp! [L2.start]
 simp! [];refine⟨⟨by decide,by decide,by decide⟩,by decide,fun p hp=>⟨by decide,?_⟩⟩
 have m0:=Uj c (show(6:Int)≠0 by decide)
 have m6:=UC c (show(0:Int)<6 by decide)
 have g:=za4 hp (HO.lst [V.int 1,V.int 1,V.int 1,V.int 1,V.int 1000003,V.int (10^vG 20+39)]);generalize c%6=m at*;rcases(by omega:m=0∨m=1∨m=2∨m=3∨m=4∨m=5) with rfl|rfl|rfl|rfl|rfl|rfl
 ·exact⟨_,at0,k _ _ g (by decide)⟩
 ·exact⟨_,at1,k _ _ g (by decide)⟩
 ·exact⟨_,at2,k _ _ g (by decide)⟩
 ·exact⟨_,at3,k _ _ g (by decide)⟩
 ·exact⟨_,at4,k _ _ g (by decide)⟩
 ·exact⟨_,at5,k _ _ g (by decide)⟩
def sp_sdQ:Sp:=fun vs H Q _=>∃(p q:Addr)(a b:Q3),vs=[.ref p,.ref q]/\PtQ 100 H p a/\PtQ 100 H q b/\a≠b/\∀r H',Same H H'->StE 130 H' r (ordE a b)->Q (.ref r) H'
theorem zfj(T:Txt K mg ad fd):FnOk P w K mg base CX0 3 (ad 35) (fd 35) ["_law_one","_law_other"] sp_sdQ:=by
 refine T.law_stretch.fn.ok zib (fun vs H Q E h=>?_) (fun cdv A outer s H vs Q E hr h=>?_)
 ·obtain⟨p,q,a,b,rfl,_⟩:=h;rfl
 obtain⟨p,q,a,b,rfl,hp,hq,ne,k⟩:=h;have zx:=@pss2;have zm:=@zdb;have zv:=@zer;have ze:=@zap;have zg:=@pa2;have qpv:=@pv;have zf:=@zac;have zd:=@zaj;have zr:=@zdg;have zn:=@zau;generalize @PE=QE,@PT=QT,@PW=QW,@PA=QA,@PS=QS,@PSs=QSs,@PG=QG,@PGs=QGs,@L2.PI=QI,@PO=QO,@PIf=QIf at zx zm zv ze zg qpv zf zd zr zn⊢;refine⟨_,
  (zx
   (zm (zv (ze (zen T) (hr.mono (by decide)) rfl T.law_before.mg T.law_before.fn.kp T.law_before.bn .nil pass0 (zg (qpv 0) za1 (qpv 1) za1))) (zf (zd (zr (zg (qpv 0) za1 (qpv 1) za1)))) zn)
   (zd (zr (zg (qpv 1) za1 (qpv 0) za1))))
  ,?_⟩
 clear zx zm zv ze zg qpv zf zd zr zn QE QT QW QA QS QSs QG QGs QI QO QIf
 dsimp! [L2.start]
 simp! [];have up:∀{H:Hp}{p:Addr}{r:Q3},PtQ 100 H p r->PtQ 130 H p r:=fun h=>PtH.mono h (by decide)
 have z3:=(zqd hp.2 hq.2 ne).2.2;unfold ordE at k z3;refine⟨p,q,_,_,_,_,_,_,rfl,hp.tb,hq.tb,_,rfl,ite2 (fun c=>?_) fun c=>?_⟩
 ·intro r hr';have g:=za4 hr' (HO.tup [V.ref p,V.ref q]);have z:=k r _ g;have c':bq a b=true:=c;rw[if_pos c'] at z z3;exact z ⟨p,q,upd_same,(up hp).same g,(up hq).same g,z3⟩
 ·intro r hr';have g:=za4 hr' (HO.tup [V.ref q,V.ref p]);have z:=k r _ g;have c':¬bq a b=true:=c;rw[if_neg c'] at z z3;exact z ⟨q,p,upd_same,(up hq).same g,(up hp).same g,z3⟩
def sp_lamid:Sp:=fun vs H Q _=>∃(p q:Addr)(f:Q3×Q3),vs=[.ref p,.ref q]/\QH H p f.1/\QH H q f.2/\∀(r:Addr)(H':Hp),Same H H'->H' r=some (.tup [.int (midQ f).x,.int (midQ f).y,.int (midQ f).w])->Q (.ref r) H'
theorem zhi(T:Txt K mg ad fd):FnOk P w K mg base CX0 1 (ad 38) (fd 38) ["_law_one","_law_other"] sp_lamid:=by
 refine T.law_amid.fn.ok zfv (fun vs H Q E h=>?_) (fun cdv A outer s H vs Q E hr h=>?_)
 ·obtain⟨p,q,f,rfl,_⟩:=h;rfl
 obtain⟨p,q,f,rfl,hp,hq,k⟩:=h;have zy:=@pss3;have zh:=@zbv;have zc:=@zd7;have zb:=@zck;have qpv:=@pv;have za:=@zat;have zd:=@zaj;have zr:=@zdg;have zt:=@pa3;generalize @PE=QE,@PT=QT,@PW=QW,@PA=QA,@PS=QS,@PSs=QSs,@PG=QG,@PGs=QGs,@L2.PI=QI,@PO=QO,@PIf=QIf at zy zh zc zb qpv za zd zr zt⊢;refine⟨_,
  (zy
   (zh (i:=2) zfv.nd rfl (km rfl) (zc zc5 (zc zaa (zb za2 (qpv 0) za fun _ _=>rfl) (zb za2 (qpv 1) za fun _ _=>rfl)) (zc zaa (zb za2 (qpv 1) za fun _ _=>rfl) (zb za2 (qpv 0) za fun _ _=>rfl))))
   (zh (i:=3) zfv.nd rfl (km rfl) (zc zc5 (zc zaa (zb za2 (qpv 0) za fun _ _=>rfl) (zb za2 (qpv 1) za fun _ _=>rfl)) (zc zaa (zb za2 (qpv 1) za fun _ _=>rfl) (zb za2 (qpv 0) za fun _ _=>rfl))))
   (zd (zr (zt (qpv 2) za1 (qpv 3) za1 (zc zaa (zc zko za (zb za2 (qpv 0) za fun _ _=>rfl)) (zb za2 (qpv 1) za fun _ _=>rfl)) zam))))
  ,?_⟩
 clear zy zh zc zb qpv za zd zr zt QE QT QW QA QS QSs QG QGs QI QO QIf
 dsimp! [L2.start]
 have tp:=hp.tb (n:=1000);have tq:=hq.tb (n:=1000);simp! [tp.1,tq.1];have l2:(2*f.1.w).natAbs<2^(2+1000):=zas (by decide) tp.2.2.2
 exact⟨cbig tp.2.1 tq.2.2.2,cbig tq.2.1 tp.2.2.2,cbig tp.2.2.1 tq.2.2.2,cbig tq.2.2.1 tp.2.2.2,.inl ⟨by decide,by decide⟩,cbig l2 tq.2.2.2,fun r hr'=>k r _ (za4 hr' _) upd_same⟩
def znv:Sp:=fun vs H Q _=>∃(l q:Addr)(ys:List V)(ss:List (Q3×Q3))(m:Q3),vs=[.ref l,.ref q]/\H l=some (.lst ys)/\LR (StE 130) H ys ss/\TB 5000 H q m.x m.y m.w/\Q (.int (cnt (vB m) ss)) H
theorem zgu(T:Txt K mg ad fd):FnOk P w K mg base CX0 2 (ad 36) (fd 36) ["_law_stretches","_law_spot"] znv:=by
 refine T.law_above.fn.ok zdd (fun vs H Q E h=>?_) (fun cdv A outer s H vs Q E hr h=>?_)
 ·obtain⟨l,q,ys,ss,m,rfl,_⟩:=h;rfl
 obtain⟨l,q,ys,ss,m,rfl,hl,hs,hq,k⟩:=h;have zy:=@pss3;have zh:=@zbv;have za:=@zat;have zu:=@zdw;have zq:=@zc4;have qpv:=@pv;have zX:=@zk4;have zF:=@zfb;have zo:=@zbw;have zP:=@zgh;have zf:=@zac;have zm:=@zdb;have zH:=@PW.pt;have zS:=@zk1;have zO:=@zkj;have zv:=@zer;have ze:=@zap;have zg:=@pa2;have zU:=@zhl;have zp:=@zb8;have zt:=@pa3;have zc:=@zd7;have zn:=@zau;have zd:=@zaj;generalize @PE=QE,@PT=QT,@PW=QW,@PA=QA,@PS=QS,@PSs=QSs,@PG=QG,@PGs=QGs,@L2.PI=QI,@PO=QO,@PIf=QIf at zy zh za zu zq qpv zX zF zo zP zf zm zH zS zO zv ze zg zU zp zt zc zn zd⊢;refine⟨_,
  (zy
   (zh (i:=2) zdd.nd rfl (km rfl) za)
   (zu pT rfl (zq (qpv 0)) (zX (n:=2) rfl (zF (zo (i:=3) zdd.nd rfl (km rfl)) (zF (zo (i:=4) zdd.nd rfl (km rfl)) zP))) (zf (zm (zH (zS (zO (zv (ze (zcc T) (hr.mono (by decide)) rfl T.law_lefter.mg T.law_lefter.fn.kp T.law_lefter.bn .nil pass0 (zg (qpv 1) za1 (qpv 3) za1)))) (zS (zv (ze (zcc T) (hr.mono (by decide)) rfl T.law_lefter.mg T.law_lefter.fn.kp T.law_lefter.bn .nil pass0 (zg (qpv 1) za1 (qpv 4) za1))) (zU (zp zgy (ze (zfw T) (hr.mono (by decide)) rfl T.law_turn.mg T.law_turn.fn.kp T.law_turn.bn .nil pass0 (zt (qpv 3) za1 (qpv 4) za1 (qpv 1) za1)) za (nomark _)))))) (zf (zh (i:=2) zdd.nd rfl (km rfl) (zc zc5 (qpv 2) za))) zn)))
   (zd (qpv 2)))
  ,?_⟩
 clear zy zh za zu zq qpv zX zF zo zP zf zm zH zS zO zv ze zg zU zp zt zc zn zd QE QT QW QA QS QSs QG QGs QI QO QIf
 dsimp! [L2.start]
 simp! [];refine zbo ?_;simp! [zcm];refine⟨⟨_,.of hl⟩,?_⟩;refine zbh (K:=K) (a:=l) (xs:=ys) (fun i σ H'=>H'=H/\∃u v,σ=[some (V.ref l),some (V.ref q),some (.int (cnt (vB m) (ss.take i))),u,v]) ⟨rfl,none,none,rfl⟩ (fun i σ H' _ iv=>by rw[iv.1];exact .of hl) ?_ ?_
 ·intro _ _;rintro i v σ H2 hi ⟨rfl,u,v',rfl⟩;obtain⟨p,d,rfl,hd,a,b,hp,hA,hB,_⟩:=hs.2 i v hi;have ct:=zfc (p:=vB m) hd;simp! [hp];refine⟨_,.of hp,rfl,_,_,rfl,_,_,rfl,rfl,q,a,_,_,_,_,_,_,rfl,hq,hA.tb,_,rfl,ite2 (fun c=>?_) (fun c=>⟨rfl,?_⟩)⟩
  ·refine⟨q,b,_,_,_,_,_,_,rfl,hq,hB.tb,_,rfl,ite2 (fun c2=>?_) (fun c2=>⟨rfl,?_⟩)⟩
   ·refine⟨a,b,q,_,_,_,_,_,_,_,_,_,rfl,hA.tb,hB.tb,hq,_,rfl,ite2 (fun c3=>⟨rfl,?_⟩) (fun c3=>⟨rfl,?_⟩)⟩
    ·rw[ct,zfm (v_iff.mpr ⟨by simpa using c,of_decide_eq_true c2,zng.mp (of_decide_eq_true c3)⟩)]
     rfl
    ·rw[ct,zc6 fun z=>c3 (decide_eq_true (zng.mpr (v_iff.mp z).2.2))];rfl
   ·rw[ct,zc6 fun z=>c2 (decide_eq_true (v_iff.mp z).2.1)];rfl
  ·rw[ct,zc6 fun z=>c (by simpa using(v_iff.mp z).1)]
   rfl
 ·rintro σ H2 ⟨rfl,u,v',rfl⟩;simp! [];rw[hs.1,uM];exact k
def sp_lonQ:Sp:=fun vs H Q _=>∃(p s:Addr)(e:Q3×Q3)(m:Q3),vs=[.ref p,.ref s]/\StE 130 H s e/\TB 5000 H p m.x m.y m.w/\Q (.bl (oB m e)) H
theorem zjt(T:Txt K mg ad fd):FnOk P w K mg base CX0 3 (ad 37) (fd 37) ["_law_spot","_law_piece"] sp_lonQ:=by
 refine T.law_on.fn.ok zq2 (fun vs H Q E h=>?_) (fun cdv A outer s H vs Q E hr h=>?_)
 ·obtain⟨p,s,e,m,rfl,_⟩:=h;rfl
 obtain⟨p,s,e,m,rfl,⟨a,b,hs,ha,hb,_⟩,hp,z⟩:=h;have zx:=@pss2;have zm:=@zdb;have zp:=@zb8;have ze:=@zap;have zt:=@pa3;have zb:=@zck;have qpv:=@pv;have za:=@zat;have zf:=@zac;have zd:=@zaj;have zN:=@znl;have zn:=@zau;have ye:=@zp0;have zY:=@zqu;have zg:=@pa2;have yf:=@zqw;generalize @PE=QE,@PT=QT,@PW=QW,@PA=QA,@PS=QS,@PSs=QSs,@PG=QG,@PGs=QGs,@L2.PI=QI,@PO=QO,@PIf=QIf at zx zm zp ze zt zb qpv za zf zd zN zn ye zY zg yf⊢;refine⟨_,
  (zx
   (zm (zp zpi (ze (zfw T) (hr.mono (by decide)) rfl T.law_turn.mg T.law_turn.fn.kp T.law_turn.bn .nil pass0 (zt (zb za2 (qpv 1) za fun _ _=>rfl) za3 (zb za2 (qpv 1) za fun _ _=>rfl) za3 (qpv 0) za1)) za (nomark _)) (zf (zd zN)) zn)
   (zd (ye (zY (ze (zen T) (hr.mono (by decide)) rfl T.law_before.mg T.law_before.fn.kp T.law_before.bn .nil pass0 (zg (qpv 0) za1 (zb za2 (qpv 1) za fun _ _=>rfl) za3))) (yf (zY (ze (zen T) (hr.mono (by decide)) rfl T.law_before.mg T.law_before.fn.kp T.law_before.bn .nil pass0 (zg (zb za2 (qpv 1) za fun _ _=>rfl) za3 (qpv 0) za1)))))))
  ,?_⟩
 clear zx zm zp ze zt zb qpv za zf zd zN zn ye zY zg yf QE QT QW QA QS QSs QG QGs QI QO QIf
 dsimp! [L2.start]
 simp! [hs];unfold oB on3 onB at z;have ha1:=ha.tb (n:=5000);have hb1:=hb.tb (n:=5000);refine⟨a,b,p,_,_,_,_,_,_,_,_,_,rfl,ha.tb,hb.tb,hp,rfl,?_⟩;simp! [hs];refine ite2 (fun c=>?_) (fun c=>?_)
 ·rw[if_neg (fun y=>absurd c (by rw[y];decide))] at z
  exact z
 ·have c':sgn (det3 e.1.x e.1.y e.1.w e.2.x e.2.y e.2.w m.x m.y m.w)=0:=by simpa using c
  rw[if_pos c'] at z;refine⟨p,a,_,_,_,_,_,_,rfl,hp,ha1,_,rfl,ite2 (fun c2=>?_) fun c2=>?_⟩
  ·have c2':bef m.x m.y m.w e.1.x e.1.y e.1.w=false:=by simpa using c2
   simp! [hs];refine⟨b,p,_,_,_,_,_,_,rfl,hb1,hp,_,rfl,?_⟩;rw[c2',vm,gC] at z;exact z
  ·have c2':bef m.x m.y m.w e.1.x e.1.y e.1.w=true:=by simpa using c2
   rw[c2',Qr,Bh] at z;exact z
theorem zn7{z:Int}:0<sgn z↔0<z:=by
 rcases zbe z with⟨a,b⟩|⟨a,b⟩|⟨a,b⟩<;>omega
theorem zkr{m:Q3}{e:Q3×Q3}{a b:Q3}(h:loE e=(a,b)):hB m e=true↔(¬m.y*a.w<a.y*m.w/\m.y*b.w<b.y*m.w/\0<dt a b m):=by
 unfold hB;rw[h];simp only[vF,Qx,decide_eq_true_eq,decide_eq_false_iff_not]
def sp_lbes:Sp:=fun vs H Q _=>∃(l q:Addr)(ys:List V)(ss:List (Q3×Q3))(m:Q3),vs=[.ref l,.ref q]/\H l=some (.lst ys)/\LR (StE 130) H ys ss/\TB 5000 H q m.x m.y m.w/\Q (.int (cnt (hB m) ss)) H
theorem zjg(T:Txt K mg ad fd):FnOk P w K mg base CX0 2 (ad 42) (fd 42) ["_law_sides_here","_law_spot"] sp_lbes:=by
 refine T.law_beside.fn.ok zbg (fun vs H Q E h=>?_) (fun cdv A outer s H vs Q E hr h=>?_)
 ·obtain⟨l,q,ys,ss,m,rfl,_⟩:=h;rfl
 obtain⟨l,q,ys,ss,m,rfl,hl,hs,hq,k⟩:=h;have zy:=@pss3;have zh:=@zbv;have za:=@zat;have zu:=@zdw;have zq:=@zc4;have qpv:=@pv;have zo:=@zbw;have zD:=@pss4;have zb:=@zck;have zm:=@zdb;have zv:=@zer;have ze:=@zap;have zg:=@pa2;have zx:=@pss2;have zn:=@zau;have zH:=@PW.pt;have zS:=@zk1;have zO:=@zkj;have zU:=@zhl;have zp:=@zb8;have zt:=@pa3;have zf:=@zac;have zc:=@zd7;have zd:=@zaj;generalize @PE=QE,@PT=QT,@PW=QW,@PA=QA,@PS=QS,@PSs=QSs,@PG=QG,@PGs=QGs,@L2.PI=QI,@PO=QO,@PIf=QIf at zy zh za zu zq qpv zo zD zb zm zv ze zg zx zn zH zS zO zU zp zt zf zc zd⊢;refine⟨_,
  (zy
   (zh (i:=2) zbg.nd rfl (km rfl) za)
   (zu pT rfl (zq (qpv 0)) (zo (i:=3) zbg.nd rfl (km rfl)) (zD
   (zh (i:=4) zbg.nd rfl (km rfl) (zb za2 (qpv 3) za fun _ _=>rfl))
   (zh (i:=5) zbg.nd rfl (km rfl) (zb za2 (qpv 3) za fun _ _=>rfl))
   (zm (zv (ze (zc8 T) (hr.mono (by decide)) rfl T.law_lower.mg T.law_lower.fn.kp T.law_lower.bn .nil pass0 (zg (qpv 5) za1 (qpv 4) za1))) (zx
   (zh (i:=4) zbg.nd rfl (km rfl) (zb za2 (qpv 3) za fun _ _=>rfl))
   (zh (i:=5) zbg.nd rfl (km rfl) (zb za2 (qpv 3) za fun _ _=>rfl))) zn)
   (zm (zH (zS (zO (zv (ze (zc8 T) (hr.mono (by decide)) rfl T.law_lower.mg T.law_lower.fn.kp T.law_lower.bn .nil pass0 (zg (qpv 1) za1 (qpv 4) za1)))) (zS (zv (ze (zc8 T) (hr.mono (by decide)) rfl T.law_lower.mg T.law_lower.fn.kp T.law_lower.bn .nil pass0 (zg (qpv 1) za1 (qpv 5) za1))) (zU (zp op_gt (ze (zfw T) (hr.mono (by decide)) rfl T.law_turn.mg T.law_turn.fn.kp T.law_turn.bn .nil pass0 (zt (qpv 4) za1 (qpv 5) za1 (qpv 1) za1)) za (nomark _)))))) (zf (zh (i:=2) zbg.nd rfl (km rfl) (zc zc5 (qpv 2) za))) zn)))
   (zd (qpv 2)))
  ,?_⟩
 clear zy zh za zu zq qpv zo zD zb zm zv ze zg zx zn zH zS zO zU zp zt zf zc zd QE QT QW QA QS QSs QG QGs QI QO QIf
 dsimp! [L2.start]
 simp! [];refine zbo ?_;simp! [zcm];refine⟨⟨_,.of hl⟩,?_⟩;refine zbh (K:=K) (a:=l) (xs:=ys) (fun i σ H'=>H'=H/\∃u v t,σ=[some (V.ref l),some (V.ref q),some (.int (cnt (hB m) (ss.take i))),u,v,t]) ⟨rfl,none,none,none,rfl⟩ (fun i σ H' _ iv=>by rw[iv.1];exact .of hl) ?_ ?_
 ·intro _ _;rintro i v σ H2 hi ⟨rfl,u,v',t,rfl⟩;obtain⟨p,d,rfl,hd,a,b,hp,hA,hB,_⟩:=hs.2 i v hi;have ct:=zfc (p:=Mine.hB m) hd;simp! [hp];refine⟨b,a,_,_,_,_,_,_,rfl,hB.tb,hA.tb,_,rfl,ite2 (fun c=>?_) fun c=>?_⟩
  ·have lo:loE d=(d.2,d.1):=if_pos (of_decide_eq_true c);simp! [hp];refine⟨q,b,_,_,_,_,_,_,rfl,hq,hB.tb,_,rfl,ite2 (fun c1=>?_) (fun c1=>⟨rfl,?_⟩)⟩
   ·refine⟨q,a,_,_,_,_,_,_,rfl,hq,hA.tb,_,rfl,ite2 (fun c2=>?_) (fun c2=>⟨rfl,?_⟩)⟩
    ·refine⟨b,a,q,_,_,_,_,_,_,_,_,_,rfl,hB.tb,hA.tb,hq,_,rfl,ite2 (fun c3=>⟨rfl,?_⟩) (fun c3=>⟨rfl,?_⟩)⟩
     ·rw[ct,zfm ((zkr lo).mpr ⟨by simpa using c1,of_decide_eq_true c2,zn7.mp (of_decide_eq_true c3)⟩)]
      rfl
     ·rw[ct,zc6 fun z=>c3 (decide_eq_true (zn7.mpr ((zkr lo).mp z).2.2))];rfl
    ·rw[ct,zc6 fun z=>c2 (decide_eq_true ((zkr lo).mp z).2.1)];rfl
   ·rw[ct,zc6 fun z=>c1 (by simpa using((zkr lo).mp z).1)]
    rfl
  ·have lo:loE d=(d.1,d.2):=if_neg (fun z=>c (decide_eq_true z));refine⟨q,a,_,_,_,_,_,_,rfl,hq,hA.tb,_,rfl,ite2 (fun c1=>?_) (fun c1=>⟨rfl,?_⟩)⟩
   ·refine⟨q,b,_,_,_,_,_,_,rfl,hq,hB.tb,_,rfl,ite2 (fun c2=>?_) (fun c2=>⟨rfl,?_⟩)⟩
    ·refine⟨a,b,q,_,_,_,_,_,_,_,_,_,rfl,hA.tb,hB.tb,hq,_,rfl,ite2 (fun c3=>⟨rfl,?_⟩) (fun c3=>⟨rfl,?_⟩)⟩
     ·rw[ct,zfm ((zkr lo).mpr ⟨by simpa using c1,of_decide_eq_true c2,zn7.mp (of_decide_eq_true c3)⟩)]
      rfl
     ·rw[ct,zc6 fun z=>c3 (decide_eq_true (zn7.mpr ((zkr lo).mp z).2.2))];rfl
    ·rw[ct,zc6 fun z=>c2 (decide_eq_true ((zkr lo).mp z).2.1)];rfl
   ·rw[ct,zc6 fun z=>c1 (by simpa using((zkr lo).mp z).1)]
    rfl
 ·rintro σ H2 ⟨rfl,u,v',t,rfl⟩;simp! [];rw[hs.1,uM];exact k
theorem odI(n:Nat):decide ((n:Int)%2=1)=odd2 n:=by unfold odd2;rw[decide_eq_decide];omega
theorem odI2(m n:Nat):decide (((m:Int)+(n:Int))%2=1)=odd2 (m+n):=by rw[←odI,Do]
def zqx(R:Q3×Q3->List (Q3×Q3)->Bool×Bool):Sp:=fun vs H Q _=>∃(s l:Addr)(f:Q3×Q3)(ys:List V)(ss:List (Q3×Q3)),vs=[.ref s,.ref l]/\S2H H s f/\bq f.1 f.2=true/\H l=some (.lst ys)/\ys.length<=13/\LR (StE 130) H ys ss/\∀(t:Addr) H',Same H H'->H' t=some (.tup [.bl (R f ss).1,.bl (R f ss).2])->Q (.ref t) H'
theorem zk8(T:Txt K mg ad fd):FnOk P w K mg base CX0 4 (ad 43) (fd 43) ["_law_piece","_law_sides_here"] (zqx hndL):=by
 refine T.law_hands.fn.ok zdf (fun vs H Q E h=>?_) (fun cdv A outer s H vs Q E hr h=>?_)
 ·obtain⟨s,l,f,ys,ss,rfl,_⟩:=h;rfl
 obtain⟨s,l,f,ys,ss,rfl,⟨a,b,hp,ha,hb⟩,bf,hl,hz,hs,k⟩:=h;have yN:=@pss6;have zh:=@zbv;have ze:=@zap;have zg:=@pa2;have zb:=@zck;have qpv:=@pv;have za:=@zat;have zw:=@zce;have zj:=@pa1;have zA:=@ze0;unfold L2.CompBody at zA;have zq:=@zc4;have zo:=@zbw;have zK:=@zgr;have zv:=@zer;have zm:=@zdb;have zH:=@PW.pt;have zS:=@zk1;have zO:=@zkj;have zU:=@zhl;have zx:=@pss2;have zd:=@zaj;have zr:=@zdg;have zB:=@zef;have zc:=@zd7;have zn:=@zau;have zf:=@zac;generalize @PE=QE,@PT=QT,@PW=QW,@PA=QA,@PS=QS,@PSs=QSs,@PG=QG,@PGs=QGs,@L2.PI=QI,@PO=QO,@PIf=QIf at yN zh ze zg zb qpv za zw zj zA zq zo zK zv zm zH zS zO zU zx zd zr zB zc zn zf⊢;refine⟨_,
  (yN
   (zh (i:=2) zdf.nd rfl (vM rfl) (ze (zhi T) (hr.mono (by decide)) rfl T.law_amid.mg T.law_amid.fn.kp T.law_amid.bn .nil pass0 (zg (zb za2 (qpv 0) za fun _ _=>rfl) za3 (zb za2 (qpv 0) za fun _ _=>rfl) za3)))
   (zh (i:=3) zdf.nd rfl (km rfl) (zw zcx rfl T.b_len zfh (zj (zA (dsc:=za0 zbs) (N:=["_law_piece","_law_sides_here","_law_middle","_law_same","_law_many"]) (own:=["_law_side"]) (ix:=[2]) rfl rfl rfl ⟨rfl,by decide+kernel,by decide+kernel,by decide+kernel,by decide+kernel⟩ (zq (qpv 1)) (fun cl C fp s2 H2 xe=>⟨(zo (i:=0) (show QF (["_law_side","_law_middle"]:List Str) from by decide+kernel) rfl (km rfl)),(zK (zv (ze (zjt T) (hr.mono (by decide)) rfl T.law_on.mg T.law_on.fn.kp T.law_on.bn .nil pass0 (zg (qpv 1) za1 (qpv 0) za1)))),(qpv 0)⟩)) zcj)))
   (zm (zH (zS (zO (zv (ze (zc8 T) (hr.mono (by decide)) rfl T.law_lower.mg T.law_lower.fn.kp T.law_lower.bn .nil pass0 (zg (zb za2 (qpv 0) za fun _ _=>rfl) za3 (zb za2 (qpv 0) za fun _ _=>rfl) za3)))) (zU (zO (zv (ze (zc8 T) (hr.mono (by decide)) rfl T.law_lower.mg T.law_lower.fn.kp T.law_lower.bn .nil pass0 (zg (zb za2 (qpv 0) za fun _ _=>rfl) za3 (zb za2 (qpv 0) za fun _ _=>rfl) za3))))))) (zx
   (zh (i:=4) zdf.nd rfl (km rfl) (ze (zgu T) (hr.mono (by decide)) rfl T.law_above.mg T.law_above.fn.kp T.law_above.bn .nil pass0 (zg (qpv 1) za1 (qpv 2) za1)))
   (zd (zr (zg (zB zdr (zc zcw (qpv 4) za) za (nomark _)) zbc (zB zdr (zc zcw (zc zc5 (qpv 4) (qpv 3)) za) za (nomark _)) zbc)))) zn)
   (zh (i:=4) zdf.nd rfl (km rfl) (ze (zjg T) (hr.mono (by decide)) rfl T.law_beside.mg T.law_beside.fn.kp T.law_beside.bn .nil pass0 (zg (qpv 1) za1 (qpv 2) za1)))
   (zm (zv (ze (zc8 T) (hr.mono (by decide)) rfl T.law_lower.mg T.law_lower.fn.kp T.law_lower.bn .nil pass0 (zg (zb za2 (qpv 0) za fun _ _=>rfl) za3 (zb za2 (qpv 0) za fun _ _=>rfl) za3))) (zf (zd (zr (zg (zB zdr (zc zcw (zc zc5 (qpv 4) (qpv 3)) za) za (nomark _)) zbc (zB zdr (zc zcw (qpv 4) za) za (nomark _)) zbc)))) zn)
   (zd (zr (zg (zB zdr (zc zcw (qpv 4) za) za (nomark _)) zbc (zB zdr (zc zcw (zc zc5 (qpv 4) (qpv 3)) za) za (nomark _)) zbc))))
  ,?_⟩
 clear yN zh ze zg zb qpv za zw zj zA zq zo zK zv zm zH zS zO zU zx zd zr zB zc zn zf QE QT QW QA QS QSs QG QGs QI QO QIf
 dsimp! [L2.start]
 simp! [hp];refine⟨a,b,f,rfl,ha,hb,fun r H1 g1 hr1=>?_⟩;have tm:TB 5000 H1 r (midQ f).x (midQ f).y (midQ f).w:=⟨hr1,(zt8 ha.2 hb.2).mono (by decide)⟩
 refine zb9 ?_;simp! [zcm];have hl1:=g1 _ _ hl;refine⟨⟨_,.of hl1⟩,fun D hD=>?_⟩;refine zax (xs:=ys) (fun i zs H'=>Same H1 H'/\H' D=some (.lst zs)/\zs.length=cnt (oB (midQ f)) (ss.take i)/\zs.length<=i) ⟨za4 hD _,upd_same,rfl,pG _⟩ (fun i zs H' p=>.of (p.1 _ _ hl1)) ?_ ?_
 ·rintro i zs H3 v hi hv ⟨g3,hD3,hn,hle⟩;obtain⟨p,d,rfl,hd,hp'⟩:=hs.2 i v hv;have g13:=g1.trans g3;have ct:=zfc (p:=oB (midQ f)) hd;simp! [];refine⟨r,p,d,midQ f,rfl,zc9 _ _ _ _ (zaf g13) hp',tm.same g3,_,rfl,ite2 (fun c=>?_) fun c=>?_⟩
  ·refine cw_put hi hD3 (small1000 (by omega)) ⟨zav g3 hD,upd_same,?_,?_⟩
   ·rw[ct,zfm c,kO,hn];rfl
   ·rw[kO];exact Qo hle
  ·exact cw_skip hi ⟨g3,hD3,by rw[ct,zc6 c,hn];rfl,Qy hle⟩
 ·rintro zs H3 ⟨g3,hD3,hn,hle⟩;rw[hs.1,uM] at hn;have g13:=g1.trans g3;have hp3:=g13 _ _ hp;simp! [hD3,hp3];rw[hn];have tm3:=tm.same g3;have hl3:=g13 _ _ hl;have hs3:=hs.ts zc9 (zaf g13);have k':=fun(t:Addr) H' g h=>k t H' g h;unfold hndL at k';have y1:(f.1.y*f.2.w<f.2.y*f.1.w)↔0<dY f.1 f.2:=by unfold dY;omega
  have y2:(f.2.y*f.1.w<f.1.y*f.2.w)↔dY f.1 f.2<0:=by unfold dY;omega
  have ta:=(ha.same g13).tb (n:=5000);have tb:=(hb.same g13).tb (n:=5000);refine⟨a,b,_,_,_,_,_,_,rfl,ta,tb,_,rfl,ite2 (fun c=>?_) fun c=>?_⟩
  ·have c1:¬0<dY f.1 f.2:=fun z=>by rw[decide_eq_true (y1.mpr z)] at c;cases c
   refine⟨_,hp3,_,at1,_,hp3,_,at0,b,a,_,_,_,_,_,_,rfl,tb,ta,_,rfl,ite2 (fun c'=>?_) fun c'=>?_⟩
   ·have c2:¬dY f.1 f.2<0:=fun z=>by rw[decide_eq_true (y2.mpr z)] at c';cases c'
    refine⟨l,r,ys,ss,midQ f,rfl,hl3,hs3,tm3,_,rfl,by decide,_,rfl,by decide,fun t ht=>k' t _ (g13.trans (za4 ht _)) ?_⟩
    rw[if_pos (by omega),odI,odI2]
    exact upd_same
   ·have c2:dY f.1 f.2<0:=by
     rcases Ur (dY f.1 f.2) 0 with z|z
     ·exact z
     ·exact absurd (by rw[decide_eq_false (fun q=>absurd (y2.mp q) (UT.mpr z))];rfl) c'
    refine⟨l,r,ys,ss,midQ f,rfl,hl3,hs3,tm3,_,hp3,_,at0,_,hp3,_,at1,a,b,_,_,_,_,_,_,rfl,ta,tb,_,rfl,ite2 (fun z=>absurd (y1.mp (of_decide_eq_true z)) c1) fun _=>?_⟩;refine⟨_,rfl,by decide,_,rfl,by decide,fun t ht=>k' t _ (g13.trans (za4 ht _)) ?_⟩
    rw[if_neg (by omega),if_neg c1,odI,odI2]
    exact upd_same
  ·have c1:0<dY f.1 f.2:=by
    rcases Ur 0 (dY f.1 f.2) with z|z
    ·exact z
    ·exact absurd (by rw[decide_eq_false (fun q=>absurd (y1.mp q) (UT.mpr z))];rfl) c
   refine⟨l,r,ys,ss,midQ f,rfl,hl3,hs3,tm3,_,hp3,_,at0,_,hp3,_,at1,a,b,_,_,_,_,_,_,rfl,ta,tb,_,rfl,ite2 (fun _=>?_) (fun z=>absurd (decide_eq_true (y1.mpr c1)) z)⟩;refine⟨_,rfl,by decide,_,rfl,by decide,fun t ht=>k' t _ (g13.trans (za4 ht _)) ?_⟩
   rw[if_neg (by omega),if_pos c1,odI,odI2]
   exact upd_same
theorem zjq(T:Txt K mg ad fd):FnOk P w K mg base CX0 4 (ad 44) (fd 44) ["_law_piece","_law_stretches"] (zqx hnd):=by
 refine T.law_by_two.fn.ok zdi (fun vs H Q E h=>?_) (fun cdv A outer s H vs Q E hr h=>?_)
 ·obtain⟨s,l,f,ys,ss,rfl,_⟩:=h;rfl
 obtain⟨s,l,f,ys,ss,rfl,⟨a,b,hp,ha,hb⟩,bf,hl,hz,hs,k⟩:=h;have zR:=@pss5;have zh:=@zbv;have ze:=@zap;have zg:=@pa2;have zb:=@zck;have qpv:=@pv;have za:=@zat;have zc:=@zd7;have zw:=@zce;have zj:=@pa1;have zA:=@ze0;unfold L2.CompBody at zA;have zq:=@zc4;have zo:=@zbw;have zK:=@zgr;have zv:=@zer;have zm:=@zdb;have zf:=@zac;have zd:=@zaj;have zr:=@zdg;have zB:=@zef;have zn:=@zau;generalize @PE=QE,@PT=QT,@PW=QW,@PA=QA,@PS=QS,@PSs=QSs,@PG=QG,@PGs=QGs,@L2.PI=QI,@PO=QO,@PIf=QIf at zR zh ze zg zb qpv za zc zw zj zA zq zo zK zv zm zf zd zr zB zn⊢;refine⟨_,
  (zR
   (zh (i:=2) zdi.nd rfl (vM rfl) (ze (zhi T) (hr.mono (by decide)) rfl T.law_amid.mg T.law_amid.fn.kp T.law_amid.bn .nil pass0 (zg (zb za2 (qpv 0) za fun _ _=>rfl) za3 (zb za2 (qpv 0) za fun _ _=>rfl) za3)))
   (zh (i:=3) zdi.nd rfl (km rfl) (ze (zgu T) (hr.mono (by decide)) rfl T.law_above.mg T.law_above.fn.kp T.law_above.bn .nil pass0 (zg (qpv 1) za1 (qpv 2) za1)))
   (zh (i:=4) zdi.nd rfl (km rfl) (zc zc5 (qpv 3) (zw zcx rfl T.b_len zfh (zj (zA (dsc:=za0 zb3) (N:=["_law_piece","_law_stretches","_law_middle","_law_many","_law_more"]) (own:=["_law_part"]) (ix:=[2]) rfl rfl rfl ⟨rfl,by decide+kernel,by decide+kernel,by decide+kernel,by decide+kernel⟩ (zq (qpv 1)) (fun cl C fp s2 H2 xe=>⟨(zo (i:=0) (show QF (["_law_part","_law_middle"]:List Str) from by decide+kernel) rfl (km rfl)),(zK (zv (ze (zjt T) (hr.mono (by decide)) rfl T.law_on.mg T.law_on.fn.kp T.law_on.bn .nil pass0 (zg (qpv 1) za1 (qpv 0) za1)))),(qpv 0)⟩)) zcj))))
   (zm (zv (ze (zcc T) (hr.mono (by decide)) rfl T.law_lefter.mg T.law_lefter.fn.kp T.law_lefter.bn .nil pass0 (zg (zb za2 (qpv 0) za fun _ _=>rfl) za3 (zb za2 (qpv 0) za fun _ _=>rfl) za3))) (zf (zd (zr (zg (zB zdr (zc zcw (qpv 3) za) za (nomark _)) zbc (zB zdr (zc zcw (qpv 4) za) za (nomark _)) zbc)))) zn)
   (zd (zr (zg (zB zdr (zc zcw (qpv 4) za) za (nomark _)) zbc (zB zdr (zc zcw (qpv 3) za) za (nomark _)) zbc))))
  ,?_⟩
 clear zR zh ze zg zb qpv za zc zw zj zA zq zo zK zv zm zf zd zr zB zn QE QT QW QA QS QSs QG QGs QI QO QIf
 dsimp! [L2.start]
 simp! [hp];refine⟨a,b,f,rfl,ha,hb,fun r H1 g1 hr1=>?_⟩;have tm:TB 5000 H1 r (midQ f).x (midQ f).y (midQ f).w:=⟨hr1,(zt8 ha.2 hb.2).mono (by decide)⟩
 have hl1:=g1 _ _ hl;refine⟨l,r,ys,ss,midQ f,rfl,hl1,hs.ts zc9 (zaf g1),tm,?_⟩;refine zb9 ?_;simp! [zcm];refine⟨⟨_,.of hl1⟩,fun D hD=>?_⟩;refine zax (xs:=ys) (fun i zs H'=>Same H1 H'/\H' D=some (.lst zs)/\zs.length=cnt (oB (midQ f)) (ss.take i)/\zs.length<=i) ⟨za4 hD _,upd_same,rfl,pG _⟩ (fun i zs H' p=>.of (p.1 _ _ hl1)) ?_ ?_
 ·rintro i zs H3 v hi hv ⟨g3,hD3,hn,hle⟩;obtain⟨p,d,rfl,hd,hp'⟩:=hs.2 i v hv;have g13:=g1.trans g3;have ct:=zfc (p:=oB (midQ f)) hd;simp! [];refine⟨r,p,d,midQ f,rfl,zc9 _ _ _ _ (zaf g13) hp',tm.same g3,_,rfl,ite2 (fun c=>?_) fun c=>?_⟩
  ·refine cw_put hi hD3 (small1000 (by omega)) ⟨zav g3 hD,upd_same,?_,?_⟩
   ·rw[ct,zfm c,kO,hn];rfl
   ·rw[kO];exact Qo hle
  ·exact cw_skip hi ⟨g3,hD3,by rw[ct,zc6 c,hn];rfl,Qy hle⟩
 ·rintro zs H3 ⟨g3,hD3,hn,hle⟩;rw[hs.1,uM] at hn;have g13:=g1.trans g3;have hp3:=g13 _ _ hp;simp! [hD3,hp3];rw[hn];have ta:=(ha.same g13).tb (n:=5000);have tb:=(hb.same g13).tb (n:=5000);have k':=fun(t:Addr) H' g h=>k t H' g h;unfold hnd at k';have x0:=(bq_dX bf).1;have x1:(f.1.x*f.2.w<f.2.x*f.1.w)↔0<dX f.1 f.2:=by unfold dX;omega
  refine⟨a,b,_,_,_,_,_,_,rfl,ta,tb,_,rfl,ite2 (fun c=>?_) fun c=>?_⟩
  ·have c0:=x1.mp (of_decide_eq_true c);refine⟨by decide,by decide,fun t ht=>k' t _ (g13.trans (za4 ht _)) ?_⟩
   rw[if_neg (by omega),odI,odI2]
   exact upd_same
  ·have c0:¬0<dX f.1 f.2:=fun z=>c (decide_eq_true (x1.mpr z));refine⟨by decide,by decide,fun t ht=>k' t _ (g13.trans (za4 ht _)) ?_⟩
   rw[if_pos (by omega),odI,odI2]
   exact upd_same
def RgQ(H:Hp)(p:Addr)(r:List Q3):Prop:=∃zs,H p=some (.lst zs)/\LR (PtQ 100) H zs r
theorem znf:∀(H H':Hp)(p:Addr)(a:Q3),zbp H H'->PtQ 100 H p a->PtQ 100 H' p a:=fun _ _ _ _ g h=>⟨g _ _ h.1,h.2⟩
theorem RgQ.same{H H':Hp}{p:Addr}{r:List Q3}(h:RgQ H p r)(g:Same H H'):RgQ H' p r:=by
 obtain⟨zs,h1,h2⟩:=h;exact⟨zs,g _ _ h1,h2.ts znf (zaf g)⟩
theorem RgQ.put{H:Hp}{p R:Addr}{r:List Q3}{ys:List V}{o:HO}(h:RgQ H p r)(ne:p≠R)(hR:H R=some (.lst ys)):RgQ (upd H R o) p r:=by
 obtain⟨zs,h1,h2⟩:=h;exact⟨zs,by rw[za8 ne];exact h1,h2.ts znf (zet hR)⟩
def RgL(R:Addr)(H:Hp)(ys:List V)(rs:List (List Q3)):Prop:=ys.length=rs.length/\∀(j:Nat)(v:V),ys[j]?=some v->∃(p:Addr)(r:List Q3),v=.ref p/\rs[j]?=some r/\p≠R/\RgQ H p r
theorem RgL.same{R:Addr}{H H':Hp}{ys:List V}{rs:List (List Q3)}(h:RgL R H ys rs)(g:Same H H'):RgL R H' ys rs:=⟨h.1,fun j v z=>by
 obtain⟨p,r,e,f,n,t⟩:=h.2 j v z;exact⟨p,r,e,f,n,t.same g⟩⟩
theorem RgL.snoc{R D:Addr}{H:Hp}{ys:List V}{rs:List (List Q3)}{r:List Q3}(h:RgL R H ys rs)(hR:H R=some (.lst ys))(nD:D≠R)(hD:RgQ H D r):RgL R (upd H R (.lst (ys++[.ref D]))) (ys++[.ref D]) (rs++[r]):=by
 refine⟨by rw[kO,kO,h.1];rfl,fun j v z=>?_⟩
 by_cases hj:j<ys.length
 ·rw[pj hj] at z;obtain⟨p,r,e,f,n,t⟩:=h.2 j v z;exact⟨p,r,e,by rw[pj (by rw[←h.1];exact hj)];exact f,n,t.put n hR⟩
 ·rw[pY (by omega)] at z
  cases e:j-ys.length with
  |zero=>
   rw[e] at z
   cases z;exact⟨D,r,rfl,by rw[pY (by rw[←h.1];omega),←h.1,e];rfl,nD,hD.put nD hR⟩
  |succ n=>rw[e] at z;cases z
def zlw(rs:List (List Q3)):Prop:=∀(j:Nat)(r:List Q3),rs[j]?=some r->r.length<=if j=2 then 3 else 5
theorem zlw.snoc{rs:List (List Q3)}{r:List Q3}(h:zlw rs)(hr:r.length<=if rs.length=2 then 3 else 5):zlw (rs++[r]):=fun j r' z=>by
 by_cases hj:j<rs.length
 ·rw[pj hj] at z;exact h j r' z
 ·rw[pY (by omega)] at z
  cases e:j-rs.length with
  |zero=>
   rw[e] at z
   cases z;rw[show j=rs.length by omega]
   exact hr
  |succ n=>rw[e] at z;cases z
def zpp(K:kJ):Sp:=fun vs H Q _=>∃(a0:Addr)(ns:List Int)(f:Int),vs=[.ref a0,.int 1,.int f]/\SqL K H a0 (ns.map V.int)/\f.natAbs<2^80/\∀(R:Addr)(ys:List V)(rs:List (List Q3))(H':Hp),Same H H'->H' R=some (.lst ys)->RgL R H' ys rs->zlw rs->rs.length<=3->Q (.ref R) H'
theorem zk6{a0 R:Addr}{ns:List Int}{f z:Int}{i:Nat}{H:Hp}{Q:VK}(hS:SqL K H a0 (ns.map V.int))(hf:f.natAbs<2^80)(h0:0<=z)(h5:z<=5)
  (q:∀(D:Addr)(r:List Q3)(H':Hp),H D=none->Same H H'->RgQ H' D r->(r.length:Int)=z->Q (.ref D) H'):
  zq6 1 [0,1,2,4] (zof (zbt (tVar 5) tNil)) (gName 0) tYes (zm2 zsv [] E0 (zbt (zm2 (ze2 K) [] E0 (zbt (tVar 1) (zbt (tOp (rI0 fun i j=>V.int (i+j)) (tOp (rI0 fun i j=>V.int (i+j)) (tOp (rI0 fun i j=>V.int (i+j)) (tVar 2) (tC (V.int 1))) (tOp (rI CMul fun i j=>V.int (i*j)) (tC (V.int 6)) (tVar 4))) (tVar 0)) tNil))) (zbt (tVar 3) tNil)))
   [some (V.ref a0),some (V.int 1),some (V.int f),some (V.ref R),some (V.int i),some (V.int z)] H Q:=by
 refine zb9 ?_;simp! [zof];refine⟨by omega,by omega,fun D hD=>?_⟩
 refine zo4 (n:=z.toNat) (fun j ys H'=>Same H H'/\H' D=some (.lst ys)/\∃r,LR (PtQ 100) H' ys r/\r.length=j) ⟨za4 hD _,upd_same,[],.nil,rfl⟩ ?_ ?_
 ·rintro j ys H' hj ⟨g,hD',r,hr,lr⟩;simp! [ze2];refine⟨.inl ⟨by decide,by decide⟩,ns,g.seq hS,by omega,_,_,rfl,hf,fun p H4 r' g4 hp=>?_⟩
  have hD4:=g4 _ _ hD';exact cw_put hj hD4 (small1000 (by rw[hr.1];omega)) ⟨zav (g.trans g4) hD,upd_same,r++[r'],((hr.ts znf (zaf g4)).snoc hp).ts znf (zet hD4),by rw[kO,lr];rfl⟩
 ·rintro ys H' ⟨g,hD',r,hr,lr⟩;exact q D r H' hD g ⟨ys,hD',hr⟩ (by omega)
theorem zkc(T:Txt K mg ad fd):FnOk P w K mg base CX0 3 (ad 39) (fd 39) ["_law_script","_law_at","_law_far_here"] (zpp K):=by
 refine T.law_rings.fn.ok zde (fun vs H Q E h=>?_) (fun cdv A outer s H vs Q E hr h=>?_)
 ·obtain⟨a0,ns,f,rfl,_⟩:=h;rfl
 obtain⟨a0,ns,f,rfl,hS,hf,k⟩:=h;have zy:=@pss3;have zh:=@zbv;have zC:=@zfi;have zG:=@zds;have zu:=@zdw;have yd:=@zhx;have zj:=@pa1;have zc:=@zd7;have za:=@zat;have ze:=@zap;have zg:=@pa2;have qpv:=@pv;have zo:=@zbw;have zb:=@zck;have yO:=@pa8;have zm:=@zdb;have zp:=@zb8;have zw:=@zce;have zf:=@zac;have zn:=@zau;have zE:=@zf4;have zJ:=@zlm;have zA:=@ze0;unfold L2.CompBody at zA;have zM:=@zgi;have zd:=@zaj;generalize @PE=QE,@PT=QT,@PW=QW,@PA=QA,@PS=QS,@PSs=QSs,@PG=QG,@PGs=QGs,@L2.PI=QI,@PO=QO,@PIf=QIf at zy zh zC zG zu yd zj zc za ze zg qpv zo zb yO zm zp zw zf zn zE zJ zA zM zd⊢;refine⟨_,
  (zy
   (zh (i:=3) zde.nd rfl (km rfl) (zC zG))
   (zu pT rfl (yd rfl T.b_range (zj (zc zc5 za (zc zcw (ze (zb1 T) (hr.mono (by decide)) rfl T.law_cell_at.mg T.law_cell_at.fn.kp T.law_cell_at.bn .nil pass0 (zg (qpv 0) za1 (qpv 1) za1)) za)) zam)) (zo (i:=4) zde.nd rfl (vM rfl)) (zy
   (zh (i:=5) zde.nd rfl (km rfl) (zb zbl (zC (yO za za9 za za9 za za9 za za9 za za9 za za9 za za9 za za9)) (zc zcw (zc zdj (zc zls (ze (zb1 T) (hr.mono (by decide)) rfl T.law_cell_at.mg T.law_cell_at.fn.kp T.law_cell_at.bn .nil pass0 (zg (qpv 0) za1 (qpv 1) za1)) za) (zc zc5 za (qpv 4))) za) fun _ _=>rfl))
   (zm (zp zdr (zw zcx rfl T.b_len zfh (zj (qpv 3) za1)) za (nomark _)) (zf (zh (i:=5) zde.nd rfl (km rfl) (zw (zkt rfl) rfl T.b_min bt_min (zg (qpv 5) za1 za za9)))) zn)
   (zE (zJ ug UI UJ ze7 (qpv 3) (zj (zA (dsc:=za0 zbn) (N:=["_law_script","_law_at","_law_far_here","_law_rings_here","_law_k","_law_size"]) (own:=["_law_j"]) (ix:=[0,1,2,4]) rfl rfl rfl ⟨rfl,by decide+kernel,by decide+kernel,by decide+kernel,by decide+kernel⟩ (yd rfl T.b_range (zj (qpv 5) za1)) (fun cl C fp s2 H2 xe=>⟨(zo (i:=0) (show QF (["_law_j","_law_script","_law_at","_law_far_here","_law_k"]:List Str) from by decide+kernel) rfl (km rfl)),zM,(ze (zex T) (hr.mono (by decide)) rfl T.law_point.mg T.law_point.fn.kp T.law_point.bn .nil pass0 (zg (ze (zb1 T) (hr.mono (by decide)) rfl T.law_cell_at.mg T.law_cell_at.fn.kp T.law_cell_at.bn .nil pass0 (zg (qpv 1) za1 (zc zc5 (zc zc5 (zc zc5 (qpv 2) za) (zc zko za (qpv 4))) (qpv 0)) zam)) zar (qpv 3) za1))⟩)) zcj)))))
   (zd (qpv 3)))
  ,?_⟩
 clear zy zh zC zG zu yd zj zc za ze zg qpv zo zb yO zm zp zw zf zn zE zJ zA zM zd QE QT QW QA QS QSs QG QGs QI QO QIf
 dsimp! [L2.start]
 simp! [];intro R hR;have gR:=za4 hR (HO.lst []);have hS1:=gR.seq hS;refine zbo ?_;simp! [zof,ze2];have m0:=Uj (ns.getD (vG 1) 0) (show(3:Int)≠0 by decide)
 have m3:=UC (ns.getD (vG 1) 0) (show(0:Int)<3 by decide)
 refine⟨ns,hS1,by decide,by decide,by omega,by omega,?_⟩
 refine zgq (n:=(1+(ns.getD (vG 1) 0)%3).toNat) (fun i σ H'=>Same H H'/\∃(ys:List V)(rs:List (List Q3))(u v:Option V),σ=[some (V.ref a0),some (.int 1),some (.int f),some (V.ref R),u,v]/\H' R=some (.lst ys)/\rs.length=i/\RgL R H' ys rs/\zlw rs) ⟨gR,[],[],none,none,rfl,upd_same,rfl,⟨rfl,fun j v z=>by cases z⟩,fun j r z=>by cases z⟩ ?_ ?_
 ·intro _ _;rintro i σ H2 hi ⟨g2,ys,rs,u,v,rfl,hR2,hn,hrs,hle⟩;have hi3:i<3:=by omega
  have hS2:=g2.seq hS;simp! [ze2,hR2,DC];refine⟨by decide,fun p hp=>⟨ns,(za4 hp _).seq hS2,by decide,⟨by decide,by decide⟩,cdivb (n:=3) (by omega) (by have e:(2:Nat)^3=8:=rfl;omega),by decide,?_⟩⟩
  have e0:=Uj ((ns.getD (vG 1) 0/3).fdiv (1+(i:Int))) (show(8:Int)≠0 by decide)
  have e8:=UC ((ns.getD (vG 1) 0/3).fdiv (1+(i:Int))) (show(0:Int)<8 by decide)
  generalize (ns.getD (vG 1) 0/3).fdiv (1+(i:Int))%8=m at*;obtain⟨z,hz,z0,z5⟩:∃z:Int,atI [V.int 3,V.int 4,V.int 3,V.int 5,V.int 4,V.int 2,V.int 1,V.int 0] m=some (V.int z)/\0<=z/\z<=5:=by
   rcases(by omega:m=0∨m=1∨m=2∨m=3∨m=4∨m=5∨m=6∨m=7) with rfl|rfl|rfl|rfl|rfl|rfl|rfl|rfl
   ·exact⟨3,at0,by decide,by decide⟩
   ·exact⟨4,at1,by decide,by decide⟩
   ·exact⟨3,at2,by decide,by decide⟩
   ·exact⟨5,at3,by decide,by decide⟩
   ·exact⟨4,at4,by decide,by decide⟩
   ·exact⟨2,at5,by decide,by decide⟩
   ·exact⟨1,at6,by decide,by decide⟩
   ·exact⟨0,at7,by decide,by decide⟩
  have g3':=za4 hp (HO.lst [V.int 3,V.int 4,V.int 3,V.int 5,V.int 4,V.int 2,V.int 1,V.int 0]);generalize upd H2 p (HO.lst [V.int 3,V.int 4,V.int 3,V.int 5,V.int 4,V.int 2,V.int 1,V.int 0])=H3 at*;have hR3:=g3' _ _ hR2;have hS3:=g3'.seq hS2;have ly:=hrs.1;have fin:∀(D:Addr)(r:List Q3)(H':Hp),H3 D=none->Same H3 H'->RgQ H' D r->(r.length<=if rs.length=2 then 3 else 5)->∃xs,H' R=some (.lst xs)/\xs.length<sizeLine/\Same H (upd H' R (.lst (xs++[.ref D])))/\∃x,x.length=i+1/\RgL R (upd H' R (.lst (xs++[.ref D]))) (xs++[.ref D]) x/\zlw x:=by
   intro D r H4 hD g4 hD4 hl;have hR4:=g4 _ _ hR3;exact⟨ys,hR4,small1000 (by omega),zav (g2.trans (g3'.trans g4)) hR,rs++[r],by rw[kO,hn];rfl,(hrs.same (g3'.trans g4)).snoc hR4 (za7 hR3 hD).symm hD4,hle.snoc hl⟩
  refine⟨_,hz,ys,.inl hR3,ite2 (fun c=>⟨_,rfl,zff hR3,zk6 hS3 hf (by split<;>omega) (by split<;>omega) ?_⟩) (fun c=>⟨zff hR3,zk6 hS3 hf z0 z5 ?_⟩)⟩
  ·intro D r H4 hD g4 hD4 hl;exact fin D r H4 hD g4 hD4 (by split at hl<;>split<;>omega)
  ·intro D r H4 hD g4 hD4 hl;refine fin D r H4 hD g4 hD4 ?_;rw[if_neg (fun z=>c (decide_eq_true (by omega)))]
   omega
 ·rintro σ H2 ⟨g2,ys,rs,u,v,rfl,hR2,hn,hrs,hle⟩;simp! [];exact k R ys rs H2 g2 hR2 hrs hle (by omega)
theorem sdA_snoc(rs:List (List Q3))(r:List Q3):sdA (rs++[r])=sdA rs++sdR r r.length:=by simp[sdA]
def zqg:Sp:=fun vs H Q _=>∃(l:Addr)(ys:List V)(rs:List (List Q3)),vs=[.ref l]/\H l=some (.lst ys)/\RgL l H ys rs/\zlw rs/\rs.length<=3/\∀(D:Addr)(zs:List V)(H':Hp),H D=none->Same H H'->H' D=some (.lst zs)->zs.length<=13->LR (StE 130) H' zs (sdA rs)->Q (.ref D) H'
def mxS(i:Nat):Nat:=if i<=2 then 5*i else 13
theorem zju(T:Txt K mg ad fd):FnOk P w K mg base CX0 4 (ad 41) (fd 41) ["_law_rings_here"] zqg:=by
 refine T.law_sides.fn.ok zco (fun vs H Q E h=>?_) (fun cdv A outer s H vs Q E hr h=>?_)
 ·obtain⟨l,ys,rs,rfl,_⟩:=h;rfl
 obtain⟨l,ys,rs,rfl,hl,hR,hle,h3,k⟩:=h;have zy:=@pss3;have zh:=@zbv;have zC:=@zfi;have zG:=@zds;have zu:=@zdw;have zq:=@zc4;have qpv:=@pv;have zo:=@zbw;have zf:=@zac;have yd:=@zhx;have zj:=@pa1;have zw:=@zce;have zb:=@zck;have zc:=@zd7;have za:=@zat;have zm:=@zdb;have zp:=@zb8;have zE:=@zf4;have zJ:=@zlm;have ze:=@zap;have zg:=@pa2;have zn:=@zau;have zd:=@zaj;generalize @PE=QE,@PT=QT,@PW=QW,@PA=QA,@PS=QS,@PSs=QSs,@PG=QG,@PGs=QGs,@L2.PI=QI,@PO=QO,@PIf=QIf at zy zh zC zG zu zq qpv zo zf yd zj zw zb zc za zm zp zE zJ ze zg zn zd⊢;refine⟨_,
  (zy
   (zh (i:=1) zco.nd rfl (km rfl) (zC zG))
   (zu pT rfl (zq (qpv 0)) (zo (i:=2) zco.nd rfl (km rfl)) (zf (zu pT rfl (yd rfl T.b_range (zj (zw zcx rfl T.b_len zfh (zj (qpv 2) za1)) zar)) (zo (i:=3) zco.nd rfl (km rfl)) (zy
   (zh (i:=4) zco.nd rfl (km rfl) (zb zbl (qpv 2) (qpv 3) fun _ _=>rfl))
   (zh (i:=5) zco.nd rfl (km rfl) (zb zbl (qpv 2) (zc zhv (zc zc5 (qpv 3) za) (zw zcx rfl T.b_len zfh (zj (qpv 2) za1))) fun _ _=>rfl))
   (zm (zp (zkx (hu64 hr)) (qpv 4) (qpv 5) (nomark _)) (zf (zE (zJ ug UI UJ ze7 (qpv 1) (zj (ze (zfj T) (hr.mono (by decide)) rfl T.law_stretch.mg T.law_stretch.fn.kp T.law_stretch.bn .nil pass0 (zg (qpv 4) za1 (qpv 5) za1)) zar)))) zn)))))
   (zd (qpv 1)))
  ,?_⟩
 clear zy zh zC zG zu zq qpv zo zf yd zj zw zb zc za zm zp zE zJ ze zg zn zd QE QT QW QA QS QSs QG QGs QI QO QIf
 dsimp! [L2.start]
 simp! [];intro D hD;have gD:=za4 hD (HO.lst []);refine zbo ?_;simp! [zcm];refine⟨⟨_,.of (gD _ _ hl)⟩,?_⟩;refine zbh (K:=K) (a:=l) (xs:=ys) (fun i σ H'=>Same H H'/\∃(zs:List V)(u v t o:Option V),σ=[some (V.ref l),some (V.ref D),u,v,t,o]/\H' D=some (.lst zs)/\zs.length<=mxS i/\LR (StE 130) H' zs (sdA (rs.take i))) ⟨gD,[],none,none,none,none,rfl,upd_same,pG _,by rw[uG];exact .nil⟩ (fun i σ H' _ iv=>.of (iv.1 _ _ hl)) ?_ ?_
 ·intro _ _;rintro i v σ H2 hi ⟨g2,zs,u,v',t,o,rfl,hD2,hn,hs⟩;obtain⟨p,r,rfl,hr',nl,ws,hp,hit⟩:=hR.2 i v hi;have lr:=hle i r hr';have hil:=(kF.mp hr').1;have hp2:=g2 _ _ hp;have lw:=hit.1;have lr5:r.length<=5:=by split at lr<;>omega
  simp! [];refine zbo ?_;simp! [zof,hp2];refine⟨by omega,by omega,?_⟩
  rw[show((ws.length:Int)).toNat=ws.length by omega]
  refine zgq (n:=ws.length) (fun j σ H'=>Same H H'/\∃(zs:List V)(v t o:Option V),σ=[some (V.ref l),some (V.ref D),some (V.ref p),v,t,o]/\H' D=some (.lst zs)/\zs.length<=mxS i+j/\LR (StE 130) H' zs (sdA (rs.take i)++sdR r j))
   ⟨g2,zs,v',t,o,rfl,hD2,hn,by rw[show sdR r 0=[] from rfl,uv];exact hs⟩ ?_ ?_
  ·intro _ _;rintro j σ H6 hj ⟨g6,zs6,v6,t6,o6,rfl,hD6,hn6,hs6⟩;have hm:(j+1)%ws.length<ws.length:=Nat.mod_lt _ (by omega)
   obtain⟨a,ca,hx,ea,ta⟩:=hit.at hj;obtain⟨b,cb,hy,eb,tb⟩:=hit.at hm;have hp6:=g6 _ _ hp;have ta6:=ta.same g6;have tb6:=tb.same g6;have ax:atI ws (j:Int)=some (V.ref a):=zb6 hx;have fm:((j:Int)+1).fmod (ws.length:Int)=(((j+1)%ws.length:Nat):Int):=by
    rw[vi _ (by omega)]
    exact(Int.natCast_emod (j+1) ws.length).symm
   have ay:atI ws (((j:Int)+1).fmod (ws.length:Int))=some (V.ref b):=by
    rw[fm];exact zb6 hy
   have ek:sdK r j=sdq ca cb:=by
    unfold sdK;rw[←lw,kD,ea,kD,eb];rfl
   have mx:mxS i<=13:=by unfold mxS;split<;>omega
   simp! [DC,hp6,ax,ay];refine⟨by omega,_,_,zfq (.of ta6.1),zfq (.of tb6.1),zc3 _ _ _,zc3 _ _ _,_,rfl,?_⟩
   rw[zgp,←zjw,zml,ek,←pM];unfold sdq
   by_cases e:ca=cb
   ·rw[decide_eq_true e,if_pos e,uv];exact iteF ⟨g6,zs6,hD6,by omega,hs6⟩
   ·rw[decide_eq_false e,if_neg e];refine iteT ⟨zff hD6,a,b,ca,cb,rfl,ta6,tb6,e,fun rr H8 g8 st=>?_⟩;have hD8:=g8 _ _ hD6;exact⟨zs6,hD8,small1000 (by omega),zav (g6.trans g8) hD,by rw[kO,jw];omega,((hs6.ts zc9 (zaf g8)).snoc st).ts zc9 (zet hD8)⟩
  ·rintro σ H6 ⟨g6,zs6,v6,t6,o6,rfl,hD6,hn6,hs6⟩;refine⟨g6,⟨_,_,_,_,rfl⟩,zs6,hD6,?_,?_⟩
   ·rw[←lw] at lr;unfold mxS at*
    split at lr<;>split at hn6<;>split<;>omega
   ·rw[pi,hr'];show LR _ _ _ (sdA (rs.take i++[r]));rw[sdA_snoc,←lw];exact hs6
 ·rintro σ H2 ⟨g2,zs,u,v',t,o,rfl,hD2,hn,hs⟩;simp! [];rw[hR.1,uM] at hs;exact k D zs H2 hD g2 hD2 (by unfold mxS at hn;split at hn<;>omega) hs
def dB2(b:Bool×Bool):Bk:=.tuple [.bool b.1,.bool b.2]
theorem rd_b2{K:kJ}{H:Hp}{p:Addr}{b:Bool×Bool}(h:H p=some (.tup [.bl b.1,.bl b.2])):RdD K H (dB2 b) (.ref p):=by
 unfold dB2;rw[RdD];exact⟨p,_,rfl,.of h,by simp[RdDs,RdD]⟩
theorem zg3(b:Bool×Bool):Qt (dB2 b)=true:=by
 simp[dB2,Qt,Qv,uh,Qw,Qg]
theorem zqi(b:Bool×Bool):Qu (dB2 b) (dB2 b)=true:=by simp[dB2,Qu,Ut]
theorem stl_of{H:Hp}{ys:List V}{ss:List (Q3×Q3)}(h:LR (StE 130) H ys ss):StL H ys (ss.map s6):=by
 refine⟨by rw[kP];exact h.1,fun j v z=>?_⟩
 obtain⟨p,e,e1,e2,a,b,h1,h2,h3,_⟩:=h.2 j v z;exact⟨p,s6 e,e1,by rw[kj,e2];rfl,a,b,h1,h2.tb,h3.tb⟩
theorem zo2{H:Hp}{b:Addr}{pos:Pos}{q:Str}(h:H b=some (.tbl #[])):zah H b pos q:=⟨#[],h,by trivial,.inl rfl⟩
def sp_any(K:kJ)(ta:Addr)(la:Pos)(qa:Str)(tb:Addr)(lb:Pos)(qb:Str)(tc:Addr)(lc:Pos)(qc:Str):Sp:=fun vs H Q _=>∃(a:Addr)(ns:List Int),vs=[.ref a]/\SqL K H a (ns.map V.int)/\zah H ta la qa/\zah H tb lb qb/\zah H tc lc qc/\∀H',Q (.bl true) H'
theorem zog(T:Txt K mg ad fd)(hK:K.In base)(hB:∀b,b∈([ad 48,ad 50,ad 52]:List Addr)->base.BuiltinsAt mg b):FnOk P w K mg base CX0 8 (ad 45) (fd 45) ["_law_script"] (sp_any K (ad 48) zrv qlB (ad 50) zqh qlP (ad 52) zje qlN):=by
 refine T.law_any.fn.ok zcn (fun vs H Q E h=>?_) (fun cdv A outer s H vs Q E hr h=>?_)
 ·obtain⟨a,ns,rfl,_⟩:=h;rfl
 obtain⟨a,ns,rfl,hS,ltB,ltP,ltN,k⟩:=h;have zR:=@pss5;have zh:=@zbv;have ze:=@zap;have zj:=@pa1;have zg:=@pa2;have qpv:=@pv;have za:=@zat;have zC:=@zfi;have zG:=@zds;have zu:=@zdw;have yd:=@zhx;have zc:=@zd7;have zo:=@zbw;have zy:=@pss3;have zm:=@zdb;have zp:=@zb8;have zf:=@zac;have zE:=@zf4;have zJ:=@zlm;have zn:=@zau;have zq:=@zc4;have zL:=@zea;have zX:=@zk4;have zF:=@zfb;have zP:=@zgh;have zd:=@zaj;have zN:=@znl;generalize @PE=QE,@PT=QT,@PW=QW,@PA=QA,@PS=QS,@PSs=QSs,@PG=QG,@PGs=QGs,@L2.PI=QI,@PO=QO,@PIf=QIf at zR zh ze zj zg qpv za zC zG zu yd zc zo zy zm zp zf zE zJ zn zq zL zX zF zP zd zN⊢;refine⟨_,
  (zR
   (zh (i:=1) zcn.nd rfl (km rfl) (ze (ziv T) (hr.mono (by decide)) rfl T.law_far.mg T.law_far.fn.kp T.law_far.bn .nil pass0 (zj (ze (zb1 T) (hr.mono (by decide)) rfl T.law_cell_at.mg T.law_cell_at.fn.kp T.law_cell_at.bn .nil pass0 (zg (qpv 0) za1 za za9)) zar)))
   (zh (i:=2) zcn.nd rfl (km rfl) (zC zG))
   (zu pT rfl (yd rfl T.b_range (zj (zc zcw (ze (zb1 T) (hr.mono (by decide)) rfl T.law_cell_at.mg T.law_cell_at.fn.kp T.law_cell_at.bn .nil pass0 (zg (qpv 0) za1 za za9)) za) zam)) (zo (i:=3) zcn.nd rfl (km rfl)) (zy
   (zh (i:=4) zcn.nd rfl (km rfl) (ze (zex T) (hr.mono (by decide)) rfl T.law_point.mg T.law_point.fn.kp T.law_point.bn .nil pass0 (zg (ze (zb1 T) (hr.mono (by decide)) rfl T.law_cell_at.mg T.law_cell_at.fn.kp T.law_cell_at.bn .nil pass0 (zg (qpv 0) za1 (zc zc5 za (zc zko za (qpv 3))) zam)) zar (qpv 1) za1)))
   (zh (i:=5) zcn.nd rfl (km rfl) (ze (zex T) (hr.mono (by decide)) rfl T.law_point.mg T.law_point.fn.kp T.law_point.bn .nil pass0 (zg (ze (zb1 T) (hr.mono (by decide)) rfl T.law_cell_at.mg T.law_cell_at.fn.kp T.law_cell_at.bn .nil pass0 (zg (qpv 0) za1 (zc zc5 za (zc zko za (qpv 3))) zam)) zar (qpv 1) za1)))
   (zm (zp (zkx (hu64 hr)) (qpv 4) (qpv 5) (nomark _)) (zf (zE (zJ ug UI UJ ze7 (qpv 2) (zj (ze (zfj T) (hr.mono (by decide)) rfl T.law_stretch.mg T.law_stretch.fn.kp T.law_stretch.bn .nil pass0 (zg (qpv 4) za1 (qpv 5) za1)) zar)))) zn)))
   (zu pT rfl (zq (ze (zjy T hK hB) (hr.mono (by decide)) rfl T.pieces.mg T.pieces.fn.kp T.pieces.bn .nil pass0 (zj (zL zf8 rfl T.b_list zez (zj (qpv 2) za1)) zar))) (zX (n:=2) rfl (zF (zo (i:=6) zcn.nd rfl (km rfl)) (zF (zo (i:=7) zcn.nd rfl (km rfl)) zP))) (zf (zm (zp (zkx (hu64 hr)) (ze (zmm T) (hr.mono (by decide)) rfl T.hands.mg T.hands.fn.kp T.hands.bn .nil pass0 (zg (qpv 6) za1 (zL zf8 rfl T.b_list zez (zj (qpv 2) za1)) zar)) (ze (zjq T) (hr.mono (by decide)) rfl T.law_by_two.mg T.law_by_two.fn.kp T.law_by_two.bn .nil pass0 (zg (qpv 6) za1 (qpv 2) za1)) (nomark _)) (zf (zd zN)) zn)))
   (zd zN))
  ,?_⟩
 clear zR zh ze zj zg qpv za zC zG zu yd zc zo zy zm zp zf zE zJ zn zq zL zX zF zP zd zN QE QT QW QA QS QSs QG QGs QI QO QIf
 dsimp! [L2.start]
 simp! [ze2];refine⟨ns,hS,by decide,_,rfl,fun f H1 g1 hf=>?_⟩
 intro R hR;have g2:=za4 hR (HO.lst []);have eR:upd H1 R (HO.lst []) R=some (HO.lst []):=upd_same;generalize upd H1 R (HO.lst [])=H2 at*;have g02:=g1.trans g2;have hS2:=g02.seq hS;refine zbo ?_;simp! [zof,ze2];have m0:=Uj (ns.getD (vG 40) 0) (show(7:Int)≠0 by decide)
 have m7:=UC (ns.getD (vG 40) 0) (show(0:Int)<7 by decide)
 refine⟨ns,hS2,by decide,by decide,by omega,by omega,?_⟩
 refine zgq (n:=(ns.getD (vG 40) 0%7).toNat) (fun i σ H'=>Same H1 H'/\∃(ys:List V)(ss:List (Q3×Q3))(u v t p o:Option V),σ=[some (V.ref a),some (.int f),some (V.ref R),u,v,t,p,o]/\H' R=some (.lst ys)/\ys.length<=i/\LR (StE 130) H' ys ss) ⟨g2,[],[],none,none,none,none,none,rfl,eR,kM _,.nil⟩ ?_ ?_
 ·intro _ _;rintro i σ H3 hi ⟨g3,ys,ss,u,v,t,p',o,rfl,hR3,hn,hs⟩;have hS3:=g3.seq (g1.seq hS);simp! [ze2,DC];refine⟨.inl ⟨by decide,by decide⟩,ns,hS3,by omega,_,_,rfl,hf,fun p1 H4 r1 g4 hp1=>?_⟩
  simp! [ze2];refine⟨.inl ⟨by decide,by decide⟩,ns,g4.seq hS3,by omega,_,_,rfl,hf,fun p2 H5 r2 g5 hp2=>?_⟩
  have hp15:=hp1.same g5;have g45:=g4.trans g5;refine⟨_,_,zfq (.of hp15.1),zfq (.of hp2.1),zc3 _ _ _,zc3 _ _ _,_,rfl,?_⟩;rw[zgp,←zjw];have hR5:=g45 _ _ hR3
  by_cases e:r1=r2
  ·rw[decide_eq_true e];exact iteF ⟨g3.trans g45,ys,hR5,by omega,ss,hs.ts zc9 (zaf g45)⟩
  ·rw[decide_eq_false e];refine iteT ⟨zff hR5,p1,p2,r1,r2,rfl,hp15,hp2,e,fun rr H8 g8 st=>?_⟩;have hR8:=g8 _ _ hR5;exact⟨ys,hR8,small1000 (by omega),zav (g3.trans (g45.trans g8)) hR,by rw[kO,jw];omega,ss++[ordE r1 r2],((hs.ts zc9 (zaf (g45.trans g8))).snoc st).ts zc9 (zet hR8)⟩
 ·rintro σ H3 ⟨g3,ys,ss,u,v,t,p',o,rfl,hR3,hn,hs⟩;simp! [];refine zbo ?_;simp! [zcm,hR3];intro L hL;have g4:=za4 hL (HO.lst ys);have eL:upd H3 L (HO.lst ys) L=some (HO.lst ys):=upd_same;generalize upd H3 L (HO.lst ys)=H4 at*;have g04:=g1.trans (g3.trans g4);have hs4:=hs.ts zc9 (zaf g4);have ltB4:=ltB.same g04;have ltP4:=ltP.same g04;have ltN4:=ltN.same g04;refine⟨L,ys,ss,rfl,eL,by omega,hs4,ltB4,ltP4,ltN4,fun D zs fs ps g H5 st5 _ _ _ hD5 lz hz nd TT hpc=>?_⟩
  have hR5:H5 R=some (.lst ys):=st5 _ _ (ltB4.ne (g4 _ _ hR3) fun _ z=>nomatch z) (ltP4.ne (g4 _ _ hR3) fun _ z=>nomatch z) (ltN4.ne (g4 _ _ hR3) fun _ z=>nomatch z) (g4 _ _ hR3);have hs5:LR (StE 130) H5 ys ss:=hs4.ts zc9 fun b xs h=>st5 _ _ (ltB4.ne h fun _ z=>nomatch z) (ltP4.ne h fun _ z=>nomatch z) (ltN4.ne h fun _ z=>nomatch z) h;refine⟨D,rfl,⟨_,.of hD5⟩,?_⟩;refine zbh (K:=K) (a:=D) (xs:=zs) (fun i σ H'=>Same H5 H'/\∃(p o:Option V),σ=[some (V.ref a),some (.int f),some (V.ref R),u,v,t,p,o]) ⟨.refl _,p',o,rfl⟩ (fun i σ H' _ iv=>.of (iv.1 _ _ hD5)) ?_ ?_
  ·intro _ _;rintro i v σ H6 hi ⟨g6,p6,o6,rfl⟩;obtain⟨p,e,rfl,he,sA,w',h1,h2⟩:=hz.2 i v hi;have h16:=g6 _ _ h1;have hR6:=g6 _ _ hR5;obtain⟨_,_,_,be,_⟩:=hpc _ (kZ he);simp! [hR6];refine⟨_,.of h16,rfl,_,_,rfl,_,_,rfl,rfl,?_⟩;intro M hM;have g7:=za4 hM (HO.lst ys);have eM:upd H6 M (HO.lst ys) M=some (HO.lst ys):=upd_same;generalize upd H6 M (HO.lst ys)=H7 at*;have g57:=g6.trans g7;have h27:=zgl _ _ _ _ (zaf g57) h2;have hs7:=hs5.ts zc9 (zaf g57);refine⟨sA,M,e,ys,ss,rfl,h27,eM,by omega,hs7,fun tA H8 g8 hA8=>?_⟩
   refine⟨sA,R,e,ys,ss,rfl,zgl _ _ _ _ (zaf g8) h27,be,g8 _ _ (g57 _ _ hR5),by omega,hs7.ts zc9 (zaf g8),fun tB H9 g9 hB9=>?_⟩
   refine⟨_,_,rd_b2 (g9 _ _ hA8),rd_b2 hB9,zg3 _,zg3 _,_,rfl,?_⟩;rw[zqi];exact iteF (g57.trans (g8.trans g9))
  ·rintro σ H6 ⟨g6,p6,o6,rfl⟩;simp! [];exact k H6
def ziz(K:kJ)(ts:List Addr):Sp:=fun vs H Q _=>∃(a:Addr)(ns:List Int),vs=[.ref a]/\SqL K H a (ns.map V.int)/\ns.length<=63/\(∀b,b∈ts->∀lp ql,zah H b lp ql)/\∀H',Q (.bl true) H'
theorem ok_law(T:Txt K mg ad fd)(hK:K.In base)(hB:∀b,b∈([ad 48,ad 50,ad 52]:List Addr)->base.BuiltinsAt mg b):FnOk P w K mg base CX0 9 (ad 46) (fd 46) ["_law_script"] (ziz K [(ad 48),(ad 50),(ad 52)]):=by
 refine T.law.fn.ok zhs (fun vs H Q E h=>?_) (fun cdv A outer s H vs Q E hr h=>?_)
 ·obtain⟨a,ns,rfl,_⟩:=h;rfl
 obtain⟨a,ns,rfl,hS,hn,hT,k⟩:=h;have ltB:=hT (ad 48) (by simp) zrv qlB
 have ltP:=hT (ad 50) (by simp) zqh qlP
 have ltN:=hT (ad 52) (by simp) zje qlN
 have zR:=@pss5;have zh:=@zbv;have ze:=@zap;have zj:=@pa1;have zt:=@pa3;have qpv:=@pv;have za:=@zat;have zg:=@pa2;have zL:=@zea;have zu:=@zdw;have zq:=@zc4;have zc:=@zd7;have yP:=@pe_slice;have yQ:=@po_none;have yR:=@po_some;have zX:=@zk4;have zF:=@zfb;have zo:=@zbw;have zP:=@zgh;have zy:=@pss3;have zm:=@zdb;have zH:=@PW.pt;have zW:=@pw_or;have zO:=@zkj;have zv:=@zer;have zw:=@zce;have yg:=@zrc;have zp:=@zb8;have yc:=@zs3;have zf:=@zac;have zd:=@zaj;have zN:=@znl;have zn:=@zau;have zb:=@zck;generalize @PE=QE,@PT=QT,@PW=QW,@PA=QA,@PS=QS,@PSs=QSs,@PG=QG,@PGs=QGs,@L2.PI=QI,@PO=QO,@PIf=QIf at zR zh ze zj zt qpv za zg zL zu zq zc yP yQ yR zX zF zo zP zy zm zH zW zO zv zw yg zp yc zf zd zN zn zb⊢;refine⟨_,
  (zR
   (zh (i:=1) zhs.nd rfl (km rfl) (ze (zju T) (hr.mono (by decide)) rfl T.law_sides.mg T.law_sides.fn.kp T.law_sides.bn .nil pass0 (zj (ze (zkc T) (hr.mono (by decide)) rfl T.law_rings.mg T.law_rings.fn.kp T.law_rings.bn .nil pass0 (zt (qpv 0) za1 za za9 (ze (ziv T) (hr.mono (by decide)) rfl T.law_far.mg T.law_far.fn.kp T.law_far.bn .nil pass0 (zj (ze (zb1 T) (hr.mono (by decide)) rfl T.law_cell_at.mg T.law_cell_at.fn.kp T.law_cell_at.bn .nil pass0 (zg (qpv 0) za1 za za9)) zar)) zar)) zar)))
   (zh (i:=2) zhs.nd rfl (km rfl) (zL zf8 rfl T.b_list zez (zj (qpv 1) za1)))
   (zh (i:=3) zhs.nd rfl (km rfl) (ze (zjy T hK hB) (hr.mono (by decide)) rfl T.pieces.mg T.pieces.fn.kp T.pieces.bn .nil pass0 (zj (zL zf8 rfl T.b_list zez (zj (qpv 1) za1)) zar)))
   (zu pT rfl (zq (zc zp2 (qpv 3) (yP sl_listH (qpv 3) yQ (yR za)))) (zX (n:=2) rfl (zF (zo (i:=4) zhs.nd rfl (km rfl)) (zF (zo (i:=5) zhs.nd rfl (km rfl)) zP))) (zy
   (zh (i:=6) zhs.nd rfl (km rfl) (ze (zmm T) (hr.mono (by decide)) rfl T.hands.mg T.hands.fn.kp T.hands.bn .nil pass0 (zg (qpv 4) za1 (qpv 2) za1)))
   (zm (zH (zW (zO (zv (zw (isiF zic) rfl T.b_isinstance zd3 (zg (qpv 6) za1 (yg (v:=.ty "tuple") rfl T.b_tuple bt_tuple rfl) za1)))) (zW (zp zpi (zw zcx rfl T.b_len zfh (zj (qpv 6) za1)) za (nomark _)) (yc (zp (zkx (hu64 hr)) (qpv 2) (qpv 1) (nomark _)))))) (zf (zd zN)) zn)
   (zm (zH (zW (zO (zv (zw (isiF zee) rfl T.b_isinstance zd3 (zg (zb za2 (qpv 6) za fun _ _=>rfl) za3 (yg (v:=.ty "bool") rfl T.b_bool zll rfl) za1)))) (zW (zO (zv (zw (isiF zee) rfl T.b_isinstance zd3 (zg (zb za2 (qpv 6) za fun _ _=>rfl) za3 (yg (v:=.ty "bool") rfl T.b_bool zll rfl) za1)))) (yc (zp (zkx (hu64 hr)) (qpv 6) (ze (zk8 T) (hr.mono (by decide)) rfl T.law_hands.mg T.law_hands.fn.kp T.law_hands.bn .nil pass0 (zg (qpv 4) za1 (qpv 1) za1)) (nomark _)))))) (zf (zd zN)) zn)))
   (zd (ze (zog T hK hB) (hr.mono (by decide)) rfl T.law_any.mg T.law_any.fn.kp T.law_any.bn .nil pass0 (zj (qpv 0) za1))))
  ,?_⟩
 clear zR zh ze zj zt qpv za zg zL zu zq zc yP yQ yR zX zF zo zP zy zm zH zW zO zv zw yg zp yc zf zd zN zn zb QE QT QW QA QS QSs QG QGs QI QO QIf
 dsimp! [L2.start]
 simp! [ze2];refine⟨ns,hS,by decide,_,rfl,fun f H1 g1 hf=>?_⟩
 refine⟨a,ns,f,rfl,g1.seq hS,hf,fun Rg ys0 rs H2 g2 hRg hrg hle h3=>?_⟩;refine⟨Rg,ys0,rs,rfl,hRg,hrg,hle,h3,fun R ys H3 hRn g3 hR lys hs=>?_⟩;simp! [hR];intro Lh hLh;have g4:=za4 hLh (HO.lst ys);have eLh:upd H3 Lh (HO.lst ys) Lh=some (HO.lst ys):=upd_same;generalize upd H3 Lh (HO.lst ys)=H4 at*;have hR4:=g4 _ _ hR;simp! [hR4];intro L hL;have g5:=za4 hL (HO.lst ys);have eL:upd H4 L (HO.lst ys) L=some (HO.lst ys):=upd_same;generalize upd H4 L (HO.lst ys)=H5 at*;have g05:=g1.trans (g2.trans (g3.trans (g4.trans g5)));have hs5:=hs.ts zc9 (zaf (g4.trans g5));have ltB5:=ltB.same g05;have ltP5:=ltP.same g05;have ltN5:=ltN.same g05;refine⟨L,ys,_,rfl,eL,lys,hs5,ltB5,ltP5,ltN5,fun D zs fs ps g H6 st6 ltB6 ltP6 ltN6 hD6 lz hz nd TT hpc=>?_⟩;have ls6:∀{b:Addr}{us:List V},H5 b=some (.lst us)->H6 b=some (.lst us):=fun h=>st6 _ _ (ltB5.ne h fun _ z=>nomatch z) (ltP5.ne h fun _ z=>nomatch z) (ltN5.ne h fun _ z=>nomatch z) h;have ts6:zbp H5 H6:=fun b us h=>st6 _ _ (ltB5.ne h fun _ z=>nomatch z) (ltP5.ne h fun _ z=>nomatch z) (ltN5.ne h fun _ z=>nomatch z) h;have hR6:=ls6 (g5 _ _ hR4);have hLh6:=ls6 (g5 _ _ eLh);have hs6:=hs5.ts zc9 ts6;have hS6:SqL K H6 a (ns.map V.int):=by
  rcases g05.seq hS with(h|⟨o,h⟩)|h
  ·exact .inl (.inl (ls6 h))
  ·exact .inl (.inr ⟨o,st6 _ _ (ltB5.ne h fun _ z=>nomatch z) (ltP5.ne h fun _ z=>nomatch z) (ltN5.ne h fun _ z=>nomatch z) h⟩)
  ·exact .inr h
 obtain⟨n3,en3⟩:∃n,cutV zs none (some 3)=zs.take n:=⟨_,by
  unfold cutV;rw[HT.sIx_none,vk]⟩
 refine zbo ?_;simp! [zcm,rCat,hD6];rw[en3];intro q hq;have g7:=za4 hq (HO.lst (zs.take n3));generalize upd H6 q (HO.lst (zs.take n3))=H7 at*;refine⟨zs,g7 _ _ hD6,ud (small10k (by rw[pA];omega)),fun p hp=>?_⟩
 have g8:=za4 hp (HO.lst (zs++zs.take n3));have ep:upd H7 p (HO.lst (zs++zs.take n3)) p=some (HO.lst (zs++zs.take n3)):=upd_same;generalize upd H7 p (HO.lst (zs++zs.take n3))=H8 at*;have g68:=g7.trans g8;refine⟨⟨_,.of ep⟩,?_⟩;refine zbh (K:=K) (a:=p) (xs:=zs++zs.take n3) (fun i σ H'=>Same H8 H'/\∃(p4 o5 o6:Option V),σ=[some (V.ref a),some (V.ref R),some (V.ref Lh),some (V.ref D),p4,o5,o6]) ⟨.refl _,none,none,none,rfl⟩ (fun i σ H' _ iv=>.of (iv.1 _ _ ep)) ?_ ?_
 ·intro _ _;rintro i v σ H9 hi ⟨g9,p4,o5,o6,rfl⟩;have hv:v∈zs:=by
   rcases kY.mp (kZ hi) with z|z
   ·exact z
   ·exact Qn z
  obtain⟨j,hj⟩:=pX.mp hv;obtain⟨pr,e,rfl,he,sA,w',h1,h2⟩:=hz.2 j v hj;have g69:=g68.trans g9;have h19:=g69 _ _ h1;obtain⟨_,_,_,be,_⟩:=hpc _ (kZ he);simp! [];refine⟨_,.of h19,rfl,_,_,rfl,_,_,rfl,rfl,?_⟩;have h29:=zgl _ _ _ _ (zaf g69) h2;refine⟨sA,Lh,e,ys,_,rfl,h29,g69 _ _ hLh6,lys,hs6.ts zc9 (zaf g69),fun tA H10 g10 hA=>?_⟩;have g610:=g69.trans g10;have hs10:=hs6.ts zc9 (zaf g610);have tA':=tyF_tup hA;simp! [hA,tA'];rw[if_neg (by decide)]
  refine⟨_,_,rd_stl (g610 _ _ hLh6) (stl_of hs10),rd_stl (g610 _ _ hR6) (stl_of hs10),zil _,zil _,_,rfl,?_⟩;rw[stl_eqv];refine iteF ⟨_,hA,_,at0,"bool",rfl,?_⟩;rw[if_neg (by decide)]
  refine⟨_,hA,_,at1,"bool",rfl,?_⟩;rw[if_neg (by decide)]
  refine⟨sA,R,e,ys,_,rfl,zgl _ _ _ _ (zaf g10) h29,be,g610 _ _ hR6,lys,hs10,fun tB H11 g11 hB=>?_⟩;have ag:hnd e (sdA rs)=hndL e (sdA rs):=zm8 TT rfl (n:=100) (fun r hr k hk=>by
   obtain⟨j,hj⟩:=pX.mp hr;have hjl:=(kF.mp hj).1;obtain⟨_,r',_,e',_,us,_,hu⟩:=hrg.2 j _ (kK (by rw[hrg.1];exact hjl))
   rw[hj] at e'
   cases e';obtain⟨_,q',_,f',hq'⟩:=hu.at (j:=k) (by rw[hu.1];exact hk)
   rw[kD,f'];exact hq'.2) (hpc _ (kZ he))
  refine⟨_,_,rd_b2 (g11 _ _ hA),rd_b2 hB,zg3 _,zg3 _,_,rfl,?_⟩;rw[ag,zqi];exact iteF (g9.trans (g10.trans g11))
 ·rintro σ H9 ⟨g9,p4,o5,o6,rfl⟩;have g69:=g68.trans g9;simp! [];exact⟨a,ns,rfl,g69.seq hS6,ltB6.same g69,ltP6.same g69,ltN6.same g69,k⟩
end
theorem all_mk{l:BQ}{w:pN}{K:kJ}{h:Heap}{mg:Str->Option kB}{fa f0 f1 f2 f3 f4 f5 f6 f7 f8 f9 f10 f11 cT0 pT0 f12 cT1 pT1 f13 f14 f15 f16 f17 f18 f19 f20 f21 f22 f23 f24 f25 f26 cT2 pT2 f27 f28 f29 f30 f31 f32 f33 f34 f35 f36 f37 f38 f39 f40 f41 f42 f43 f44 f45 f46:Addr}(X:K.In h)(G:h.Ns kR mg)(hfa:mg "law"=some (.ref fa))
  {od0 an0:Option Addr}{sl0:Array (Option kB)}{oc0 kV0 dc0 pm0 cd0 ct0:kB}
  {od1 an1:Option Addr}{sl1:Array (Option kB)}{oc1 kV1 dc1 pm1 cd1 ct1:kB}
  {od2 an2:Option Addr}{sl2:Array (Option kB)}{oc2 kV2 dc2 pm2 cd2 ct2:kB}
  {od3 an3:Option Addr}{sl3:Array (Option kB)}{oc3 kV3 dc3 pm3 cd3 ct3:kB}
  {od4 an4:Option Addr}{sl4:Array (Option kB)}{oc4 kV4 dc4 pm4 cd4 ct4:kB}
  {od5 an5:Option Addr}{sl5:Array (Option kB)}{oc5 kV5 dc5 pm5 cd5 ct5:kB}
  {od6 an6:Option Addr}{sl6:Array (Option kB)}{oc6 kV6 dc6 pm6 cd6 ct6:kB}
  {od7 an7:Option Addr}{sl7:Array (Option kB)}{oc7 kV7 dc7 pm7 cd7 ct7:kB}
  {od8 an8:Option Addr}{sl8:Array (Option kB)}{oc8 kV8 dc8 pm8 cd8 ct8:kB}
  {od9 an9:Option Addr}{sl9:Array (Option kB)}{oc9 kV9 dc9 pm9 cd9 ct9:kB}
  {od10 an10:Option Addr}{sl10:Array (Option kB)}{oc10 kV10 dc10 pm10 cd10 ct10:kB}
  {od11 an11:Option Addr}{sl11:Array (Option kB)}{oc11 kV11 dc11 pm11 ct11:kB}
  {tdT0:Option Addr}{tvT0:Array kB}{tsT0:Array (Option kB)}{tcT0:kB}
  {od12 an12:Option Addr}{sl12:Array (Option kB)}{oc12 kV12 dc12 pm12 ct12:kB}
  {tdT1:Option Addr}{tvT1:Array kB}{tsT1:Array (Option kB)}{tcT1:kB}
  {od13 an13:Option Addr}{sl13:Array (Option kB)}{oc13 kV13 dc13 pm13 cd13 ct13:kB}
  {od14 an14:Option Addr}{sl14:Array (Option kB)}{oc14 kV14 dc14 pm14 cd14 ct14:kB}
  {od15 an15:Option Addr}{sl15:Array (Option kB)}{oc15 kV15 dc15 pm15 cd15 ct15:kB}
  {od16 an16:Option Addr}{sl16:Array (Option kB)}{oc16 kV16 dc16 pm16 cd16 ct16:kB}
  {od17 an17:Option Addr}{sl17:Array (Option kB)}{oc17 kV17 dc17 pm17 cd17 ct17:kB}
  {od18 an18:Option Addr}{sl18:Array (Option kB)}{oc18 kV18 dc18 pm18 cd18 ct18:kB}
  {od19 an19:Option Addr}{sl19:Array (Option kB)}{oc19 kV19 dc19 pm19 cd19 ct19:kB}
  {od20 an20:Option Addr}{sl20:Array (Option kB)}{oc20 kV20 dc20 pm20 cd20 ct20:kB}
  {od21 an21:Option Addr}{sl21:Array (Option kB)}{oc21 kV21 dc21 pm21 cd21 ct21:kB}
  {od22 an22:Option Addr}{sl22:Array (Option kB)}{oc22 kV22 dc22 pm22 cd22 ct22:kB}
  {od23 an23:Option Addr}{sl23:Array (Option kB)}{oc23 kV23 dc23 pm23 cd23 ct23:kB}
  {od24 an24:Option Addr}{sl24:Array (Option kB)}{oc24 kV24 dc24 pm24 cd24 ct24:kB}
  {od25 an25:Option Addr}{sl25:Array (Option kB)}{oc25 kV25 dc25 pm25 cd25 ct25:kB}
  {od26 an26:Option Addr}{sl26:Array (Option kB)}{oc26 kV26 dc26 pm26 ct26:kB}
  {tdT2:Option Addr}{tvT2:Array kB}{tsT2:Array (Option kB)}{tcT2:kB}
  {od27 an27:Option Addr}{sl27:Array (Option kB)}{oc27 kV27 dc27 pm27 cd27 ct27:kB}
  {od28 an28:Option Addr}{sl28:Array (Option kB)}{oc28 kV28 dc28 pm28 cd28 ct28:kB}
  {od29 an29:Option Addr}{sl29:Array (Option kB)}{oc29 kV29 dc29 pm29 cd29 ct29:kB}
  {od30 an30:Option Addr}{sl30:Array (Option kB)}{oc30 kV30 dc30 pm30 cd30 ct30:kB}
  {od31 an31:Option Addr}{sl31:Array (Option kB)}{oc31 kV31 dc31 pm31 cd31 ct31:kB}
  {od32 an32:Option Addr}{sl32:Array (Option kB)}{oc32 kV32 dc32 pm32 cd32 ct32:kB}
  {od33 an33:Option Addr}{sl33:Array (Option kB)}{oc33 kV33 dc33 pm33 cd33 ct33:kB}
  {od34 an34:Option Addr}{sl34:Array (Option kB)}{oc34 kV34 dc34 pm34 cd34 ct34:kB}
  {od35 an35:Option Addr}{sl35:Array (Option kB)}{oc35 kV35 dc35 pm35 cd35 ct35:kB}
  {od36 an36:Option Addr}{sl36:Array (Option kB)}{oc36 kV36 dc36 pm36 cd36 ct36:kB}
  {od37 an37:Option Addr}{sl37:Array (Option kB)}{oc37 kV37 dc37 pm37 cd37 ct37:kB}
  {od38 an38:Option Addr}{sl38:Array (Option kB)}{oc38 kV38 dc38 pm38 cd38 ct38:kB}
  {od39 an39:Option Addr}{sl39:Array (Option kB)}{oc39 kV39 dc39 pm39 cd39 ct39:kB}
  {od40 an40:Option Addr}{sl40:Array (Option kB)}{oc40 kV40 dc40 pm40 cd40 ct40:kB}
  {od41 an41:Option Addr}{sl41:Array (Option kB)}{oc41 kV41 dc41 pm41 cd41 ct41:kB}
  {od42 an42:Option Addr}{sl42:Array (Option kB)}{oc42 kV42 dc42 pm42 cd42 ct42:kB}
  {od43 an43:Option Addr}{sl43:Array (Option kB)}{oc43 kV43 dc43 pm43 cd43 ct43:kB}
  {od44 an44:Option Addr}{sl44:Array (Option kB)}{oc44 kV44 dc44 pm44 cd44 ct44:kB}
  {od45 an45:Option Addr}{sl45:Array (Option kB)}{oc45 kV45 dc45 pm45 cd45 ct45:kB}
  {od46 an46:Option Addr}{sl46:Array (Option kB)}{oc46 kV46 dc46 pm46 cd46 ct46:kB}
  (a0:kX K kR "is_whole"=some (some (.ref f0)))(l0:K.lookup f0=some ⟨oc0,od0,.func (kE "is_whole" "is_whole" (za6 zbb) (za5 zbb) (za0 zbb) .none kV0 dc0 pm0 an0 cd0 ct0),sl0⟩)(c0:kU K cd0 "is_whole"=true)(k0:kW K (.ref f0)=true)
  (a1:kX K kR "divisor"=some (some (.ref f1)))(l1:K.lookup f1=some ⟨oc1,od1,.func (kE "divisor" "divisor" (za6 zd2) (za5 zd2) (za0 zd2) .none kV1 dc1 pm1 an1 cd1 ct1),sl1⟩)(c1:kU K cd1 "divisor"=true)(k1:kW K (.ref f1)=true)
  (a2:kX K kR "point"=some (some (.ref f2)))(l2:K.lookup f2=some ⟨oc2,od2,.func (kE "point" "point" (za6 zel) (za5 zel) (za0 zel) .none kV2 dc2 pm2 an2 cd2 ct2),sl2⟩)(c2:kU K cd2 "point"=true)(k2:kW K (.ref f2)=true)
  (a3:kX K kR "before"=some (some (.ref f3)))(l3:K.lookup f3=some ⟨oc3,od3,.func (kE "before" "before" (za6 zdh) (za5 zdh) (za0 zdh) .none kV3 dc3 pm3 an3 cd3 ct3),sl3⟩)(c3:kU K cd3 "before"=true)(k3:kW K (.ref f3)=true)
  (a4:kX K kR "sign_of"=some (some (.ref f4)))(l4:K.lookup f4=some ⟨oc4,od4,.func (kE "sign_of" "sign_of" (za6 zd1) (za5 zd1) (za0 zd1) .none kV4 dc4 pm4 an4 cd4 ct4),sl4⟩)(c4:kU K cd4 "sign_of"=true)(k4:kW K (.ref f4)=true)
  (a5:kX K kR "line_of"=some (some (.ref f5)))(l5:K.lookup f5=some ⟨oc5,od5,.func (kE "line_of" "line_of" (za6 zd5) (za5 zd5) (za0 zd5) .none kV5 dc5 pm5 an5 cd5 ct5),sl5⟩)(c5:kU K cd5 "line_of"=true)(k5:kW K (.ref f5)=true)
  (a6:kX K kR "side_of"=some (some (.ref f6)))(l6:K.lookup f6=some ⟨oc6,od6,.func (kE "side_of" "side_of" (za6 zcs) (za5 zcs) (za0 zcs) .none kV6 dc6 pm6 an6 cd6 ct6),sl6⟩)(c6:kU K cd6 "side_of"=true)(k6:kW K (.ref f6)=true)
  (a7:kX K kR "turn"=some (some (.ref f7)))(l7:K.lookup f7=some ⟨oc7,od7,.func (kE "turn" "turn" (za6 zgc) (za5 zgc) (za0 zgc) .none kV7 dc7 pm7 an7 cd7 ct7),sl7⟩)(c7:kU K cd7 "turn"=true)(k7:kW K (.ref f7)=true)
  (a8:kX K kR "met"=some (some (.ref f8)))(l8:K.lookup f8=some ⟨oc8,od8,.func (kE "met" "met" (za6 zj9) (za5 zj9) (za0 zj9) .none kV8 dc8 pm8 an8 cd8 ct8),sl8⟩)(c8:kU K cd8 "met"=true)(k8:kW K (.ref f8)=true)
  (a9:kX K kR "amid"=some (some (.ref f9)))(l9:K.lookup f9=some ⟨oc9,od9,.func (kE "amid" "amid" (za6 zg4) (za5 zg4) (za0 zg4) .none kV9 dc9 pm9 an9 cd9 ct9),sl9⟩)(c9:kU K cd9 "amid"=true)(k9:kW K (.ref f9)=true)
  (a10:kX K kR "order_keys"=some (some (.ref f10)))(l10:K.lookup f10=some ⟨oc10,od10,.func (kE "order_keys" "order_keys" (za6 zb2) (za5 zb2) (za0 zb2) .none kV10 dc10 pm10 an10 cd10 ct10),sl10⟩)(c10:kU K cd10 "order_keys"=true)(k10:kW K (.ref f10)=true)
  (a11:kX K kR "in_order"=some (some (.ref f11)))(l11:K.lookup f11=some ⟨oc11,od11,.func (kE "in_order" "in_order" (za6 zb4) (za5 zb4) (za0 zb4) .none kV11 dc11 pm11 an11 (.ref cT0) ct11),sl11⟩)(c11:kU K (.ref cT0) "in_order"=true)(k11:kW K (.ref f11)=true)
  (lT0:K.lookup cT0=some ⟨tcT0,tdT0,.fields tvT0,tsT0⟩)(vT0:tvT0[11]?=some (.ref pT0))(hT0:Ay K cT0 pT0=true)(tT0:vz K "in_order"=some (cT0,pT0))(nT0:K.lookup pT0=none)
  (a12:kX K kR "by_points"=some (some (.ref f12)))(l12:K.lookup f12=some ⟨oc12,od12,.func (kE "by_points" "by_points" (za6 zao) (za5 zao) (za0 zao) .none kV12 dc12 pm12 an12 (.ref cT1) ct12),sl12⟩)(c12:kU K (.ref cT1) "by_points"=true)(k12:kW K (.ref f12)=true)
  (lT1:K.lookup cT1=some ⟨tcT1,tdT1,.fields tvT1,tsT1⟩)(vT1:tvT1[11]?=some (.ref pT1))(hT1:Ay K cT1 pT1=true)(tT1:vz K "by_points"=some (cT1,pT1))(nT1:K.lookup pT1=none)
  (a13:kX K kR "ends_of"=some (some (.ref f13)))(l13:K.lookup f13=some ⟨oc13,od13,.func (kE "ends_of" "ends_of" (za6 zcy) (za5 zcy) (za0 zcy) .none kV13 dc13 pm13 an13 cd13 ct13),sl13⟩)(c13:kU K cd13 "ends_of"=true)(k13:kW K (.ref f13)=true)
  (a14:kX K kR "lies_on"=some (some (.ref f14)))(l14:K.lookup f14=some ⟨oc14,od14,.func (kE "lies_on" "lies_on" (za6 zcu) (za5 zcu) (za0 zcu) .none kV14 dc14 pm14 an14 cd14 ct14),sl14⟩)(c14:kU K cd14 "lies_on"=true)(k14:kW K (.ref f14)=true)
  (a15:kX K kR "meet"=some (some (.ref f15)))(l15:K.lookup f15=some ⟨oc15,od15,.func (kE "meet" "meet" (za6 zg7) (za5 zg7) (za0 zg7) .none kV15 dc15 pm15 an15 cd15 ct15),sl15⟩)(c15:kU K cd15 "meet"=true)(k15:kW K (.ref f15)=true)
  (a16:kX K kR "meet_on_line"=some (some (.ref f16)))(l16:K.lookup f16=some ⟨oc16,od16,.func (kE "meet_on_line" "meet_on_line" (za6 zal) (za5 zal) (za0 zal) .none kV16 dc16 pm16 an16 cd16 ct16),sl16⟩)(c16:kU K cd16 "meet_on_line"=true)(k16:kW K (.ref f16)=true)
  (a17:kX K kR "is_upright"=some (some (.ref f17)))(l17:K.lookup f17=some ⟨oc17,od17,.func (kE "is_upright" "is_upright" (za6 zbj) (za5 zbj) (za0 zbj) .none kV17 dc17 pm17 an17 cd17 ct17),sl17⟩)(c17:kU K cd17 "is_upright"=true)(k17:kW K (.ref f17)=true)
  (a18:kX K kR "above"=some (some (.ref f18)))(l18:K.lookup f18=some ⟨oc18,od18,.func (kE "above" "above" (za6 ze4) (za5 ze4) (za0 ze4) .none kV18 dc18 pm18 an18 cd18 ct18),sl18⟩)(c18:kU K cd18 "above"=true)(k18:kW K (.ref f18)=true)
  (a19:kX K kR "spans"=some (some (.ref f19)))(l19:K.lookup f19=some ⟨oc19,od19,.func (kE "spans" "spans" (za6 zeo) (za5 zeo) (za0 zeo) .none kV19 dc19 pm19 an19 cd19 ct19),sl19⟩)(c19:kU K cd19 "spans"=true)(k19:kW K (.ref f19)=true)
  (a20:kX K kR "hands"=some (some (.ref f20)))(l20:K.lookup f20=some ⟨oc20,od20,.func (kE "hands" "hands" (za6 ze3) (za5 ze3) (za0 ze3) .none kV20 dc20 pm20 an20 cd20 ct20),sl20⟩)(c20:kU K cd20 "hands"=true)(k20:kW K (.ref f20)=true)
  (a21:kX K kR "stops"=some (some (.ref f21)))(l21:K.lookup f21=some ⟨oc21,od21,.func (kE "stops" "stops" (za6 ze5) (za5 ze5) (za0 ze5) .none kV21 dc21 pm21 an21 cd21 ct21),sl21⟩)(c21:kU K cd21 "stops"=true)(k21:kW K (.ref f21)=true)
  (a22:kX K kR "stop_at"=some (some (.ref f22)))(l22:K.lookup f22=some ⟨oc22,od22,.func (kE "stop_at" "stop_at" (za6 zc2) (za5 zc2) (za0 zc2) .none kV22 dc22 pm22 an22 cd22 ct22),sl22⟩)(c22:kU K cd22 "stop_at"=true)(k22:kW K (.ref f22)=true)
  (a23:kX K kR "lying_at"=some (some (.ref f23)))(l23:K.lookup f23=some ⟨oc23,od23,.func (kE "lying_at" "lying_at" (za6 zcb) (za5 zcb) (za0 zcb) .none kV23 dc23 pm23 an23 cd23 ct23),sl23⟩)(c23:kU K cd23 "lying_at"=true)(k23:kW K (.ref f23)=true)
  (a24:kX K kR "note"=some (some (.ref f24)))(l24:K.lookup f24=some ⟨oc24,od24,.func (kE "note" "note" (za6 zg8) (za5 zg8) (za0 zg8) .none kV24 dc24 pm24 an24 cd24 ct24),sl24⟩)(c24:kU K cd24 "note"=true)(k24:kW K (.ref f24)=true)
  (a25:kX K kR "shared_ends"=some (some (.ref f25)))(l25:K.lookup f25=some ⟨oc25,od25,.func (kE "shared_ends" "shared_ends" (za6 zaz) (za5 zaz) (za0 zaz) .none kV25 dc25 pm25 an25 cd25 ct25),sl25⟩)(c25:kU K cd25 "shared_ends"=true)(k25:kW K (.ref f25)=true)
  (a26:kX K kR "near_pairs"=some (some (.ref f26)))(l26:K.lookup f26=some ⟨oc26,od26,.func (kE "near_pairs" "near_pairs" (za6 zae) (za5 zae) (za0 zae) .none kV26 dc26 pm26 an26 (.ref cT2) ct26),sl26⟩)(c26:kU K (.ref cT2) "near_pairs"=true)(k26:kW K (.ref f26)=true)
  (lT2:K.lookup cT2=some ⟨tcT2,tdT2,.fields tvT2,tsT2⟩)(vT2:tvT2[11]?=some (.ref pT2))(hT2:Ay K cT2 pT2=true)(tT2:vz K "near_pairs"=some (cT2,pT2))(nT2:K.lookup pT2=none)
  (a27:kX K kR "pieces"=some (some (.ref f27)))(l27:K.lookup f27=some ⟨oc27,od27,.func (kE "pieces" "pieces" (za6 zda) (za5 zda) (za0 zda) .none kV27 dc27 pm27 an27 cd27 ct27),sl27⟩)(c27:kU K cd27 "pieces"=true)(k27:kW K (.ref f27)=true)
  (a28:kX K kR "_law_cell_at"=some (some (.ref f28)))(l28:K.lookup f28=some ⟨oc28,od28,.func (kE "_law_cell_at" "_law_cell_at" (za6 zay) (za5 zay) (za0 zay) .none kV28 dc28 pm28 an28 cd28 ct28),sl28⟩)(c28:kU K cd28 "_law_cell_at"=true)(k28:kW K (.ref f28)=true)
  (a29:kX K kR "_law_lowest"=some (some (.ref f29)))(l29:K.lookup f29=some ⟨oc29,od29,.func (kE "_law_lowest" "_law_lowest" (za6 zbm) (za5 zbm) (za0 zbm) .none kV29 dc29 pm29 an29 cd29 ct29),sl29⟩)(c29:kU K cd29 "_law_lowest"=true)(k29:kW K (.ref f29)=true)
  (a30:kX K kR "_law_point"=some (some (.ref f30)))(l30:K.lookup f30=some ⟨oc30,od30,.func (kE "_law_point" "_law_point" (za6 zc0) (za5 zc0) (za0 zc0) .none kV30 dc30 pm30 an30 cd30 ct30),sl30⟩)(c30:kU K cd30 "_law_point"=true)(k30:kW K (.ref f30)=true)
  (a31:kX K kR "_law_turn"=some (some (.ref f31)))(l31:K.lookup f31=some ⟨oc31,od31,.func (kE "_law_turn" "_law_turn" (za6 zcf) (za5 zcf) (za0 zcf) .none kV31 dc31 pm31 an31 cd31 ct31),sl31⟩)(c31:kU K cd31 "_law_turn"=true)(k31:kW K (.ref f31)=true)
  (a32:kX K kR "_law_lefter"=some (some (.ref f32)))(l32:K.lookup f32=some ⟨oc32,od32,.func (kE "_law_lefter" "_law_lefter" (za6 zbk) (za5 zbk) (za0 zbk) .none kV32 dc32 pm32 an32 cd32 ct32),sl32⟩)(c32:kU K cd32 "_law_lefter"=true)(k32:kW K (.ref f32)=true)
  (a33:kX K kR "_law_lower"=some (some (.ref f33)))(l33:K.lookup f33=some ⟨oc33,od33,.func (kE "_law_lower" "_law_lower" (za6 zby) (za5 zby) (za0 zby) .none kV33 dc33 pm33 an33 cd33 ct33),sl33⟩)(c33:kU K cd33 "_law_lower"=true)(k33:kW K (.ref f33)=true)
  (a34:kX K kR "_law_before"=some (some (.ref f34)))(l34:K.lookup f34=some ⟨oc34,od34,.func (kE "_law_before" "_law_before" (za6 zbi) (za5 zbi) (za0 zbi) .none kV34 dc34 pm34 an34 cd34 ct34),sl34⟩)(c34:kU K cd34 "_law_before"=true)(k34:kW K (.ref f34)=true)
  (a35:kX K kR "_law_stretch"=some (some (.ref f35)))(l35:K.lookup f35=some ⟨oc35,od35,.func (kE "_law_stretch" "_law_stretch" (za6 zb0) (za5 zb0) (za0 zb0) .none kV35 dc35 pm35 an35 cd35 ct35),sl35⟩)(c35:kU K cd35 "_law_stretch"=true)(k35:kW K (.ref f35)=true)
  (a36:kX K kR "_law_above"=some (some (.ref f36)))(l36:K.lookup f36=some ⟨oc36,od36,.func (kE "_law_above" "_law_above" (za6 zbx) (za5 zbx) (za0 zbx) .none kV36 dc36 pm36 an36 cd36 ct36),sl36⟩)(c36:kU K cd36 "_law_above"=true)(k36:kW K (.ref f36)=true)
  (a37:kX K kR "_law_on"=some (some (.ref f37)))(l37:K.lookup f37=some ⟨oc37,od37,.func (kE "_law_on" "_law_on" (za6 zdl) (za5 zdl) (za0 zdl) .none kV37 dc37 pm37 an37 cd37 ct37),sl37⟩)(c37:kU K cd37 "_law_on"=true)(k37:kW K (.ref f37)=true)
  (a38:kX K kR "_law_amid"=some (some (.ref f38)))(l38:K.lookup f38=some ⟨oc38,od38,.func (kE "_law_amid" "_law_amid" (za6 zcd) (za5 zcd) (za0 zcd) .none kV38 dc38 pm38 an38 cd38 ct38),sl38⟩)(c38:kU K cd38 "_law_amid"=true)(k38:kW K (.ref f38)=true)
  (a39:kX K kR "_law_rings"=some (some (.ref f39)))(l39:K.lookup f39=some ⟨oc39,od39,.func (kE "_law_rings" "_law_rings" (za6 zbn) (za5 zbn) (za0 zbn) .none kV39 dc39 pm39 an39 cd39 ct39),sl39⟩)(c39:kU K cd39 "_law_rings"=true)(k39:kW K (.ref f39)=true)
  (a40:kX K kR "_law_far"=some (some (.ref f40)))(l40:K.lookup f40=some ⟨oc40,od40,.func (kE "_law_far" "_law_far" (za6 zct) (za5 zct) (za0 zct) .none kV40 dc40 pm40 an40 cd40 ct40),sl40⟩)(c40:kU K cd40 "_law_far"=true)(k40:kW K (.ref f40)=true)
  (a41:kX K kR "_law_sides"=some (some (.ref f41)))(l41:K.lookup f41=some ⟨oc41,od41,.func (kE "_law_sides" "_law_sides" (za6 zbz) (za5 zbz) (za0 zbz) .none kV41 dc41 pm41 an41 cd41 ct41),sl41⟩)(c41:kU K cd41 "_law_sides"=true)(k41:kW K (.ref f41)=true)
  (a42:kX K kR "_law_beside"=some (some (.ref f42)))(l42:K.lookup f42=some ⟨oc42,od42,.func (kE "_law_beside" "_law_beside" (za6 zbf) (za5 zbf) (za0 zbf) .none kV42 dc42 pm42 an42 cd42 ct42),sl42⟩)(c42:kU K cd42 "_law_beside"=true)(k42:kW K (.ref f42)=true)
  (a43:kX K kR "_law_hands"=some (some (.ref f43)))(l43:K.lookup f43=some ⟨oc43,od43,.func (kE "_law_hands" "_law_hands" (za6 zbs) (za5 zbs) (za0 zbs) .none kV43 dc43 pm43 an43 cd43 ct43),sl43⟩)(c43:kU K cd43 "_law_hands"=true)(k43:kW K (.ref f43)=true)
  (a44:kX K kR "_law_by_two"=some (some (.ref f44)))(l44:K.lookup f44=some ⟨oc44,od44,.func (kE "_law_by_two" "_law_by_two" (za6 zb3) (za5 zb3) (za0 zb3) .none kV44 dc44 pm44 an44 cd44 ct44),sl44⟩)(c44:kU K cd44 "_law_by_two"=true)(k44:kW K (.ref f44)=true)
  (a45:kX K kR "_law_any"=some (some (.ref f45)))(l45:K.lookup f45=some ⟨oc45,od45,.func (kE "_law_any" "_law_any" (za6 zd6) (za5 zd6) (za0 zd6) .none kV45 dc45 pm45 an45 cd45 ct45),sl45⟩)(c45:kU K cd45 "_law_any"=true)(k45:kW K (.ref f45)=true)
  (a46:kX K kR "law"=some (some (.ref f46)))(l46:K.lookup f46=some ⟨oc46,od46,.func (kE "law" "law" (za6 zgx) (za5 zgx) (za0 zgx) .none kV46 dc46 pm46 an46 cd46 ct46),sl46⟩)(c46:kU K cd46 "law"=true)(k46:kW K (.ref f46)=true)
  (eT01:pT0≠pT1)
  (eT02:pT0≠pT2)
  (eT12:pT1≠pT2)
  (z0:kX K kR "abs"=some none)
  (z1:kX K kR "bool"=some none)
  (z2:kX K kR "enumerate"=some none)
  (z3:kX K kR "int"=some none)
  (z4:kX K kR "isinstance"=some none)
  (z5:kX K kR "len"=some none)
  (z6:kX K kR "list"=some none)
  (z7:kX K kR "max"=some none)
  (z8:kX K kR "min"=some none)
  (z9:kX K kR "range"=some none)
  (z10:kX K kR "sorted"=some none)
  (z11:kX K kR "tuple"=some none)
  (z12:kX K kR "zip"=some none)
  :∃(fd:UU)(ts:List Addr),(∀b,b∈ts->K.lookup b=none/\∃y c,y∈([pQ "in_order",pQ "by_points",pQ "near_pairs"]:List Str)/\vz K y=some (c,b))/\(∀(s:kC)(v:kB),Ch s fd ⟨[v],[]⟩ [("_law_script",v)])/\∀base:Heap,K.In base->base.Ns kR mg->(∀b,b∈ts->base.BuiltinsAt mg b)->FnOk l.prog w K mg base CX0 9 fa fd ["_law_script"] (ziz K ts):=by
 have e:=hfa.symm.trans (kg X G a46)
 cases e;have F0:=zai (st:=zbb) l0 c0 k0;have b0:=F0.binds (ps:=["thing"]) fun _ _ _ _ _ _ us hl=>match us,hl with|[_],_=>rfl
 have F1:=zai (st:=zd2) l1 c1 k1;have b1:=F1.binds (ps:=["one","other"]) fun _ _ _ _ _ _ us hl=>match us,hl with|[_,_],_=>rfl
 have F2:=zai (st:=zel) l2 c2 k2;have b2:=F2.binds (ps:=["x","y","w"]) fun _ _ _ _ _ _ us hl=>match us,hl with|[_,_,_],_=>rfl
 have F3:=zai (st:=zdh) l3 c3 k3;have b3:=F3.binds (ps:=["P","Q"]) fun _ _ _ _ _ _ us hl=>match us,hl with|[_,_],_=>rfl
 have F4:=zai (st:=zd1) l4 c4 k4;have b4:=F4.binds (ps:=["number"]) fun _ _ _ _ _ _ us hl=>match us,hl with|[_],_=>rfl
 have F5:=zai (st:=zd5) l5 c5 k5;have b5:=F5.binds (ps:=["P","Q"]) fun _ _ _ _ _ _ us hl=>match us,hl with|[_,_],_=>rfl
 have F6:=zai (st:=zcs) l6 c6 k6;have b6:=F6.binds (ps:=["line","P"]) fun _ _ _ _ _ _ us hl=>match us,hl with|[_,_],_=>rfl
 have F7:=zai (st:=zgc) l7 c7 k7;have b7:=F7.binds (ps:=["P","Q","R"]) fun _ _ _ _ _ _ us hl=>match us,hl with|[_,_,_],_=>rfl
 have F8:=zai (st:=zj9) l8 c8 k8;have b8:=F8.binds (ps:=["one","other"]) fun _ _ _ _ _ _ us hl=>match us,hl with|[_,_],_=>rfl
 have F9:=zai (st:=zg4) l9 c9 k9;have b9:=F9.binds (ps:=["P","Q"]) fun _ _ _ _ _ _ us hl=>match us,hl with|[_,_],_=>rfl
 have F10:=zai (st:=zb2) l10 c10 k10;have b10:=F10.binds (ps:=["points"]) fun _ _ _ _ _ _ us hl=>match us,hl with|[_],_=>rfl
 have F11:=zai (st:=zb4) l11 c11 k11;have FC11:FunC K "in_order" "in_order" zb4 f11 _ cT0 pT0:=⟨⟨_,_,_,_,_,_,_,_,rfl,l11,c11⟩,hT0⟩;have b11:=F11.binds (ps:=["points"]) fun _ _ _ _ _ _ us hl=>match us,hl with|[_],_=>rfl
 have F12:=zai (st:=zao) l12 c12 k12;have FC12:FunC K "by_points" "by_points" zao f12 _ cT1 pT1:=⟨⟨_,_,_,_,_,_,_,_,rfl,l12,c12⟩,hT1⟩;have b12:=F12.binds (ps:=["things"]) fun _ _ _ _ _ _ us hl=>match us,hl with|[_],_=>rfl
 have F13:=zai (st:=zcy) l13 c13 k13;have b13:=F13.binds (ps:=["stretches"]) fun _ _ _ _ _ _ us hl=>match us,hl with|[_],_=>rfl
 have F14:=zai (st:=zcu) l14 c14 k14;have b14:=F14.binds (ps:=["P","S"]) fun _ _ _ _ _ _ us hl=>match us,hl with|[_,_],_=>rfl
 have F15:=zai (st:=zg7) l15 c15 k15;have b15:=F15.binds (ps:=["one","other"]) fun _ _ _ _ _ _ us hl=>match us,hl with|[_,_],_=>rfl
 have F16:=zai (st:=zal) l16 c16 k16;have b16:=F16.binds (ps:=["one","other"]) fun _ _ _ _ _ _ us hl=>match us,hl with|[_,_],_=>rfl
 have F17:=zai (st:=zbj) l17 c17 k17;have b17:=F17.binds (ps:=["S"]) fun _ _ _ _ _ _ us hl=>match us,hl with|[_],_=>rfl
 have F18:=zai (st:=ze4) l18 c18 k18;have b18:=F18.binds (ps:=["stretches","P"]) fun _ _ _ _ _ _ us hl=>match us,hl with|[_,_],_=>rfl
 have F19:=zai (st:=zeo) l19 c19 k19;have b19:=F19.binds (ps:=["S","P"]) fun _ _ _ _ _ _ us hl=>match us,hl with|[_,_],_=>rfl
 have F20:=zai (st:=ze3) l20 c20 k20;have b20:=F20.binds (ps:=["S","stretches"]) fun _ _ _ _ _ _ us hl=>match us,hl with|[_,_],_=>rfl
 have F21:=zai (st:=ze5) l21 c21 k21;have b21:=F21.binds (ps:=["stretches"]) fun _ _ _ _ _ _ us hl=>match us,hl with|[_],_=>rfl
 have F22:=zai (st:=zc2) l22 c22 k22;have b22:=F22.binds (ps:=["P","numbers","stretches"]) fun _ _ _ _ _ _ us hl=>match us,hl with|[_,_,_],_=>rfl
 have F23:=zai (st:=zcb) l23 c23 k23;have b23:=F23.binds (ps:=["stretches"]) fun _ _ _ _ _ _ us hl=>match us,hl with|[_],_=>rfl
 have F24:=zai (st:=zg8) l24 c24 k24;have b24:=F24.binds (ps:=["lying","P","number"]) fun _ _ _ _ _ _ us hl=>match us,hl with|[_,_,_],_=>rfl
 have F25:=zai (st:=zaz) l25 c25 k25;have b25:=F25.binds (ps:=["common"]) fun _ _ _ _ _ _ us hl=>match us,hl with|[_],_=>rfl
 have F26:=zai (st:=zae) l26 c26 k26;have FC26:FunC K "near_pairs" "near_pairs" zae f26 _ cT2 pT2:=⟨⟨_,_,_,_,_,_,_,_,rfl,l26,c26⟩,hT2⟩;have b26:=F26.binds (ps:=["stretches"]) fun _ _ _ _ _ _ us hl=>match us,hl with|[_],_=>rfl
 have F27:=zai (st:=zda) l27 c27 k27;have b27:=F27.binds (ps:=["stretches"]) fun _ _ _ _ _ _ us hl=>match us,hl with|[_],_=>rfl
 have F28:=zai (st:=zay) l28 c28 k28;have b28:=F28.binds (ps:=["_law_script","_law_k"]) fun _ _ _ _ _ _ us hl=>match us,hl with|[_,_],_=>rfl
 have F29:=zai (st:=zbm) l29 c29 k29;have b29:=F29.binds (ps:=["_law_x","_law_y","_law_w"]) fun _ _ _ _ _ _ us hl=>match us,hl with|[_,_,_],_=>rfl
 have F30:=zai (st:=zc0) l30 c30 k30;have b30:=F30.binds (ps:=["_law_cell","_law_far_here"]) fun _ _ _ _ _ _ us hl=>match us,hl with|[_,_],_=>rfl
 have F31:=zai (st:=zcf) l31 c31 k31;have b31:=F31.binds (ps:=["_law_one","_law_two","_law_three"]) fun _ _ _ _ _ _ us hl=>match us,hl with|[_,_,_],_=>rfl
 have F32:=zai (st:=zbk) l32 c32 k32;have b32:=F32.binds (ps:=["_law_one","_law_other"]) fun _ _ _ _ _ _ us hl=>match us,hl with|[_,_],_=>rfl
 have F33:=zai (st:=zby) l33 c33 k33;have b33:=F33.binds (ps:=["_law_one","_law_other"]) fun _ _ _ _ _ _ us hl=>match us,hl with|[_,_],_=>rfl
 have F34:=zai (st:=zbi) l34 c34 k34;have b34:=F34.binds (ps:=["_law_one","_law_other"]) fun _ _ _ _ _ _ us hl=>match us,hl with|[_,_],_=>rfl
 have F35:=zai (st:=zb0) l35 c35 k35;have b35:=F35.binds (ps:=["_law_one","_law_other"]) fun _ _ _ _ _ _ us hl=>match us,hl with|[_,_],_=>rfl
 have F36:=zai (st:=zbx) l36 c36 k36;have b36:=F36.binds (ps:=["_law_stretches","_law_spot"]) fun _ _ _ _ _ _ us hl=>match us,hl with|[_,_],_=>rfl
 have F37:=zai (st:=zdl) l37 c37 k37;have b37:=F37.binds (ps:=["_law_spot","_law_piece"]) fun _ _ _ _ _ _ us hl=>match us,hl with|[_,_],_=>rfl
 have F38:=zai (st:=zcd) l38 c38 k38;have b38:=F38.binds (ps:=["_law_one","_law_other"]) fun _ _ _ _ _ _ us hl=>match us,hl with|[_,_],_=>rfl
 have F39:=zai (st:=zbn) l39 c39 k39;have b39:=F39.binds (ps:=["_law_script","_law_at","_law_far_here"]) fun _ _ _ _ _ _ us hl=>match us,hl with|[_,_,_],_=>rfl
 have F40:=zai (st:=zct) l40 c40 k40;have b40:=F40.binds (ps:=["_law_cell"]) fun _ _ _ _ _ _ us hl=>match us,hl with|[_],_=>rfl
 have F41:=zai (st:=zbz) l41 c41 k41;have b41:=F41.binds (ps:=["_law_rings_here"]) fun _ _ _ _ _ _ us hl=>match us,hl with|[_],_=>rfl
 have F42:=zai (st:=zbf) l42 c42 k42;have b42:=F42.binds (ps:=["_law_sides_here","_law_spot"]) fun _ _ _ _ _ _ us hl=>match us,hl with|[_,_],_=>rfl
 have F43:=zai (st:=zbs) l43 c43 k43;have b43:=F43.binds (ps:=["_law_piece","_law_sides_here"]) fun _ _ _ _ _ _ us hl=>match us,hl with|[_,_],_=>rfl
 have F44:=zai (st:=zb3) l44 c44 k44;have b44:=F44.binds (ps:=["_law_piece","_law_stretches"]) fun _ _ _ _ _ _ us hl=>match us,hl with|[_,_],_=>rfl
 have F45:=zai (st:=zd6) l45 c45 k45;have b45:=F45.binds (ps:=["_law_script"]) fun _ _ _ _ _ _ us hl=>match us,hl with|[_],_=>rfl
 have F46:=zai (st:=zgx) l46 c46 k46;have b46:=F46.binds (ps:=["_law_script"]) fun _ _ _ _ _ _ us hl=>match us,hl with|[_],_=>rfl
 have T:Txt K mg (fun n=>[f0,f1,f2,f3,f4,f5,f6,f7,f8,f9,f10,f11,f12,f13,f14,f15,f16,f17,f18,f19,f20,f21,f22,f23,f24,f25,f26,f27,f28,f29,f30,f31,f32,f33,f34,f35,f36,f37,f38,f39,f40,f41,f42,f43,f44,f45,fa,cT0,pT0,cT1,pT1,cT2,pT2].getD n 0) (fun n=>[kE "is_whole" "is_whole" (za6 zbb) (za5 zbb) (za0 zbb) .none kV0 dc0 pm0 an0 cd0 ct0,kE "divisor" "divisor" (za6 zd2) (za5 zd2) (za0 zd2) .none kV1 dc1 pm1 an1 cd1 ct1,kE "point" "point" (za6 zel) (za5 zel) (za0 zel) .none kV2 dc2 pm2 an2 cd2 ct2,kE "before" "before" (za6 zdh) (za5 zdh) (za0 zdh) .none kV3 dc3 pm3 an3 cd3 ct3,kE "sign_of" "sign_of" (za6 zd1) (za5 zd1) (za0 zd1) .none kV4 dc4 pm4 an4 cd4 ct4,kE "line_of" "line_of" (za6 zd5) (za5 zd5) (za0 zd5) .none kV5 dc5 pm5 an5 cd5 ct5,kE "side_of" "side_of" (za6 zcs) (za5 zcs) (za0 zcs) .none kV6 dc6 pm6 an6 cd6 ct6,kE "turn" "turn" (za6 zgc) (za5 zgc) (za0 zgc) .none kV7 dc7 pm7 an7 cd7 ct7,kE "met" "met" (za6 zj9) (za5 zj9) (za0 zj9) .none kV8 dc8 pm8 an8 cd8 ct8,kE "amid" "amid" (za6 zg4) (za5 zg4) (za0 zg4) .none kV9 dc9 pm9 an9 cd9 ct9,kE "order_keys" "order_keys" (za6 zb2) (za5 zb2) (za0 zb2) .none kV10 dc10 pm10 an10 cd10 ct10,kE "in_order" "in_order" (za6 zb4) (za5 zb4) (za0 zb4) .none kV11 dc11 pm11 an11 (.ref cT0) ct11,kE "by_points" "by_points" (za6 zao) (za5 zao) (za0 zao) .none kV12 dc12 pm12 an12 (.ref cT1) ct12,kE "ends_of" "ends_of" (za6 zcy) (za5 zcy) (za0 zcy) .none kV13 dc13 pm13 an13 cd13 ct13,kE "lies_on" "lies_on" (za6 zcu) (za5 zcu) (za0 zcu) .none kV14 dc14 pm14 an14 cd14 ct14,kE "meet" "meet" (za6 zg7) (za5 zg7) (za0 zg7) .none kV15 dc15 pm15 an15 cd15 ct15,kE "meet_on_line" "meet_on_line" (za6 zal) (za5 zal) (za0 zal) .none kV16 dc16 pm16 an16 cd16 ct16,kE "is_upright" "is_upright" (za6 zbj) (za5 zbj) (za0 zbj) .none kV17 dc17 pm17 an17 cd17 ct17,kE "above" "above" (za6 ze4) (za5 ze4) (za0 ze4) .none kV18 dc18 pm18 an18 cd18 ct18,kE "spans" "spans" (za6 zeo) (za5 zeo) (za0 zeo) .none kV19 dc19 pm19 an19 cd19 ct19,kE "hands" "hands" (za6 ze3) (za5 ze3) (za0 ze3) .none kV20 dc20 pm20 an20 cd20 ct20,kE "stops" "stops" (za6 ze5) (za5 ze5) (za0 ze5) .none kV21 dc21 pm21 an21 cd21 ct21,kE "stop_at" "stop_at" (za6 zc2) (za5 zc2) (za0 zc2) .none kV22 dc22 pm22 an22 cd22 ct22,kE "lying_at" "lying_at" (za6 zcb) (za5 zcb) (za0 zcb) .none kV23 dc23 pm23 an23 cd23 ct23,kE "note" "note" (za6 zg8) (za5 zg8) (za0 zg8) .none kV24 dc24 pm24 an24 cd24 ct24,kE "shared_ends" "shared_ends" (za6 zaz) (za5 zaz) (za0 zaz) .none kV25 dc25 pm25 an25 cd25 ct25,kE "near_pairs" "near_pairs" (za6 zae) (za5 zae) (za0 zae) .none kV26 dc26 pm26 an26 (.ref cT2) ct26,kE "pieces" "pieces" (za6 zda) (za5 zda) (za0 zda) .none kV27 dc27 pm27 an27 cd27 ct27,kE "_law_cell_at" "_law_cell_at" (za6 zay) (za5 zay) (za0 zay) .none kV28 dc28 pm28 an28 cd28 ct28,kE "_law_lowest" "_law_lowest" (za6 zbm) (za5 zbm) (za0 zbm) .none kV29 dc29 pm29 an29 cd29 ct29,kE "_law_point" "_law_point" (za6 zc0) (za5 zc0) (za0 zc0) .none kV30 dc30 pm30 an30 cd30 ct30,kE "_law_turn" "_law_turn" (za6 zcf) (za5 zcf) (za0 zcf) .none kV31 dc31 pm31 an31 cd31 ct31,kE "_law_lefter" "_law_lefter" (za6 zbk) (za5 zbk) (za0 zbk) .none kV32 dc32 pm32 an32 cd32 ct32,kE "_law_lower" "_law_lower" (za6 zby) (za5 zby) (za0 zby) .none kV33 dc33 pm33 an33 cd33 ct33,kE "_law_before" "_law_before" (za6 zbi) (za5 zbi) (za0 zbi) .none kV34 dc34 pm34 an34 cd34 ct34,kE "_law_stretch" "_law_stretch" (za6 zb0) (za5 zb0) (za0 zb0) .none kV35 dc35 pm35 an35 cd35 ct35,kE "_law_above" "_law_above" (za6 zbx) (za5 zbx) (za0 zbx) .none kV36 dc36 pm36 an36 cd36 ct36,kE "_law_on" "_law_on" (za6 zdl) (za5 zdl) (za0 zdl) .none kV37 dc37 pm37 an37 cd37 ct37,kE "_law_amid" "_law_amid" (za6 zcd) (za5 zcd) (za0 zcd) .none kV38 dc38 pm38 an38 cd38 ct38,kE "_law_rings" "_law_rings" (za6 zbn) (za5 zbn) (za0 zbn) .none kV39 dc39 pm39 an39 cd39 ct39,kE "_law_far" "_law_far" (za6 zct) (za5 zct) (za0 zct) .none kV40 dc40 pm40 an40 cd40 ct40,kE "_law_sides" "_law_sides" (za6 zbz) (za5 zbz) (za0 zbz) .none kV41 dc41 pm41 an41 cd41 ct41,kE "_law_beside" "_law_beside" (za6 zbf) (za5 zbf) (za0 zbf) .none kV42 dc42 pm42 an42 cd42 ct42,kE "_law_hands" "_law_hands" (za6 zbs) (za5 zbs) (za0 zbs) .none kV43 dc43 pm43 an43 cd43 ct43,kE "_law_by_two" "_law_by_two" (za6 zb3) (za5 zb3) (za0 zb3) .none kV44 dc44 pm44 an44 cd44 ct44,kE "_law_any" "_law_any" (za6 zd6) (za5 zd6) (za0 zd6) .none kV45 dc45 pm45 an45 cd45 ct45,kE "law" "law" (za6 zgx) (za5 zgx) (za0 zgx) .none kV46 dc46 pm46 an46 cd46 ct46].getD n (kE "is_whole" "is_whole" (za6 zbb) (za5 zbb) (za0 zbb) .none kV0 dc0 pm0 an0 cd0 ct0)):=
  ⟨⟨F0,b0,kg X G a0⟩,⟨F1,b1,kg X G a1⟩,⟨F2,b2,kg X G a2⟩,⟨F3,b3,kg X G a3⟩,⟨F4,b4,kg X G a4⟩,⟨F5,b5,kg X G a5⟩,⟨F6,b6,kg X G a6⟩,⟨F7,b7,kg X G a7⟩,⟨F8,b8,kg X G a8⟩,⟨F9,b9,kg X G a9⟩,⟨F10,b10,kg X G a10⟩,⟨F11,b11,kg X G a11⟩,FC11,⟨F12,b12,kg X G a12⟩,FC12,⟨F13,b13,kg X G a13⟩,⟨F14,b14,kg X G a14⟩,⟨F15,b15,kg X G a15⟩,⟨F16,b16,kg X G a16⟩,⟨F17,b17,kg X G a17⟩,⟨F18,b18,kg X G a18⟩,⟨F19,b19,kg X G a19⟩,⟨F20,b20,kg X G a20⟩,⟨F21,b21,kg X G a21⟩,⟨F22,b22,kg X G a22⟩,⟨F23,b23,kg X G a23⟩,⟨F24,b24,kg X G a24⟩,⟨F25,b25,kg X G a25⟩,⟨F26,b26,kg X G a26⟩,FC26,⟨F27,b27,kg X G a27⟩,⟨F28,b28,kg X G a28⟩,⟨F29,b29,kg X G a29⟩,⟨F30,b30,kg X G a30⟩,⟨F31,b31,kg X G a31⟩,⟨F32,b32,kg X G a32⟩,⟨F33,b33,kg X G a33⟩,⟨F34,b34,kg X G a34⟩,⟨F35,b35,kg X G a35⟩,⟨F36,b36,kg X G a36⟩,⟨F37,b37,kg X G a37⟩,⟨F38,b38,kg X G a38⟩,⟨F39,b39,kg X G a39⟩,⟨F40,b40,kg X G a40⟩,⟨F41,b41,kg X G a41⟩,⟨F42,b42,kg X G a42⟩,⟨F43,b43,kg X G a43⟩,⟨F44,b44,kg X G a44⟩,⟨F45,b45,kg X G a45⟩,⟨F46,b46,kg X G a46⟩,eT01,eT02,eT12,uL X G z0,uL X G z1,uL X G z2,uL X G z3,uL X G z4,uL X G z5,uL X G z6,uL X G z7,uL X G z8,uL X G z9,uL X G z10,uL X G z11,uL X G z12⟩
 refine⟨kE "law" "law" (za6 zgx) (za5 zgx) (za0 zgx) .none kV46 dc46 pm46 an46 cd46 ct46,[pT0,pT1,pT2],fun b hb=>?_,fun s v=>.of_eq rfl,fun base hK _ hB=>ok_law T hK hB⟩;simp only[kr,uV,or_false] at hb;rcases hb with rfl|rfl|rfl
 ·exact⟨nT0,_,cT0,by simp,tT0⟩
 ·exact⟨nT1,_,cT1,by simp,tT1⟩
 ·exact⟨nT2,_,cT2,by simp,tT2⟩
theorem walk{l:BQ}{q:ko}{loose:List Str}{XP:(Str->Option kB)->Heap->Prop}{YP:pN->Heap->Prop}{d:DefRec}{K:Params->kJ}(hn:l.most=some 63)(hdf:d.params.defaults=[])
  (hY:∀(w:pN)(h:Heap),YP w h->(K w.params).In h)(hD:∀y,y∈([pQ "in_order",pQ "by_points",pQ "near_pairs"]:List Str)->∃e,(PyProof.Rows.recsOf q).find? (fun e=>e.name==y)=some e)
  (F:∀(w:pN)(mg:Str->Option kB)(fa:Addr)(h:Heap),(K w.params).In h->h.Ns kR mg->mg d.name=some (.ref fa)->
   ∃(fd:UU)(ts:List Addr),(∀b,b∈ts->(K w.params).lookup b=none/\∃y c,y∈([pQ "in_order",pQ "by_points",pQ "near_pairs"]:List Str)/\vz (K w.params) y=some (c,b))/\(∀(s:kC)(u:kB),Ch s fd ⟨[u],[]⟩ [("_law_script",u)])/\∀base:Heap,(K w.params).In base->base.Ns kR mg->(∀b,b∈ts->base.BuiltinsAt mg b)->FnOk l.prog w (K w.params) mg base CX0 9 fa fd ["_law_script"] (ziz (K w.params) ts)):
  EI q loose XP YP l.row.toRowW d [] (fun f vs=>Dw f vs):=
 L2.walk_ofT (n:=63) (k:=9) (x:="_law_script") (CX:=fun _=>CX0) (sp:=fun w ts=>ziz (K w.params) ts) (ds:=[pQ "in_order",pQ "by_points",pQ "near_pairs"]) hn (by decide) hdf ⟨rfl,by decide,by decide⟩ hY hD F (fun _ _ a ns ts hl hO hS=>⟨a,ns,rfl,hS,hl,fun b hb _ _=>zo2 (hO.tabs b hb),fun _=>rfl⟩) fun _ _ _ _ _ z=>z
end Mine
namespace PySem.W.Fast
def tw15883017692104504168:Nat:=0
def tw9027229826250708438:Nat:=0
def tw15064259018206190145:Nat:=0
def tw10980072088275518087:Nat:=0
def tw14172745689942156845:Nat:=0
def tw1212487123456775670:Nat:=0
def tw15511977735511265984:Nat:=0
def tw10853504571461107579:Nat:=0
def tw4433485769822068076:Nat:=0
def tw3767702919930382692:Nat:=0
def tw16525351862071593898:Nat:=0
def tw8466348171301103878:Nat:=0
def tw17088479002697900093:Nat:=0
def tw12852727757465312851:Nat:=0
def tw5235915125459700756:Nat:=0
def tw13133409980067002660:Nat:=0
def tw16234249199457605775:Nat:=0
def tw3169667355900602985:Nat:=0
def tw9472617426950800853:Nat:=0
def tw9796728205863359046:Nat:=0
def tw7043816115994172652:Nat:=0
def tw6795505207730900933:Nat:=0
def tw655851843422770878:Nat:=0
def tw4995817908080862395:Nat:=0
def tw7774582273221493694:Nat:=0
def tw16416784791057661359:Nat:=0
def tw10412820734332876486:Nat:=0
def tw8942657301289788528:Nat:=0
def tw4415002986556184773:Nat:=0
def tw12420975084027076638:Nat:=0
def tw12408970938183382194:Nat:=0
def tw5572881386505957703:Nat:=0
def tw5680514023511610213:Nat:=0
def tw918377355405592693:Nat:=0
def tw14842256124730624266:Nat:=0
def tw16765527317498529647:Nat:=0
def tw4397488873202712176:Nat:=0
def tw8521060499479055402:Nat:=0
def tw17525948855099508004:Nat:=0
def tw17062206306764934305:Nat:=0
def tw6861723359645173203:Nat:=0
def tw16910718530779081669:Nat:=0
def tw15247236705934364275:Nat:=0
def tw7009952444306452849:Nat:=0
def tw5924466578501364810:Nat:=0
def tw7119285468473458363:Nat:=0
def tw11402698195238619056:Nat:=0
def tw4477834727110553901:Nat:=0
def tw6740787833602569068:Nat:=0
def tw11554346470693894735:Nat:=0
def tw4503896577442126608:Nat:=0
def tw1291120531112751574:Nat:=0
def tw12804833226781002988:Nat:=0
def tw11222809602456196892:Nat:=0
def tw10724826020701903478:Nat:=0
def tw4290177946700104971:Nat:=0
def tw8408396903620368356:Nat:=0
def tw13415719271156896163:Nat:=0
def tw12184214700047669989:Nat:=0
def tw27907502296609730:Nat:=0
def tw10833255422595186827:Nat:=0
def tw10354491169410566649:Nat:=0
def tw15868450454365888437:Nat:=0
def tw7872847363890373421:Nat:=0
def tw8509062607693102429:Nat:=0
def tw13680781644949494961:Nat:=0
def tw7945448558024646436:Nat:=0
def tw12969057106294022733:Nat:=0
def tw11240024081755187208:Nat:=0
def tw11360216718976914590:Nat:=0
def tw8342888484182945622:Nat:=0
def tw11306150667020824606:Nat:=0
def tw16550206047394928603:Nat:=0
def tw16017120826471921817:Nat:=0
def tw3229820820889872131:Nat:=0
def tw9442474696103960547:Nat:=0
def tw16069376144057569540:Nat:=0
def tw15987425587388726526:Nat:=0
def tw17190767694791607908:Nat:=0
def tw3385758187910146286:Nat:=0
def tw11800635696893652671:Nat:=0
def tw10447917422509225505:Nat:=0
def tw5388047655457030365:Nat:=0
def tw3397609375417220169:Nat:=0
def tw12629943060220069390:Nat:=0
def tw13056032528390527078:Nat:=0
def tw8067798358440394884:Nat:=0
def tw11015337989185701554:Nat:=0
def tw18414354986231120998:Nat:=0
def tw17029749516321708669:Nat:=0
def tw2233580192914311738:Nat:=0
def tw614451598501815766:Nat:=0
def tw12447454570292056081:Nat:=0
def tw11492549255155517928:Nat:=0
def tw16854869091436914114:Nat:=0
def tw14013396961915093216:Nat:=0
def tw15230683184377411599:Nat:=0
def tw6761139268259880049:Nat:=0
def tw3309592324828814974:Nat:=0
def tw6813762351397133685:Nat:=0
def tw12123928473315933868:Nat:=0
def tw7250016715393408907:Nat:=0
def tw5219727479739285424:Nat:=0
def tw6191748430039371044:Nat:=0
def tw4633596064087804000:Nat:=0
def tw15118175523226747823:Nat:=0
def tw17451822511401100640:Nat:=0
def tw12284911850728384581:Nat:=0
def tw17757585694079861058:Nat:=0
def tw8249688273998757702:Nat:=0
def tw17077042223077191482:Nat:=0
def tw1974911177441695752:Nat:=0
def tw3353298838216932213:Nat:=0
def tw2750039597166577700:Nat:=0
def tw14703014410143975055:Nat:=0
def tw14055221956389404871:Nat:=0
def tw4422153309458196859:Nat:=0
def tw2341603967282433612:Nat:=0
def tw18046745763228798924:Nat:=0
def tw7008980998006837149:Nat:=0
def tw7943418544655726959:Nat:=0
def tw5615086614324376521:Nat:=0
def tw15755138494865528142:Nat:=0
def tw12627007914151731678:Nat:=0
def tw9040141760193405389:Nat:=0
def tw5661084427093972694:Nat:=0
def tw699457988932778113:Nat:=0
def tw3668070949559825318:Nat:=0
def tw11346082154510025704:Nat:=0
def tw13412774128084913237:Nat:=0
def tw285299211751970835:Nat:=0
def tw8976818825262756729:Nat:=0
def tw15553604185373291497:Nat:=0
def tw5583945504199401460:Nat:=0
def tw465968000986074899:Nat:=0
def tw12200396279456934955:Nat:=0
def tw11851769119360620337:Nat:=0
def tw6038809339146017372:Nat:=0
def tw14151208534805110309:Nat:=0
def tw9366673887673199660:Nat:=0
def tw7550969209426994634:Nat:=0
def tw4783557290266381808:Nat:=0
def tw15140199634079777305:Nat:=0
def tw16319662708070628078:Nat:=0
def tw10673962720206121778:Nat:=0
def tw12332226653678530816:Nat:=0
def tw5963829411008542501:Nat:=0
def tw323928733618452441:Nat:=0
def tw10375309287130412411:Nat:=0
def tw8545348045056332767:Nat:=0
def tw12513855224651924365:Nat:=0
def tw16454439397271452669:Nat:=0
def tw16962797365225144435:Nat:=0
def tw18036674111044687390:Nat:=0
def tw11808329742457049553:Nat:=0
def tw18112753611111591620:Nat:=0
def tw8589880132202361347:Nat:=0
def tw8687751741216405280:Nat:=0
def tw3849887689726748432:Nat:=0
def tw17113630555702547492:Nat:=0
def tw18053091638183082050:Nat:=0
def tw6590683021303581994:Nat:=0
def tw5646739474151328599:Nat:=0
def tw4369110357604090829:Nat:=0
def tw13709179137342031612:Nat:=0
def tw1976176029614342042:Nat:=0
def tw14584285064203366950:Nat:=0
def tw16942277394976982922:Nat:=0
def tw14639900972663531799:Nat:=0
def tw13038232569513680502:Nat:=0
def tw3172934297472392688:Nat:=0
def tw1235655799038567860:Nat:=0
def tw6480413020304373148:Nat:=0
def tw16780865126292279797:Nat:=0
def tw17224471453281435068:Nat:=0
def tw14007672147856601575:Nat:=0
def tw18406635872784241290:Nat:=0
def tw16717880812174989954:Nat:=0
def tw4114797705465020375:Nat:=0
def tw17112416467439216553:Nat:=0
def tw7961837531901327956:Nat:=0
def tw10366248833902408301:Nat:=0
def tw8428250394515599858:Nat:=0
def tw8594880867947720703:Nat:=0
def tw703139021389543709:Nat:=0
def tw12631283334259863023:Nat:=0
def tw8654146942664673838:Nat:=0
def tw10514125198387179493:Nat:=0
def tw10342353837219698639:Nat:=0
def tw8362556043477627502:Nat:=0
def tw16904182134662920890:Nat:=0
def tw14012887328462742698:Nat:=0
def tw11091333602452442954:Nat:=0
def tw8328892159741460421:Nat:=0
def tw18409539704438545830:Nat:=0
def tw6310496793141711100:Nat:=0
def tw16635803477606133466:Nat:=0
def tw16404252218214286866:Nat:=0
def tw18030851376851850477:Nat:=0
def tw525594978376674099:Nat:=0
def tw3485089972964720887:Nat:=0
end PySem.W.Fast
open PySem PySem.W PyProof.Rows
set_option maxRecDepth 100000 in
set_option maxHeartbeats 0 in
theorem PySem.Challenge.cw_acre_k21_hands_holds : PySem.Challenge.rw_acre_k21_hands.Holds := by
 w_on;o_law;k_head;(case hw=>w_witness2)
 k_fill
 refine Mine.walk (l:=PySem.Challenge.rw_acre_k21_hands) rfl rfl (fun w h Y=>PySem.W.km_in_of Y) (fun y hy=>by simp only[kr,uV,or_false] at hy;rcases hy with rfl|rfl|rfl<;>exact⟨_,rfl⟩) ?F
 case F=>
  intro w mg fa h KX G hmg
  refine' Mine.all_mk KX G hmg ?a0 ?l0 ?c0 ?k0 ?a1 ?l1 ?c1 ?k1 ?a2 ?l2 ?c2 ?k2 ?a3 ?l3 ?c3 ?k3 ?a4 ?l4 ?c4 ?k4 ?a5 ?l5 ?c5 ?k5 ?a6 ?l6 ?c6 ?k6 ?a7 ?l7 ?c7 ?k7 ?a8 ?l8 ?c8 ?k8 ?a9 ?l9 ?c9 ?k9 ?a10 ?l10 ?c10 ?k10 ?a11 ?l11 ?c11 ?k11 ?lT0 ?vT0 ?hT0 ?tT0 ?nT0 ?a12 ?l12 ?c12 ?k12 ?lT1 ?vT1 ?hT1 ?tT1 ?nT1 ?a13 ?l13 ?c13 ?k13 ?a14 ?l14 ?c14 ?k14 ?a15 ?l15 ?c15 ?k15 ?a16 ?l16 ?c16 ?k16 ?a17 ?l17 ?c17 ?k17 ?a18 ?l18 ?c18 ?k18 ?a19 ?l19 ?c19 ?k19 ?a20 ?l20 ?c20 ?k20 ?a21 ?l21 ?c21 ?k21 ?a22 ?l22 ?c22 ?k22 ?a23 ?l23 ?c23 ?k23 ?a24 ?l24 ?c24 ?k24 ?a25 ?l25 ?c25 ?k25 ?a26 ?l26 ?c26 ?k26 ?lT2 ?vT2 ?hT2 ?tT2 ?nT2 ?a27 ?l27 ?c27 ?k27 ?a28 ?l28 ?c28 ?k28 ?a29 ?l29 ?c29 ?k29 ?a30 ?l30 ?c30 ?k30 ?a31 ?l31 ?c31 ?k31 ?a32 ?l32 ?c32 ?k32 ?a33 ?l33 ?c33 ?k33 ?a34 ?l34 ?c34 ?k34 ?a35 ?l35 ?c35 ?k35 ?a36 ?l36 ?c36 ?k36 ?a37 ?l37 ?c37 ?k37 ?a38 ?l38 ?c38 ?k38 ?a39 ?l39 ?c39 ?k39 ?a40 ?l40 ?c40 ?k40 ?a41 ?l41 ?c41 ?k41 ?a42 ?l42 ?c42 ?k42 ?a43 ?l43 ?c43 ?k43 ?a44 ?l44 ?c44 ?k44 ?a45 ?l45 ?c45 ?k45 ?a46 ?l46 ?c46 ?k46 ?eT01 ?eT02 ?eT12 ?z0 ?z1 ?z2 ?z3 ?z4 ?z5 ?z6 ?z7 ?z8 ?z9 ?z10 ?z11 ?z12
  (case a0=>k_is)
  (case l0=>k_is)
  (case c0=>k_is)
  (case k0=>k_is)
  (case a1=>k_is)
  (case l1=>k_is)
  (case c1=>k_is)
  (case k1=>k_is)
  (case a2=>k_is)
  (case l2=>k_is)
  (case c2=>k_is)
  (case k2=>k_is)
  (case a3=>k_is)
  (case l3=>k_is)
  (case c3=>k_is)
  (case k3=>k_is)
  (case a4=>k_is)
  (case l4=>k_is)
  (case c4=>k_is)
  (case k4=>k_is)
  (case a5=>k_is)
  (case l5=>k_is)
  (case c5=>k_is)
  (case k5=>k_is)
  (case a6=>k_is)
  (case l6=>k_is)
  (case c6=>k_is)
  (case k6=>k_is)
  (case a7=>k_is)
  (case l7=>k_is)
  (case c7=>k_is)
  (case k7=>k_is)
  (case a8=>k_is)
  (case l8=>k_is)
  (case c8=>k_is)
  (case k8=>k_is)
  (case a9=>k_is)
  (case l9=>k_is)
  (case c9=>k_is)
  (case k9=>k_is)
  (case a10=>k_is)
  (case l10=>k_is)
  (case c10=>k_is)
  (case k10=>k_is)
  (case a11=>k_is)
  (case l11=>k_is)
  (case c11=>k_is)
  (case k11=>k_is)
  (case lT0=>k_is)
  (case vT0=>rfl)
  (case hT0=>kernel_rfl)
  (case tT0=>kernel_rfl)
  (case nT0=>kernel_rfl)
  (case a12=>k_is)
  (case l12=>k_is)
  (case c12=>k_is)
  (case k12=>k_is)
  (case lT1=>k_is)
  (case vT1=>rfl)
  (case hT1=>kernel_rfl)
  (case tT1=>kernel_rfl)
  (case nT1=>kernel_rfl)
  (case a13=>k_is)
  (case l13=>k_is)
  (case c13=>k_is)
  (case k13=>k_is)
  (case a14=>k_is)
  (case l14=>k_is)
  (case c14=>k_is)
  (case k14=>k_is)
  (case a15=>k_is)
  (case l15=>k_is)
  (case c15=>k_is)
  (case k15=>k_is)
  (case a16=>k_is)
  (case l16=>k_is)
  (case c16=>k_is)
  (case k16=>k_is)
  (case a17=>k_is)
  (case l17=>k_is)
  (case c17=>k_is)
  (case k17=>k_is)
  (case a18=>k_is)
  (case l18=>k_is)
  (case c18=>k_is)
  (case k18=>k_is)
  (case a19=>k_is)
  (case l19=>k_is)
  (case c19=>k_is)
  (case k19=>k_is)
  (case a20=>k_is)
  (case l20=>k_is)
  (case c20=>k_is)
  (case k20=>k_is)
  (case a21=>k_is)
  (case l21=>k_is)
  (case c21=>k_is)
  (case k21=>k_is)
  (case a22=>k_is)
  (case l22=>k_is)
  (case c22=>k_is)
  (case k22=>k_is)
  (case a23=>k_is)
  (case l23=>k_is)
  (case c23=>k_is)
  (case k23=>k_is)
  (case a24=>k_is)
  (case l24=>k_is)
  (case c24=>k_is)
  (case k24=>k_is)
  (case a25=>k_is)
  (case l25=>k_is)
  (case c25=>k_is)
  (case k25=>k_is)
  (case a26=>k_is)
  (case l26=>k_is)
  (case c26=>k_is)
  (case k26=>k_is)
  (case lT2=>k_is)
  (case vT2=>rfl)
  (case hT2=>kernel_rfl)
  (case tT2=>kernel_rfl)
  (case nT2=>kernel_rfl)
  (case a27=>k_is)
  (case l27=>k_is)
  (case c27=>k_is)
  (case k27=>k_is)
  (case a28=>k_is)
  (case l28=>k_is)
  (case c28=>k_is)
  (case k28=>k_is)
  (case a29=>k_is)
  (case l29=>k_is)
  (case c29=>k_is)
  (case k29=>k_is)
  (case a30=>k_is)
  (case l30=>k_is)
  (case c30=>k_is)
  (case k30=>k_is)
  (case a31=>k_is)
  (case l31=>k_is)
  (case c31=>k_is)
  (case k31=>k_is)
  (case a32=>k_is)
  (case l32=>k_is)
  (case c32=>k_is)
  (case k32=>k_is)
  (case a33=>k_is)
  (case l33=>k_is)
  (case c33=>k_is)
  (case k33=>k_is)
  (case a34=>k_is)
  (case l34=>k_is)
  (case c34=>k_is)
  (case k34=>k_is)
  (case a35=>k_is)
  (case l35=>k_is)
  (case c35=>k_is)
  (case k35=>k_is)
  (case a36=>k_is)
  (case l36=>k_is)
  (case c36=>k_is)
  (case k36=>k_is)
  (case a37=>k_is)
  (case l37=>k_is)
  (case c37=>k_is)
  (case k37=>k_is)
  (case a38=>k_is)
  (case l38=>k_is)
  (case c38=>k_is)
  (case k38=>k_is)
  (case a39=>k_is)
  (case l39=>k_is)
  (case c39=>k_is)
  (case k39=>k_is)
  (case a40=>k_is)
  (case l40=>k_is)
  (case c40=>k_is)
  (case k40=>k_is)
  (case a41=>k_is)
  (case l41=>k_is)
  (case c41=>k_is)
  (case k41=>k_is)
  (case a42=>k_is)
  (case l42=>k_is)
  (case c42=>k_is)
  (case k42=>k_is)
  (case a43=>k_is)
  (case l43=>k_is)
  (case c43=>k_is)
  (case k43=>k_is)
  (case a44=>k_is)
  (case l44=>k_is)
  (case c44=>k_is)
  (case k44=>k_is)
  (case a45=>k_is)
  (case l45=>k_is)
  (case c45=>k_is)
  (case k45=>k_is)
  (case a46=>k_is)
  (case l46=>k_is)
  (case c46=>k_is)
  (case k46=>k_is)
  (case eT01=>decide)
  (case eT02=>decide)
  (case eT12=>decide)
  (case z0=>k_is)
  (case z1=>k_is)
  (case z2=>k_is)
  (case z3=>k_is)
  (case z4=>k_is)
  (case z5=>k_is)
  (case z6=>k_is)
  (case z7=>k_is)
  (case z8=>k_is)
  (case z9=>k_is)
  (case z10=>k_is)
  (case z11=>k_is)
  (case z12=>k_is)
