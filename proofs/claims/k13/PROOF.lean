import PyProof.Rows.All
import Wide.All
import OpenK.AllK
import Wide.FinOn
import Lean
import PyProof.EqAt
import PyProof.EqKinds
import PyProof.TupleCall
import PySem.Challenge.RW_acre_k13_stops_by_stretches
open PySem renaming wpAny_bind→kA,wpAny_pure→kM,isSubtype_type→pC,starEach→pX,mem_of_lookup→pe,wpAny_mono→uL,wpAny_seqItems→uk,wpAny_callSpecial?_slot→QQ,wpAny_holding→QY,wpAny_rule→Qa,wpAny_field→Qj,wpAny_typeNameOfWhole_keyiter→Ql,wpAny_newObj_type→Qn,wpAny_call_entry→Qu,Fin→Qv,wpAny_Call_Name_kw→Qw,wpAny_passesOwn→UE,call_isinstance→UG,wpAny_updateSeq→UH,wpAny_truthy_bool→UJ,wpAny_typeNameOf_keyiter→UQ,wpAny_letGo→UV,wpAny_setField_rec→UY,wpAny_loadPart'→Uf,wpAny_attempt→Uh,wpAny_newList→Uy,codeAny_builtin→vE,codeAny_mono→vP,wpAny_tryCatch→vQ,wpAny_isOneOf_keyiter→va,wpAny_pyIter_zip→vc,wpAny_standAt→vf,plainId_quiet→vi,wpAny_newFunctionEnv→vk,wpAny_execs_nil→vp,wpAny_pyIter_tuple→jK,wpAny_setField→jL,tupleKind_room_in1→jO,wpAny_fieldsOf→jP,wpAny_letOwnedTupleGo_zip→jY,sizeLine_eq→je,wpAny_dictEntries→jf,wpAny_isInstance→hV,wpAny_dictEpoch→gX,wpAny_isTrue_Compare1→gd,intBits_le_iff→gt,wpAny_updateSeq_pair→gu,wpAny_newTuple→gv,wpAny_onRaise→AL,Spec→AN,call_meets→AQ,wpAny_assign_Name→AY,wpAny_pyIter_list→Aa,BindsTo→Ac,seqIndex_neg→Ae,slot_list_getitem→Af,wpAny_pyIter_enum→Ao,Paired→Av,wpAny_execs_cons→Aw,noFill_tuple_add→Ax,wpAny_Dict_empty→BB,seqIndex_of→BJ,wpAny_of_eq→BK,wpAny_specialOf→BV,wpAny_Name→Bc,wpAny_call→Bf,call→Bi,ZipApart→Bj,ItemsOf→CH
open List renaming getD_eq_getElem?_getD→kB,getElem?_eq_some_iff→kG,mem_append_right→kJ,length_append→kK,getElem?_eq_getElem→kL,length_map→kN,length_take→kP,size_toArray→kZ,getElem?_map→ke,mem_append→kf,mem_of_getElem?→kg,mem_cons→kh,length_drop→ki,mem_singleton→kr,mem_cons_self→ku,take_of_length_le→kx,mem_cons_of_mem→pB,map_cons→pE,append_assoc→pG,not_mem_nil→pP,length_cons→pQ,mem_iff_getElem?→pZ,length_filter_le→pb,length_range→pd,map_append→pg,mem_append_left→pi,mem_iff_getElem→po,lookup_cons→pz,take_add_one→uA,mem_map→uD,mem_filter→uE,take_append_drop→uJ,getElem_drop→uN,take_zero→uO,range→uP,getElem?_append_right→uV,Nodup→uW,getElem_take→uX,getElem?_append_left→uY,toArray→ue,take_length→uh,mem_reverse→uw,mem_range→QF,append_nil→QL,mem_of_mem_drop→QU,getElem?_set_self→QZ,pairwise_iff_getElem→Qc,getElem?_eq_none→Qd,getElem?_drop→Qe,map_nil→Qg,getElem?_set_ne→Qi,drop_drop→Qk,mem_of_mem_take→Qm,pairwise_singleton→Qo,length_replicate→UB,perm_append_comm→UC,drop_eq_getElem_cons→UD,length_set→UF,map_map→UN,drop_zero→UT,pairwise_cons→Ub,nodup_cons→Ud,find?_cons→Ue,nil_append→Ug,replicate→Uk,cons_append→Up,getElem_mem→Uq,mem_flatMap→Us,forIn_cons→vC,length_nil→vD,getElem?_take→vH,length→vK,getElem?_cons_zero→vL,getElem?_cons_succ→vM,ext_getElem?→vR,reverse_perm→vS,drop_take→vT,take_succ_eq_append_getElem→vV,drop_eq_nil_of_le→vW,filter_cons→ve,any_cons→vh,eq_nil_of_length_eq_zero→vm,of_mem_zip→vq,filterMap_cons→vz,getElem?_range→jA,map_congr_left→jB,forIn_nil→jM,take_take→jQ,set_cons_zero→jV,set_cons_succ→jW,pairwise_map→jj,getElem?_replicate→jy,zipIdx_cons→hU,length_pos_of_mem→gU,drop_eq_nil_iff→AA,reverse_reverse→AC,reverse_append→AH,forIn_toArray→AR,zip_cons_cons→AU,filter_append→AX,take_sublist→Ad,push_toArray→Ai,drop_sublist→Ap,take_append→BE,zipIdx_nil→BP,range_succ→BX,nodup_nil→Bo
open PySem.W renaming Frag→kC,fnOf→kH,nsIn→kU,codeIn→kW,keepIn→kX,mg_of→kn,mg_none_of→uB,tabIn→vg,methodObj→jc,cellsFrom_some→gE,OpenLaw→gW,kla_callFunE→gx,kla_codeExpr→gy,codeHd_of_K→AJ,kat_cons→BA,codeHdIn→BH,kat_yes→BU,kat_no→Bn,WalkO→Bu
open PyProof.Rows renaming wpS_pure→kD,wpS_bind→kE,wpS_forRange→pW,wpS_modify→uH,callWith_type1→uS,wpS_mono→uz,get?_update_seq→Qp,mirror_perm→UM,listUpdate_at→UP,getElem?_mirror_all→Ux,wpS_get→vF,assignInOrder_cons→jJ,wpS_lift→jR,AllBare→jd,subscriptTail_builtinR→gG,listItems_at→gJ,call_function_entry_kw→gN,getElem?_bubble→gY,seqEpoch_at→gz,wpAny_call_entry_kw→AG,envOfC→AI,assignInOrder_nil→AZ,bubble_perm→BL,callWith_kw→BM,mirror_size→BN,entry_list_sort→BW,boot_range→Be,Subscript_→Bg,ksk_tail→Bk,ksk_rest→Bl,ksk_tree→Bm,ksk_end→CG
open PySem.Heap renaming get?_push_of_some→kF,lt_size→kT,get?_push_size→kY,get?_update_ne→pO,get?_update_other→uC,get?_update_self→uj,size_push→US,SameBut→jD,size_update→BD,IsTuple→CF,ExtBut→CP
open Nat renaming le_refl→kI,lt_of_lt_of_le→ko,le_trans→kz,ne_of_lt→pD,zero_le→pI,le_of_lt→uI,lt_of_le_of_lt→QM,lt_irrefl→QX,le_of_eq→Qq,le_succ→Qt,min_eq_left→UI,pow_le_pow_right→UL,le_add_right→UR,lt_or_eq_of_le→Ua,succ_le_succ→Ur,ne_of_gt→vO,gcd→vX,gcd_dvd_right→vY,le_succ_of_le→jh,gcd_assoc→jo,reduceAdd→jp,reduceSub→jq,gcd_dvd_left→gB,add_comm→gI,pow_succ→gQ,zero_add→gS,lt_trans→Ak,lt_succ_of_lt→Al,sub_zero→Am,lt_trichotomy→An,gcd_comm→Aq,gcd_mul_right→Ar,le_max_right→BF,mul_lt_mul''→BG,le_antisymm→BR,min_le_left→BT,zero_lt_one→BY,not_lt_zero→BZ,add_assoc→Bx,dvd_trans→Bz,le_of_dvd→CA,add_zero→CI,pow_add→CV,one_mul→CY
open Array renaming length_toList→kO,getD_eq_getD_getElem?→kR,toList_append→kj,getElem?_eq_getElem→pH,getElem_toList→pS,getElem?_toList→pY,toList_reverse→ul,getElem_mem→QD,getElem?_eq_none→Qs,getD→UZ,size_extract→vI,toList_inj→vd,perm_iff_toList_perm→jN,toList_push→jg,getElem_extract→gn,mem_toList_iff→AB,toList_modify→AF,toList_zip→BC,size_push→BS,toList→CD
open Or renaming inl→kc,inr→Ul
open PySem.Obj renaming mapSeq→kq,data_mapFields→vG,isFreed_of_fields→gf,cls_mapFields→Ag,mapFields→Bv
open LawfulBEq renaming eq_of_beq→pA
open Bool renaming false_ne_true→pF,false_eq_true→pR,eq_iff_iff→Uc,eq_false_iff→Ui,not_eq_true'→vU,not_false→jX,not_true→jt,not_eq_true→gC,true_and→AM,not_eq_false'→AV,false_and→Bd,and_false→Bh,and_true→Bt,or_false→Bw
open Option.some renaming inj→pJ,injEq→QB
open PySem.Str renaming ofString→pK
open Int renaming mul_eq_zero→pL,fmod_eq_emod_of_nonneg→uG,le_of_lt→uU,mul_neg_of_neg_of_pos→uc,mul_comm→uf,neg_mul→ur,emod_lt_of_pos→QP,emod_nonneg→Qb,mul_le_mul_of_nonneg_right→Qf,natAbs_mul→Qy,mul_nonneg→Qz,toNat_natCast→UK,mul_pos→UW,fdiv_eq_ediv_of_nonneg→Uj,gcd_add_mul_right_left→Uo,zero_add→Ut,mul_nonpos_of_nonpos_of_nonneg→vJ,toNat→vN,lt_or_le→vZ,mul_le_mul_of_nonneg_left→vn,mul_ediv_mul_of_pos_left→vx,toNat_of_nonneg→jC,gcd_add_mul_right_right→jG,mul_lt_mul_of_pos_right→jH,ofNat_dvd_left→jS,eq_of_mul_eq_mul_right→jT,le_of_mul_le_mul_right→jU,mul_pos_of_neg_of_neg→jZ,fmod_nonneg_of_pos→gO,zero_mul→gP,fmod_add_mul_fdiv→gq,le_ediv_of_mul_le→gr,mul_neg→AD,gcd_zero_right→AW,mul_zero→As,add_comm→At,ediv_mul_le→Bb,fmod→Bp,natAbs_dvd→Bq,gcd→CJ,gcd_comm→CK,le_trans→CL,le_refl→CU,one_mul→CZ
open PySem.PassesOwn renaming never→pM
open PySem.PyData renaming canLayAll0→pN,eqvAll→pU,eqv→pj,depthAll→uF,depth→ud,canLay0→ug
open PySem.Value renaming none→pT,ref→ut,type→UO,int→Au,isStrOf→Br,str→CB,isInt→CM,bool→Ca
open PySem.F renaming plainAttrs_list→pV,slot_list_append→uQ,type_list_append→uR,slot_dict_keyiterator_next→QN,slot_tuple_iterator_next→Qx,plain_max_loop→UU,args_dict_keyiterator_next_1→Uw,entry_dict_keyiterator_next→Uz,slot_list_extend→vA,args_tuple_iterator_next_1→vt,slot_zip_next→vv,entry_tuple_iterator_next→jE,args_tuple_add_2→jm,type_list_extend→jr,entry_tuple_add→jz,entry_max_loop→hX,slot_tuple_add→gF,slot_dict_iter→gL,args_zip_next_1→Ah,entry_zip_next→Az
open PySem.NameKind renaming free→uK,cell→AK
open Option renaming map_some→uM,map_eq_some_iff→Qr,isSome_iff_exists→jl,isSome_map→Aj,getD_none→Ay,none→CO
open List.Perm renaming append_left→uT,trans→gZ
open PySem.Builtin.SmallTypes renaming nextOf→uZ,ownedTupleIsFree→QJ,ownedTupleHandOut→Uv
open False renaming elim→ui
open Prod renaming fst→uq
open PySem.SeqAt renaming shaped→uv
open PySem.Builtin.List renaming listExtendWith→QV,listTooLong→Qh,listSameRef→jn,listItems→gM
open Ne renaming symm→UA
open Sum renaming inl→UX,inr→AE
open PySem.Around renaming under_plainId→Um,frames_deeper→vj
open PySem.Heap.SameBut renaming update→Uu
open List.Pairwise renaming imp_of_mem→vB,sublist→gk
open PySem.Builtin.Dict_items renaming ownsTuple→vw
open PySem.Builtin.Builtins renaming bindParams→jF
open PySem.Calls renaming Name_function_global→jI,callWith_builtin→gH,spliced_cons→AO,spliced_nil→Ab
open PySem.Paired renaming length→jk,snoc→CT
open PySem.Data renaming cell→jw,fields→BI,seq→CS
open PySem.Builtin.Range renaming rangeSize→jx
open List.cons renaming injEq→gc
open PySem.Builtin.Dict renaming showsAll→gh
open True renaming intro→AS
open PyProof.Rows.SortSt renaming mk'→AT
open ForInStep renaming yield→BO
open StateT renaming run_pure→BQ
open Array.Perm renaming refl→Ba
open Prod.mk renaming injEq→By
open LawfulMonad renaming pure_bind→CC
open Sum.inl renaming inj→CN
open PySem.Shared renaming heap→CQ
open PUnit renaming unit→Cb
open PyProof.Rows.IsTup renaming new→Cc
local macro_rules
  | `(tactic| omega) => `(tactic| lia)
set_option Elab.async false
set_option linter.all false
set_option maxRecDepth 100000
set_option maxHeartbeats 4000000
namespace L2
open PySem PySem.Spec PyProof.Rows
abbrev Key:=Sum Int Str
def keyIs:Key->Value->Bool
 |.inl k,v=>CM k v
 |.inr x,v=>Br x v
def keyH(w:World):Key->Int
 |.inl k=>hashInt k
 |.inr x=>hashStr w x
theorem zbk:∀{k:Key}{v:Value},keyIs k v=true->(∃i t,k=UX i/\v=Au i t)∨(∃x t,k=AE x/\v=CB x t)
 |.inl i,v,h=>by
  obtain⟨t,e⟩:=Value.isInt_shape (k:=i) (v:=v) h;exact .inl ⟨i,t,rfl,e⟩
 |.inr x,v,h=>by
  obtain⟨t,e⟩:=Value.isStrOf_shape (x:=x) (v:=v) h;exact .inr ⟨x,t,rfl,e⟩
theorem keyIs_int(i:Int)(t:Tok):keyIs (.inl i) (.int i t)=true:=by simp[keyIs,CM]
theorem keyIs_str(x:Str)(t:Tok):keyIs (.inr x) (.str x t)=true:=by simp[keyIs,Br]
theorem key_ll(a b:Int):decide ((UX a:Key)=UX b)=(a==b):=by
 by_cases e:a=b
 ·subst e;simp
 ·have h:¬(UX a:Key)=UX b:=fun q=>e (CN q);rw[decide_eq_false h];exact(beq_eq_false_iff_ne.mpr e).symm
theorem key_rr(a b:Str):decide ((AE a:Key)=AE b)=decide (a=b):=by
 by_cases e:a=b
 ·subst e;simp
 ·have h:¬(AE a:Key)=AE b:=fun q=>e (Sum.inr.inj q);rw[decide_eq_false h,decide_eq_false e]
theorem key_lr(a:Int)(b:Str):decide ((UX a:Key)=AE b)=false:=decide_eq_false (fun q=>nomatch q)
theorem key_rl(a:Str)(b:Int):decide ((AE a:Key)=UX b)=false:=decide_eq_false (fun q=>nomatch q)
def mixKind(prog:Program)(w:World):PySem.KeyKind prog w Key where
 is:=keyIs
 hash:=keyH w
 inj:=fun v a b ha hb=>by
  rcases zbk ha with⟨i,t,rfl,rfl⟩|⟨x,t,rfl,rfl⟩
  ·rcases zbk hb with⟨j,u,rfl,e⟩|⟨y,u,rfl,e⟩
   ·injection e with e1 _;rw[e1]
   ·exact nomatch e
  ·rcases zbk hb with⟨j,u,rfl,e⟩|⟨y,u,rfl,e⟩
   ·exact nomatch e
   ·injection e with e1 _;rw[e1]
 byValue:=fun k v h=>by
  rcases zbk h with⟨i,t,rfl,rfl⟩|⟨x,t,rfl,rfl⟩<;>rfl
 pyHash:=fun hv h=>by
  rcases zbk hv with⟨i,t,rfl,rfl⟩|⟨x,t,rfl,rfl⟩
  ·exact wpAny_pyHash_int h
  ·exact wpAny_pyHash_str h
 eqBool:=fun hu hv h=>by
  rcases zbk hu with⟨i,t,rfl,rfl⟩|⟨x,t,rfl,rfl⟩
  ·rcases zbk hv with⟨j,u,rfl,rfl⟩|⟨y,u,rfl,rfl⟩
   ·rw[key_ll] at h;exact wpAny_eqBool_int h
   ·rw[key_lr] at h;exact SeqAt.EqAt.int_str i t y u _ _ _ _ h
  ·rcases zbk hv with⟨j,u,rfl,rfl⟩|⟨y,u,rfl,rfl⟩
   ·rw[key_rl] at h;exact SeqAt.EqAt.str_int x t j u _ _ _ _ h
   ·rw[key_rr] at h;exact wpAny_eqBool_str h
 «strs»:=fun k x t v h=>by
  rcases zbk h with⟨i,u,rfl,e⟩|⟨y,u,rfl,e⟩
  ·exact nomatch e
  ·injection e with e1 _
   subst e1
   cases v<;>rfl
theorem mixKind_int(prog:Program)(w:World)(i:Int)(t:Tok):(mixKind prog w).is (.inl i) (.int i t)=true:=keyIs_int i t
theorem mixKind_str(prog:Program)(w:World)(x:Str)(t:Tok):(mixKind prog w).is (.inr x) (.str x t)=true:=keyIs_str x t
inductive V where
 |non|bl (b:Bool)|int (i:Int)|str (x:Str)|byt (b:Array UInt8)|flt (b:UInt64)|ref (a:Addr)|ty (n:String)
 deriving DecidableEq
def RelV:V->Value->Prop
 |.non,u=>u=pT
 |.bl b,u=>u=Ca b
 |.int i,u=>∃t,u=Au i t
 |.str x,u=>∃t,u=CB x t
 |.byt b,u=>∃t,u=Value.bytes b t
 |.flt b,u=>∃t,u=Value.float b t
 |.ref a,u=>u=ut a
 |.ty n,u=>u=UO n
abbrev Vals:List V->List Value->Prop:=Av RelV
theorem Vals.length{xs:List V}{us:List Value}(r:Vals xs us):xs.length=us.length:=jk r
theorem Vals.get:∀{xs:List V}{us:List Value}{i:Nat}{x:V},Vals xs us->xs[i]?=some x->∃u,us[i]?=some u/\RelV x u
 |_,_,_,_,.nil,e=>by simp at e
 |_,_,0,_,.cons r _,e=>by simp at e;subst e;exact⟨_,rfl,r⟩
 |_,_,i+1,x,.cons _ t,e=>by
  obtain⟨u,h1,h2⟩:=Vals.get (i:=i) (x:=x) t (by simpa using e)
  exact⟨u,by simpa using h1,h2⟩
theorem Vals.set{x:V}{u:Value}(r:RelV x u):∀{xs:List V}{us:List Value}(i:Nat),Vals xs us->Vals (xs.set i x) (us.set i u)
 |_,_,_,.nil=>.nil
 |_,_,0,.cons _ t=>.cons r t
 |_,_,i+1,.cons q t=>.cons q (Vals.set r i t)
theorem Vals.append:∀{xs ys:List V}{us ws:List Value},Vals xs us->Vals ys ws->Vals (xs++ys) (us++ws)
 |_,_,_,_,.nil,s=>s
 |_,_,_,_,.cons r t,s=>.cons r (Vals.append t s)
theorem Vals.take:∀{xs:List V}{us:List Value}(n:Nat),Vals xs us->Vals (xs.take n) (us.take n)
 |_,_,0,_=>.nil
 |_,_,_+1,.nil=>.nil
 |_,_,n+1,.cons r t=>.cons r (Vals.take n t)
theorem Vals.drop:∀{xs:List V}{us:List Value}(n:Nat),Vals xs us->Vals (xs.drop n) (us.drop n)
 |_,_,0,r=>r
 |_,_,_+1,.nil=>.nil
 |_,_,n+1,.cons _ t=>Vals.drop n t
def RelO:Option V->Option Value->Prop
 |some v,some u=>RelV v u
 |none,none=>True
 |_,_=>False
def KV{κ:Type}:List (κ×V)->List (κ×Value)->Prop:=Av fun(p:κ×V)(q:κ×Value)=>p.1=q.1/\RelV p.2 q.2
def kV:Key->V
 |.inl i=>.int i
 |.inr x=>.str x
inductive HO where
 /--a list-/
 |lst (xs:List V)
 /--a tuple (never changes)-/
 |tup (xs:List V)
 /--a dict whose keys are ints and texts;one whose keys are tuples of ints and texts (the empty one is both)-/
 |dK (kvs:List (Key×V))|dT (kvs:List (List Key×V))
 /--a set of ints:its members,its size-/
 |set (S:Int->Bool) (n:Nat)
 /--an instance of the class at C,its dict at dx,its attributes-/
 |ins (C dx:Addr) (fs:List (Str×V))
 /--the dict of the instance at x-/
 |own (x:Addr)
 /--the dict of an exception-/
 |xd (fs:List (Str×V))
 /--a bound method,f of x-/
 |met (f x:Addr)
 /--a range object lo,lo+1,.. below hi-/
 |rng (lo hi:Int)
 /--a thing that is known to the object (the script;a dict while a loop walks it):read,never written while it is so-/
 |frz (o:Obj) (u:HO)
 /--a code object's table-/
 |tbl (ps:Array Value)
 /--any other thing,by what is true of its one object (a def of one's own:SetO a S n:=HO.ext fun h=>..)-/
 |ext (φ:Heap->Prop)
abbrev Hp:=Addr->Option HO
def upd(H:Hp)(a:Addr)(o:HO):Hp:=fun b=>if b=a then some o else H b
theorem upd_same{H:Hp}{a:Addr}{o:HO}:upd H a o a=some o:=by unfold upd;rw[if_pos rfl]
theorem za6{H:Hp}{a b:Addr}{o:HO}(h:b≠a):upd H a o b=H b:=by unfold upd;rw[if_neg h]
theorem upd_upd{H:Hp}{a:Addr}{o u:HO}:upd (upd H a o) a u=upd H a u:=by
 funext b;unfold upd;split<;>rfl
theorem ne_of{H:Hp}{a b:Addr}{o u:HO}(h:H a=some o)(h':H b=some u)(d:o≠u):a≠b:=by
 intro e;subst e;rw[h] at h';exact d (pJ h')
theorem za8{H:Hp}{a b:Addr}{o:HO}(h:H a=some o)(h':H b=none):a≠b:=by
 intro e;subst e;rw[h] at h';cases h'
section
variable(P:Program)(w:World)
def ObjOk(H:Hp)(h:Heap)(a:Addr):HO->Prop
 |.lst xs=>xs.length<=sizeLine/\∃(its:List Value)(n:Nat),Vals xs its/\h.get? a=some {cls:=.type "list",data:=.seq its.toArray n}
 |.tup xs=>xs.length<=sizeLine/\∃its:List Value,Vals xs its/\IsTup h a its.toArray
 |.dK kvs=>kvs.length<=sizeLine/\(a==sysModules)=false/\∃vs,KV kvs vs/\h.DictOf (mixKind P w) a vs
 |.dT kvs=>kvs.length<=sizeLine/\(a==sysModules)=false/\∃xs:List (List Key×Addr×Value),
   Av (fun(p:List Key×V)(q:List Key×Addr×Value)=>p.1=q.1/\H q.2.1=some (.tup (p.1.map kV))/\RelV p.2 q.2.2) kvs xs/\
   ∃o es ep,h.get? a=some o/\o.ExactDict/\o.data=.dict es ep/\es.toList=xs.map (entryOfKey (tupleKind (mixKind P w)))/\(xs.map (·.1)).Nodup
 |.set S n=>h.SetOf (intKind P w) a S n
 |.ins C dx fs=>H dx=some (.own a)/\fs.length<=1000/\dx≠a/\h.get? a=some (PySem.W.instObj C dx)/\
   ∃mA,h.Ns1 dx mA/\(∀f,RelO (fs.lookup f) (mA f))/\PySem.Within mA (fs.map (·.1))
 |.own _=>∃o,h.get? a=some o
 |.xd fs=>∃mA,h.Ns1 a mA/\∀f,RelO (fs.lookup f) (mA f)
 |.rng lo hi=>∃t u v,h.get? a=some {cls:=.type "range",data:=.fields #[.int lo t,.int hi u,.int 1 v]}
 |.frz o u=>h.get? a=some o/\ObjOk H h a u
 |.tbl ps=>h.get? a=some {cls:=.none,data:=.fields ps}
 |.met f x=>h.get? a=some (jc (.ref f) (.ref x))
 |.ext φ=>φ h/\(∃o,h.get? a=some o)/\∀h1 h2:Heap,φ h1->(∀o,h1.get? a=some o->h2.get? a=some o)->φ h2
def HOk(H:Hp)(h:Heap):Prop:=∀a o,H a=some o->ObjOk P w H h a o
end
section
variable{P:Program}{w:World}{H H':Hp}{h h':Heap}{a:Addr}{o:HO}
theorem ObjOk.lt(x:ObjOk P w H h a o):a<h.objs.size:=by
 cases o with
 |lst xs=>obtain⟨_,_,_,_,e⟩:=x;exact kT e
 |tup xs=>obtain⟨_,_,_,p⟩:=x;exact p.lt
 |dK kvs=>obtain⟨_,_,_,_,o,_,_,e,_⟩:=x;exact kT e
 |dT kvs=>obtain⟨_,_,_,_,o,_,_,e,_⟩:=x;exact kT e
 |set S n=>obtain⟨o,_,_,_,e,_⟩:=x;exact kT e
 |ins C dx fs=>obtain⟨_,_,_,e,_⟩:=x;exact kT e
 |own y=>obtain⟨_,e⟩:=x;exact kT e
 |xd fs=>obtain⟨_,⟨_,_,_,e,_⟩,_⟩:=x;exact kT e
 |rng lo hi=>obtain⟨_,_,_,e⟩:=x;exact kT e
 |frz ob u=>obtain⟨e,_⟩:=x;exact kT e
 |tbl ps=>exact kT (show h.get? a=some _ from x)
 |met f y=>exact kT (show h.get? a=some _ from x)
 |ext φ=>obtain⟨_,⟨_,e⟩,_⟩:=x;exact kT e
theorem Paired.mapP{α β:Type}{F G:α->β->Prop}:∀{l₁:List α}{l₂:List β},Av F l₁ l₂->(∀a b,F a b->G a b)->Av G l₁ l₂
 |_,_,.nil,_=>.nil
 |_,_,.cons r t,f=>.cons (f _ _ r) (Paired.mapP t f)
theorem ObjOk.stay(x:ObjOk P w H h a o)(k:∀b u,(b=a∨H b=some (.own a))->h.get? b=some u->h'.get? b=some u)
  (ho:∀b,H b=some (.own a)->H' b=some (.own a))(ht:∀b xs,H b=some (.tup xs)->H' b=some (.tup xs)):ObjOk P w H' h' a o:=by
 induction o with
 |lst xs=>obtain⟨z,its,n,r,e⟩:=x;exact⟨z,its,n,r,k _ _ (.inl rfl) e⟩
 |tup xs=>obtain⟨z,its,r,ob,e,c⟩:=x;exact⟨z,its,r,ob,k _ _ (.inl rfl) e,c⟩
 |dK kvs=>obtain⟨z,y,vs,r,ob,es,ep,e,c⟩:=x;exact⟨z,y,vs,r,ob,es,ep,k _ _ (.inl rfl) e,c⟩
 |dT kvs=>
  obtain⟨z,y,xs,r,ob,es,ep,e,c⟩:=x;exact⟨z,y,xs,Paired.mapP r fun p q z=>⟨z.1,ht _ _ z.2.1,z.2.2⟩,ob,es,ep,k _ _ (.inl rfl) e,c⟩
 |set S n=>obtain⟨ob,es,ep,t,e,c⟩:=x;exact⟨ob,es,ep,t,k _ _ (.inl rfl) e,c⟩
 |ins C dx fs=>
  obtain⟨d,z,ne,e,mA,⟨od,es,ep,e2,c⟩,r⟩:=x;exact⟨ho _ d,z,ne,k _ _ (.inl rfl) e,mA,⟨od,es,ep,k _ _ (.inr d) e2,c⟩,r⟩
 |own y=>obtain⟨ob,e⟩:=x;exact⟨ob,k _ _ (.inl rfl) e⟩
 |xd fs=>obtain⟨mA,⟨od,es,ep,e,c⟩,r⟩:=x;exact⟨mA,⟨od,es,ep,k _ _ (.inl rfl) e,c⟩,r⟩
 |rng lo hi=>obtain⟨t,u,v,e⟩:=x;exact⟨t,u,v,k _ _ (.inl rfl) e⟩
 |frz ob u ih=>obtain⟨e,q⟩:=x;exact⟨k _ _ (.inl rfl) e,ih q⟩
 |tbl ps=>
  have e:h.get? a=some {cls:=.none,data:=.fields ps}:=x;show h'.get? a=some {cls:=.none,data:=.fields ps};exact k a _ (.inl rfl) e
 |met f y=>
  have e:h.get? a=some (jc (.ref f) (.ref y)):=x;show h'.get? a=some (jc (.ref f) (.ref y));exact k a _ (.inl rfl) e
 |ext φ=>obtain⟨p,⟨o,e⟩,st⟩:=x;exact⟨st _ _ p fun o q=>k _ _ (.inl rfl) q,⟨o,k _ _ (.inl rfl) e⟩,st⟩
theorem HOk.lt(x:HOk P w H h)(e:H a=some o):a<h.objs.size:=(x a o e).lt
theorem HOk.fresh(x:HOk P w H h)(e:h.objs.size<=a):H a=none:=by
 cases q:H a with
 |none=>rfl
 |some u=>exact absurd (ko (x.lt q) e) (QX _)
theorem HOk.kept(x:HOk P w H h)(k:∀b u,h.get? b=some u->h'.get? b=some u):HOk P w H h':=fun a o e=>
 (x a o e).stay (fun b u _ q=>k b u q) (fun _ q=>q) fun _ _ q=>q
theorem HOk.laid(x:HOk P w H h)(k:∀b u,h.get? b=some u->h'.get? b=some u)(hp:h.objs.size<=a)(new:ObjOk P w (upd H a o) h' a o):HOk P w (upd H a o) h':=fun b u e=>by
 have hn:=x.fresh hp
 by_cases hb:b=a
 ·subst hb;rw[upd_same] at e;cases e;exact new
 ·rw[za6 hb] at e;exact(x b u e).stay (fun c v _ q=>k c v q) (fun c q=>by rw[za6 (za8 q hn)];exact q) fun c xs q=>by rw[za6 (za8 q hn)];exact q
end
def Rd(H:Hp)(a:Addr)(u:HO):Prop:=H a=some u∨∃o,H a=some (.frz o u)
theorem Rd.ok{P:Program}{w:World}{H:Hp}{h:Heap}{a:Addr}{u:HO}(r:Rd H a u)(x:HOk P w H h):ObjOk P w H h a u:=by
 rcases r with r|⟨o,r⟩
 ·exact x a u r
 ·obtain⟨_,q⟩:=x a _ r;exact q
def Mut:Option HO->Prop
 |some (.lst _)=>True
 |some (.dK _)=>True
 |some (.dT _)=>True
 |some (.set _ _)=>True
 |some (.ins _ _ _)=>True
 |some (.ext _)=>True
 |_=>False
section
variable{P:Program}{w:World}{H:Hp}{h h':Heap}{x e:Addr}{o':HO}
theorem HOk.write(ok:HOk P w H h)(mu:Mut (H x))(he:e=x∨H e=some (.own x))(k:∀b u,b≠e->h.get? b=some u->h'.get? b=some u)(heo:∃u,h'.get? e=some u)
  (new:ObjOk P w (upd H x o') h' x o'):HOk P w (upd H x o') h':=fun b u q=>by
 have nown:∀c y,H c=some (.own y)->c≠x:=fun c y r z=>by subst z;rw[r] at mu;exact mu
 have ntup:∀c xs,H c=some (.tup xs)->c≠x:=fun c xs r z=>by subst z;rw[r] at mu;exact mu
 by_cases hb:b=x
 ·subst hb;rw[upd_same] at q;cases q;exact new
 ·rw[za6 hb] at q
  by_cases hbe:b=e
  ·have q':H b=some (.own x):=by
    rcases he with z|z
    ·exact absurd (hbe.trans z) hb
    ·rw[hbe];exact z
   rw[q] at q';cases q';obtain⟨v,hv⟩:=heo;exact⟨v,by rw[hbe];exact hv⟩
  ·refine(ok b u q).stay (fun c v hc r=>k c v ?_ r) (fun c r=>by rw[za6 (nown c b r)];exact r) fun c xs r=>by rw[za6 (ntup c xs r)];exact r
   rcases hc with rfl|hc
   ·exact hbe
   ·rintro rfl;rcases he with z|z
    ·exact nown c b hc z
    ·rw[hc] at z;cases z;exact hb rfl
end
structure Un(fs ex:List Addr)(H H':Hp)(h h':Heap):Prop where
 keep:∀b o,h.get? b=some o->H b=none->b∉fs->b∉ex->h'.get? b=some o
 slot:∀b o,h.get? b=some o->H b=none->b∈fs->b∉ex->∃sl,h'.get? b=some {o with slots:=sl}
 free:∀b o,h.get? b=some o->H b=none->b∉ex->H' b=none
 there:∀b o,h.get? b=some o->b∉ex->∃o',h'.get? b=some o'
 tups:∀b xs,H b=some (.tup xs)->H' b=some (.tup xs)
 frzs:∀b o u,H b=some (.frz o u)->H' b=some (.frz o u)
 tbls:∀b ps,H b=some (.tbl ps)->∃more,H' b=some (.tbl (ps++more))
section
variable{fs fs' ex ex':List Addr}{H H1 H2:Hp}{h h1 h2 h':Heap}{a x e:Addr}{o:HO}
theorem Un.any(u:Un fs ex H H1 h h1){b:Addr}{ob:Obj}(q:h.get? b=some ob)(n:H b=none)(hx:b∉ex):∃sl,h1.get? b=some {ob with slots:=sl}:=by
 by_cases hb:b∈fs
 ·exact u.slot b ob q n hb hx
 ·exact⟨ob.slots,u.keep b ob q n hb hx⟩
theorem Un.kept(k:∀b u,h.get? b=some u->h'.get? b=some u):Un fs ex H H h h':=
 ⟨fun b ob q _ _ _=>k b ob q,fun b ob q _ _ _=>⟨ob.slots,k b ob q⟩,fun _ _ _ n _=>n,fun b ob q _=>⟨ob,k b ob q⟩,fun _ _ q=>q,fun _ _ _ q=>q,fun _ ps q=>⟨#[],by rw[q];simp⟩⟩
theorem Un.refl:Un fs ex H H h h:=Un.kept fun _ _ q=>q
theorem Un.laid(k:∀b u,h.get? b=some u->h'.get? b=some u)(hp:h.objs.size<=a)(hn:H a=none):Un fs ex H (upd H a o) h h' where
 keep:=fun b u q _ _ _=>k b u q
 slot:=fun b u q _ _ _=>⟨u.slots,k b u q⟩
 free:=fun b u q n _=>by rw[za6 (pD (ko (kT q) hp))];exact n
 there:=fun b u q _=>⟨u,k b u q⟩
 tups:=fun b xs q=>by rw[za6 (za8 q hn)];exact q
 frzs:=fun b u xs q=>by rw[za6 (za8 q hn)];exact q
 tbls:=fun b ps q=>⟨#[],by rw[za6 (za8 q hn),q];simp⟩
theorem Un.write(mu:Mut (H x))(he:e=x∨H e=some (.own x))(k:∀b u,b≠e->h.get? b=some u->h'.get? b=some u)(heo:∃u,h'.get? e=some u):Un fs ex H (upd H x o) h h':=by
 have hx:∀b,H b=none->b≠x:=fun b n z=>by subst z;rw[n] at mu;exact mu
 have hb:∀b,H b=none->b≠e:=fun b n z=>by
  subst z;rcases he with r|r
  ·exact hx b n r
  ·rw[n] at r;cases r
 have hm:∀b u,H b=some u->¬Mut (some u)->b≠x:=fun b u q nm z=>by subst z;rw[q] at mu;exact nm mu
 refine⟨fun b u q n _ _=>k b u (hb b n) q,fun b u q n _ _=>⟨u.slots,k b u (hb b n) q⟩,fun b u q n _=>by rw[za6 (hx b n)];exact n,fun b u q _=>?_,
  fun b xs q=>by rw[za6 (hm b _ q fun z=>z)];exact q,fun b u xs q=>by rw[za6 (hm b _ q fun z=>z)];exact q,fun b ps q=>⟨#[],by rw[za6 (hm b _ q fun z=>z),q];simp⟩⟩
 by_cases hbe:b=e
 ·subst hbe;exact heo
 ·exact⟨u,k b u hbe q⟩
end
def trk(h:Heap)(H:Hp):List Addr:=(uP h.objs.size).filter fun a=>(H a).isSome
def hidT(h:Heap)(H:Hp):Heap:=PySem.W.hideAll h (trk h H)
theorem hidT_size(h:Heap)(H:Hp):(hidT h H).objs.size=h.objs.size:=PySem.W.hideAll_size _ _
theorem hidT_get{h:Heap}{H:Hp}{b:Addr}{o:Obj}(e:h.get? b=some o)(n:H b=none):(hidT h H).get? b=some o:=
 PySem.W.hideAll_get _ e fun hm=>by
  have q:(H b).isSome=true:=(uE.mp hm).2;rw[n] at q;simp at q
theorem of_hidT{h:Heap}{H:Hp}{b:Addr}{o:Obj}(e:(hidT h H).get? b=some o):h.get? b=some o/\H b=none:=by
 have e':h.get? b=some o:=PySem.W.of_hideAll (trk h H) e;refine⟨e',?_⟩
 cases q:H b with
 |none=>rfl
 |some x=>
  have hm:b∈trk h H:=uE.mpr ⟨QF.mpr (kT e'),by simp[q]⟩
  have z:(hidT h H).get? b=none:=PySem.W.hideAll_none (trk h H) hm;rw[z] at e;cases e
def allNews(g h:Heap)(L:Addr):List (Addr×Obj):=(uP h.objs.size).filterMap fun a=>if a=L∨(g.get? a).isSome=true then none else(h.get? a).map fun o=>(a,o)
def rest(g h:Heap)(L d:Addr):List (Addr×Obj):=(allNews g h L).filter fun p=>decide (p.1≠d)
structure Mod(K:kC)(mg:Str->Option Value)(base:Heap):Prop where
 kin:K.In base
 glob:base.Ns mainGlobals mg
 blt:∃mb,base.Ns builtinsNs mb/\∀x:Str,x≠"__name__"->mb x=bootBuiltins x
 nolimit:base.NoLimit
structure Cx where
 prog:Program
 w:World
 K:kC
 mg:Str->Option Value
 base:Heap
 A:Around
 N:List Str
 s₀:Shared
 H₀:Hp
 env:Env
 outer:List Env
 stack:List Env
 ex:List Addr
 fn:Str->Bool
 calm:Bool
 pn:List (Addr×Obj)
 xe:Value->Shared->Prop
def frs(l:List Env):List Addr:=l.filterMap (·.frame)
abbrev Cx.fs(X:Cx):List Addr:=frs X.outer
def Vis(sc:Scope)(x:Str):Prop:=sc.names.lookup x=some .local∨sc.names.lookup x=some .cell∨sc.names.lookup x=some .free
def Loc(sc:Scope)(x:Str):Prop:=sc.names.lookup x=some .local∨sc.names.lookup x=some .cell
def Look(env:Env)(h:Heap)(m:Str->Option Value)(x:Str)(u:Value):Prop:=
 (env.kindOf x=some .local/\m x=some u)∨((env.kindOf x=some .cell∨env.kindOf x=some .free)/\∃c,env.cells.lookup x=some c/\h.IsCell c (some u))
structure Cx.Ok(X:Cx):Prop where
 mod:Mod X.K X.mg X.base
 kind:X.env.scope.kind=.function
 glob:X.env.globals=mainGlobals
 blt:X.env.builtins=builtinsNs
 above:X.s₀.heap.objs.size<=X.env.locals
 inj:∀x y c,X.env.cells.lookup x=some c->X.env.cells.lookup y=some c->x=y
 has:∀x,(X.env.kindOf x=some .cell∨X.env.kindOf x=some .free)->∃c,X.env.cells.lookup x=some c
 cab:∀x c,X.fn x=true->X.env.cells.lookup x=some c->X.s₀.heap.objs.size<=c
 hd:X.calm=true->X.A.handled=none
 frames:X.A.frames=some X.stack
 stk:X.stack=X.outer∨(X.stack=X.env::X.outer/\X.env.frame=some X.env.locals)
 exf:∀b∈X.ex,b≠X.env.locals/\∀x c,X.env.cells.lookup x=some c->c≠b
 bs:∀b o,X.base.get? b=some o->X.s₀.heap.get? b=some o/\X.H₀ b=none
 bsz:X.base.objs.size<=X.s₀.heap.objs.size
 noex:∀b o,X.base.get? b=some o->b∉X.ex
 exfs:∀b∈X.ex,b∉X.fs
 funs:X.s₀.heap.FunFrames X.base X.outer
 frf:∀b∈X.fs,X.H₀ b=none
structure Inv(X:Cx)(pins:List (Addr×Obj))(σ:List (Option V))(H:Hp)(s:Shared):Prop where
 ok:X.Ok
 os:s.os=X.s₀.os
 bare:jd s.gens
 base:Un X.fs X.ex X.H₀ H X.s₀.heap s.heap
 loc:∃m,s.heap.Ns X.env.locals m/\∀(i:Nat)(x:Str)(v:V),X.N[i]?=some x->σ[i]?=some (some v)->Vis X.env.scope x->∃u,RelV v u/\Look X.env s.heap m x u
 cell:∀x c,X.env.cells.lookup x=some c->∃v,s.heap.IsCell c v
 free:H X.env.locals=none
 freeC:∀x c,X.env.cells.lookup x=some c->H c=none
 pin:∀p∈X.pn++pins,s.heap.get? p.1=some p.2/\H p.1=none/\p.1≠X.env.locals/\p.1∉X.fs/\∀v,p.2.data≠.cell v
 hok:HOk X.prog X.w H s.heap
 len:σ.length=X.N.length
section
variable{X:Cx}{pins:List (Addr×Obj)}{σ:List (Option V)}{H H':Hp}{s:Shared}{h':Heap}
theorem Cx.Ok.nofr(ok:X.Ok){b:Addr}{o:Obj}(e:X.base.get? b=some o):b∉X.fs:=fun hb=>by
 have:=(ok.funs.mem hb).1;rw[e] at this;cases this
theorem Inv.bs(I:Inv X pins σ H s):∀b o,X.base.get? b=some o->s.heap.get? b=some o/\H b=none:=fun b o e=>
 ⟨I.base.keep b o (I.ok.bs b o e).1 (I.ok.bs b o e).2 (I.ok.nofr e) (I.ok.noex b o e),I.base.free b o (I.ok.bs b o e).1 (I.ok.bs b o e).2 (I.ok.noex b o e)⟩
theorem Inv.bk(I:Inv X pins σ H s):∀b o,X.base.get? b=some o->s.heap.get? b=some o:=fun b o e=>(I.bs b o e).1
theorem Inv.mod(I:Inv X pins σ H s):Mod X.K X.mg X.base:=I.ok.mod
theorem Inv.kIn(I:Inv X pins σ H s):X.K.In s.heap:=I.ok.mod.kin.keeps I.bk
theorem Inv.nolimit(I:Inv X pins σ H s):s.heap.NoLimit:=I.ok.mod.nolimit.keeps I.bk
theorem Inv.lt(I:Inv X pins σ H s):X.env.locals<s.heap.objs.size:=let⟨_,hn,_⟩:=I.loc;hn.lt
theorem Inv.sz(I:Inv X pins σ H s):X.s₀.heap.objs.size<=s.heap.objs.size:=kz I.ok.above (uI I.lt)
theorem Inv.nofs(I:Inv X pins σ H s){a:Addr}(h:s.heap.objs.size<=a):a∉X.fs:=fun hb=>by
 obtain⟨_,o,ho,_⟩:=I.ok.funs.mem hb;exact absurd (ko (kT ho) (kz I.sz h)) (QX _)
theorem Inv.cne(I:Inv X pins σ H s):∀x c,X.env.cells.lookup x=some c->c≠X.env.locals:=fun x c e z=>by
 obtain⟨v,o,ho,hd⟩:=I.cell x c e;obtain⟨m,⟨o',es,ep,ho',hd',_⟩,_⟩:=I.loc;rw[z,ho'] at ho;cases ho;rw[hd'] at hd;cases hd
theorem Inv.funs(I:Inv X pins σ H s):s.heap.FunFrames X.base X.outer:=by
 have all:∀(l:List Env),(∀b∈frs l,b∈X.fs)->X.s₀.heap.FunFrames X.base l->s.heap.FunFrames X.base l:=by
  intro l
  induction l with
  |nil=>intro _ _;trivial
  |cons env r ih=>
   intro hs hl;obtain⟨hk,⟨L,o,hf,hn,ho,hd⟩,hr⟩:=hl;have hL:L∈X.fs:=hs L (by unfold frs;rw[vz,hf];exact ku)
   obtain⟨sl,e⟩:=I.base.slot L o ho (I.ok.frf L hL) hL fun z=>I.ok.exfs L z hL;exact⟨hk,⟨L,_,hf,hn,e,hd⟩,ih (fun b hb=>hs b (by unfold frs;rw[vz,hf];exact pB _ hb)) hr⟩
 exact all X.outer (fun _ hb=>hb) I.ok.funs
theorem Inv.stack(I:Inv X pins σ H s):s.heap.FunFrames X.base X.stack:=by
 rcases I.ok.stk with e|⟨e,hf⟩
 ·rw[e];exact I.funs
 ·rw[e];obtain⟨m,hn,_⟩:=I.loc;refine .cons (by rw[I.ok.kind];decide) hf hn ?_ I.funs
  exact Heap.get?_none_of_le (kz I.ok.bsz I.ok.above)
theorem Inv.stkSub(I:Inv X pins σ H s):∀b∈frs X.stack,b∈X.env.locals::X.fs:=fun b hb=>by
 rcases I.ok.stk with e|⟨e,hf⟩
 ·rw[e] at hb;exact pB _ hb
 ·rw[e] at hb;unfold frs at hb;rw[vz,hf] at hb;exact hb
theorem Inv.stkFree(I:Inv X pins σ H s):∀b∈frs X.stack,H b=none:=fun b hb=>by
 rcases kh.mp (I.stkSub b hb) with e|hb
 ·rw[e];exact I.free
 ·obtain⟨_,o,ho,_⟩:=I.ok.funs.mem hb;exact I.base.free b o ho (I.ok.frf b hb) fun z=>I.ok.exfs b z hb
theorem Inv.step{g':Array GenState}{t':Nat}{d':Drawn}{ch:List Addr}(I:Inv X pins σ H s)
  (hch:∀b∈ch,(b∈X.ex∨X.s₀.heap.objs.size<=b)/\b≠X.env.locals/\(∀x c,X.env.cells.lookup x=some c->c≠b)/\∀p∈X.pn++pins,p.1≠b)
  (keep:∀b o,b≠X.env.locals->b∉X.fs->b∉ch->s.heap.get? b=some o->H b=none->h'.get? b=some o)
  (slot:∀b o,b≠X.env.locals->b∈X.fs->b∉ch->s.heap.get? b=some o->H b=none->∃sl,h'.get? b=some {o with slots:=sl})(free:∀b o,b∉ch->s.heap.get? b=some o->H b=none->H' b=none)
  (there:∀b o,b∉ch->s.heap.get? b=some o->∃o',h'.get? b=some o')
  (tups:∀b xs,H b=some (.tup xs)->H' b=some (.tup xs)) (frzs:∀b o u,H b=some (.frz o u)->H' b=some (.frz o u)) (tbls:∀b ps,H b=some (.tbl ps)->∃more,H' b=some (.tbl (ps++more)))
  (ns:∀m,s.heap.Ns X.env.locals m->h'.Ns X.env.locals m) (hok:HOk X.prog X.w H' h') (hg:jd g'):
  Inv X pins σ H' {s with heap:=h',gens:=g',drawn:=d',toks:=t'}:=by
 have neL:∀b o,X.s₀.heap.get? b=some o->b≠X.env.locals:=fun b o e=>pD (ko (kT e) I.ok.above);have neC:∀b o,X.s₀.heap.get? b=some o->b∉X.ex->b∉ch:=fun b o e hx hb=>by
  rcases(hch b hb).1 with z|z
  ·exact hx z
  ·exact absurd (ko (kT e) z) (QX _)
 have cellK:∀x c,X.env.cells.lookup x=some c->∀v,s.heap.IsCell c v->h'.IsCell c v:=fun x c e v⟨o,ho,hd⟩=>by
  have nch:c∉ch:=fun z=>(hch c z).2.2.1 x c e rfl
  by_cases hc:c∈X.fs
  ·obtain⟨sl,q⟩:=slot c o (I.cne x c e) hc nch ho (I.freeC x c e);exact⟨_,q,hd⟩
  ·exact⟨o,keep c o (I.cne x c e) hc nch ho (I.freeC x c e),hd⟩
 refine⟨I.ok,I.os,hg,⟨fun b o e n hb hx=>?_,fun b o e n hb hx=>?_,fun b o e n hx=>?_,fun b o e hx=>?_,fun b xs e=>tups b xs (I.base.tups b xs e),fun b o xs e=>frzs b o xs (I.base.frzs b o xs e),fun b ps e=>?_⟩,?_,fun x c e=>?_,?_,fun x c e=>?_,fun p hp=>?_,hok,I.len⟩
 ·exact keep b o (neL b o e) hb (neC b o e hx) (I.base.keep b o e n hb hx) (I.base.free b o e n hx)
 ·obtain⟨sl,e1⟩:=I.base.slot b o e n hb hx;obtain⟨sl',e2⟩:=slot b _ (neL b o e) hb (neC b o e hx) e1 (I.base.free b o e n hx);exact⟨sl',e2⟩
 ·obtain⟨o',e1⟩:=I.base.there b o e hx;exact free b o' (neC b o e hx) e1 (I.base.free b o e n hx)
 ·obtain⟨o',e1⟩:=I.base.there b o e hx;exact there b o' (neC b o e hx) e1
 ·obtain⟨m1,e1⟩:=I.base.tbls b ps e;obtain⟨m2,e2⟩:=tbls b _ e1;exact⟨m1++m2,by rw[e2,Array.append_assoc]⟩
 ·obtain⟨m,hn,hl⟩:=I.loc;refine⟨m,ns m hn,fun i x v e1 e2 e3=>?_⟩;obtain⟨u,r,l⟩:=hl i x v e1 e2 e3;refine⟨u,r,?_⟩;rcases l with l|⟨k,c,e,z⟩
  ·exact .inl l
  ·exact .inr ⟨k,c,e,cellK x c e _ z⟩
 ·obtain⟨v,z⟩:=I.cell x c e;exact⟨v,cellK x c e v z⟩
 ·obtain⟨m,⟨o,_,_,ho,_⟩,_⟩:=I.loc;exact free _ o (fun z=>(hch _ z).2.1 rfl) ho I.free
 ·obtain⟨v,o,ho,hd⟩:=I.cell x c e;exact free c o (fun z=>(hch c z).2.2.1 x c e rfl) ho (I.freeC x c e)
 ·obtain⟨e,n,ne,nf,d⟩:=I.pin p hp;have nch:p.1∉ch:=fun z=>(hch p.1 z).2.2.2 p hp rfl;exact⟨keep p.1 p.2 ne nf nch e n,free p.1 p.2 nch e n,ne,nf,d⟩
theorem Inv.un{t':Nat}(I:Inv X pins σ H s)(u:Un X.fs [] H H' s.heap h')(hok:HOk X.prog X.w H' h'):Inv X pins σ H' {s with heap:=h',toks:=t'}:=by
 obtain⟨m,⟨o,es,ep,ho,r⟩,_⟩:=id I.loc;obtain⟨sl,hL⟩:=u.any ho I.free (by simp)
 exact I.step (g':=s.gens) (d':=s.drawn) (ch:=[]) (fun _ z=>nomatch z) (fun b o _ hb _ e n=>u.keep b o e n hb (by simp)) (fun b o _ hb _ e n=>u.slot b o e n hb (by simp)) (fun b o _ e n=>u.free b o e n (by simp)) (fun b o _ e=>u.there b o e (by simp)) u.tups u.frzs u.tbls (fun m' hm=>by
  obtain⟨o',es',ep',ho',r'⟩:=hm;rw[ho] at ho';cases ho';exact⟨_,es',ep',hL,r'⟩) hok I.bare
theorem Inv.call{g':Array GenState}{t':Nat}{d':Drawn}{ch:List Addr}(I:Inv X pins σ H s)(u:Un (frs X.stack) ch H H' s.heap h')(hok:HOk X.prog X.w H' h')(hg:jd g')
  (hch:∀b∈ch,(b∈X.ex∨X.s₀.heap.objs.size<=b)/\b≠X.env.locals/\(∀x c,X.env.cells.lookup x=some c->c≠b)/\∀p∈X.pn++pins,p.1≠b):
  Inv X pins σ H' {s with heap:=h',gens:=g',drawn:=d',toks:=t'}:=by
 obtain⟨m,⟨o,es,ep,ho,r⟩,_⟩:=id I.loc;obtain⟨sl,hL⟩:=u.any ho I.free fun z=>(hch _ z).2.1 rfl;exact I.step (ch:=ch) hch (fun b o hL hb hc e n=>u.keep b o e n (fun z=>(kh.mp (I.stkSub b z)).elim hL hb) hc) (fun b o _ _ hc e n=>u.any e n hc) (fun b o hc e n=>u.free b o e n hc) (fun b o hc e=>u.there b o e hc) u.tups u.frzs u.tbls (fun m' hm=>by
  obtain⟨o',es',ep',ho',r'⟩:=hm;rw[ho] at ho';cases ho';exact⟨_,es',ep',hL,r'⟩) hok hg
theorem Inv.turned{t':Nat}{it:Addr}(I:Inv X pins σ H s)(k:∀b o,b≠it->s.heap.get? b=some o->h'.get? b=some o)(hn:H it=none)(hL:it≠X.env.locals)
  (h1:it∈X.ex∨X.s₀.heap.objs.size<=it)(h2:∀x c,X.env.cells.lookup x=some c->c≠it)(h3:∀p∈X.pn++pins,p.1≠it):Inv X pins σ H {s with heap:=h',toks:=t'}:=by
 have nit:∀b u,H b=some u->b≠it:=fun b u e z=>by rw[z,hn] at e;cases e
 refine I.step (g':=s.gens) (d':=s.drawn) (ch:=[it]) (fun b hb=>?_) (fun b o _ _ hc e _=>k b o (fun z=>hc (by simp[z])) e) (fun b o _ _ hc e _=>⟨o.slots,k b o (fun z=>hc (by simp[z])) e⟩) (fun _ _ _ _ n=>n)
  (fun b o hc e=>⟨o,k b o (fun z=>hc (by simp[z])) e⟩) (fun _ _ e=>e) (fun _ _ _ e=>e) (fun b ps e=>⟨#[],by rw[e];simp⟩) (fun m hm=>?_) (fun b u e=>?_) I.bare
 ·have e:b=it:=by simpa using hb
  subst e;exact⟨h1,hL,h2,h3⟩
 ·obtain⟨o,es,ep,ho,r⟩:=hm;exact⟨o,es,ep,k _ o (UA hL) ho,r⟩
 ·refine(I.hok b u e).stay (fun c v hc q=>k c v ?_ q) (fun _ q=>q) fun _ _ q=>q;rcases hc with z|z
  ·rw[z];exact nit b u e
  ·exact nit c _ z
theorem Inv.tok(I:Inv X pins σ H s)(t:Nat):Inv X pins σ H {s with toks:=t}:=I.un (h':=s.heap) (t':=t) Un.refl I.hok
theorem Inv.kept{t':Nat}(I:Inv X pins σ H s)(k:∀b u,s.heap.get? b=some u->h'.get? b=some u):Inv X pins σ H {s with heap:=h',toks:=t'}:=I.un (Un.kept k) (I.hok.kept k)
theorem Inv.laid{a:Addr}{o:HO}{t':Nat}(I:Inv X pins σ H s)(k:∀b u,s.heap.get? b=some u->h'.get? b=some u)(hp:s.heap.objs.size<=a)(new:ObjOk X.prog X.w (upd H a o) h' a o):
  Inv X pins σ (upd H a o) {s with heap:=h',toks:=t'}:=I.un (Un.laid k hp (I.hok.fresh hp)) (I.hok.laid k hp new)
theorem Inv.write{x e:Addr}{o:HO}{t':Nat}(I:Inv X pins σ H s)(mu:Mut (H x))(he:e=x∨H e=some (.own x))(k:∀b u,b≠e->s.heap.get? b=some u->h'.get? b=some u)(heo:∃u,h'.get? e=some u)
  (new:ObjOk X.prog X.w (upd H x o) h' x o):Inv X pins σ (upd H x o) {s with heap:=h',toks:=t'}:=I.un (Un.write mu he k heo) (I.hok.write mu he k heo new)
theorem Inv.pins_of{pins':List (Addr×Obj)}(I:Inv X pins σ H s)(h:∀p∈pins',s.heap.get? p.1=some p.2/\H p.1=none/\p.1≠X.env.locals/\p.1∉X.fs/\∀v,p.2.data≠.cell v):Inv X pins' σ H s:=
 ⟨I.ok,I.os,I.bare,I.base,I.loc,I.cell,I.free,I.freeC,fun p hp=>(kf.mp hp).elim (fun z=>I.pin p (pi _ z)) (h p),I.hok,I.len⟩
theorem zjk{N:List Str}(hN:N.Nodup){i j:Nat}{x:Str}(a:N[i]?=some x)(b:N[j]?=some x):i=j:=by
 obtain⟨h1,e1⟩:=kG.mp a;obtain⟨h2,e2⟩:=kG.mp b;exact(List.getElem_inj hN).mp (e1.trans e2.symm)
theorem store_ok2{M:Model}{A:Around}{E:Value->Shared->Prop}{i:Nat}{x:Str}{v:V}{u:Value}{Q:Unit->Shared->Prop}(I:Inv X pins σ H s)(hN:X.N.Nodup)(hi:X.N[i]?=some x)(hx:Loc X.env.scope x)(r:RelV v u)
  (h:∀s',Inv X pins (σ.set i (some v)) H s'->(∃a,jD a s.heap s'.heap/\(a=X.env.locals∨X.env.cells.lookup x=some a))->Q () s')(hf:X.fn x=true∨X.env.scope.names.lookup x=some .local:=by first|exact .inl rfl|exact .inr rfl|assumption):wpAny M A (storeName X.env x u) Q E s:=by
 obtain⟨m,hn,hl⟩:=id I.loc;have hcls:(X.env.scope.kind==.class||(X.env.scope.kind==.module&&X.env.locals !=X.env.globals))=false:=by rw[I.ok.kind];rfl
 have hiσ:i<σ.length:=by rw[I.len];exact(kG.mp hi).1
 have cne:=I.cne;have tracked:∀{a:Addr}{h':Heap},(∃o,s.heap.get? a=some o/\H a=none)->jD a s.heap h'->HOk X.prog X.w H h':=fun{a h'} ha hs b ob e=>by
  obtain⟨_,_,hfree⟩:=ha;refine(I.hok b ob e).stay (fun c w' hc q=>(hs.2 c ?_).trans q) (fun _ q=>q) fun _ _ q=>q;rintro rfl;rcases hc with rfl|hc
  ·rw[hfree] at e;cases e
  ·rw[hfree] at hc;cases hc
 rcases hx with hk|hk
 ·refine wpAny_storeName_local hk hn (fun h' hn' hs=>?_) hcls;obtain⟨oL,_,_,hoL,_⟩:=id hn;refine h _ ⟨I.ok,I.os,I.bare,⟨fun b o e n hb hx=>?_,fun b o e n hb hx=>?_,I.base.free,fun b o e hx=>?_,I.base.tups,I.base.frzs,I.base.tbls⟩,⟨_,hn',fun j y v' e1 e2 e3=>?_⟩,fun y c e=>?_,I.free,I.freeC,fun p hp=>?_,tracked ⟨oL,hoL,I.free⟩ hs,by simpa using I.len⟩ ⟨_,hs,.inl rfl⟩
  ·exact(hs.2 b (pD (ko (kT e) I.ok.above))).trans (I.base.keep b o e n hb hx)
  ·obtain⟨sl,e1⟩:=I.base.slot b o e n hb hx;exact⟨sl,(hs.2 b (pD (ko (kT e) I.ok.above))).trans e1⟩
  ·obtain⟨o',e1⟩:=I.base.there b o e hx;exact⟨o',(hs.2 b (pD (ko (kT e) I.ok.above))).trans e1⟩
  ·by_cases hj:j=i
   ·subst hj;rw[hi] at e1;cases e1;rw[QZ hiσ] at e2
    cases e2;exact⟨u,r,.inl ⟨hk,by simp⟩⟩
   ·rw[Qi (UA hj)] at e2;obtain⟨u',r',q⟩:=hl j y v' e1 e2 e3;refine⟨u',r',?_⟩;rcases q with⟨k,e⟩|⟨k,c,e,z⟩
    ·refine .inl ⟨k,?_⟩;have:y≠x:=fun e=>hj (zjk hN e1 (e▸hi))
     simp[this,e]
    ·exact .inr ⟨k,c,e,z.sameBut hs (cne y c e)⟩
  ·obtain⟨w',z⟩:=I.cell y c e;exact⟨w',z.sameBut hs (cne y c e)⟩
  ·obtain⟨e,n,ne,nf,d⟩:=I.pin p hp;exact⟨(hs.2 p.1 ne).trans e,n,ne,nf,d⟩
 ·have hfn:X.fn x=true:=by
   rcases hf with z|z
   ·exact z
   ·rw[z] at hk;cases hk
  obtain⟨c,hc⟩:=I.ok.has x (.inl hk);obtain⟨w',z⟩:=I.cell x c hc;refine wpAny_storeName_cell I.ok.kind hk hc z (fun h' hc' hs=>?_);obtain⟨oc,hoc,hocd⟩:=id z;refine h {s with heap:=h'} ⟨I.ok,I.os,I.bare,⟨fun b o e n hb hx=>?_,fun b o e n hb hx=>?_,I.base.free,fun b o e hx=>?_,I.base.tups,I.base.frzs,I.base.tbls⟩,⟨m,hn.sameBut hs (UA (cne x c hc)),fun j y v' e1 e2 e3=>?_⟩,fun y c' e=>?_,I.free,I.freeC,fun p hp=>?_,tracked ⟨oc,hoc,I.freeC x c hc⟩ hs,by simpa using I.len⟩ ⟨c,hs,.inr hc⟩
  ·exact(hs.2 b (pD (ko (kT e) (I.ok.cab x c hfn hc)))).trans (I.base.keep b o e n hb hx)
  ·obtain⟨sl,e1⟩:=I.base.slot b o e n hb hx;exact⟨sl,(hs.2 b (pD (ko (kT e) (I.ok.cab x c hfn hc)))).trans e1⟩
  ·obtain⟨o',e1⟩:=I.base.there b o e hx;exact⟨o',(hs.2 b (pD (ko (kT e) (I.ok.cab x c hfn hc)))).trans e1⟩
  ·by_cases hj:j=i
   ·subst hj;rw[hi] at e1;cases e1;rw[QZ hiσ] at e2
    cases e2;exact⟨u,r,.inr ⟨.inl hk,c,hc,hc'⟩⟩
   ·rw[Qi (UA hj)] at e2;obtain⟨u',r',q⟩:=hl j y v' e1 e2 e3;refine⟨u',r',?_⟩;rcases q with q|⟨k,c',e,z'⟩
    ·exact .inl q
    ·refine .inr ⟨k,c',e,z'.sameBut hs ?_⟩;rintro rfl;exact hj (zjk hN e1 (I.ok.inj _ _ _ e hc▸hi))
  ·by_cases hcc:c'=c
   ·subst hcc;exact⟨_,hc'⟩
   ·obtain⟨w2,z2⟩:=I.cell y c' e;exact⟨w2,z2.sameBut hs hcc⟩
  ·obtain⟨e,n,ne,nf,d⟩:=I.pin p hp;refine⟨(hs.2 p.1 ?_).trans e,n,ne,nf,d⟩;intro q;rw[q,hoc] at e;have q':oc=p.2:=pJ e;exact d w' (by rw[←q'];exact hocd)
theorem zfg{M:Model}{A:Around}{E:Value->Shared->Prop}{i:Nat}{x:Str}{v:V}{u:Value}{Q:Unit->Shared->Prop}(I:Inv X pins σ H s)(hN:X.N.Nodup)(hi:X.N[i]?=some x)(hx:Loc X.env.scope x)(r:RelV v u)
  (h:∀s',Inv X pins (σ.set i (some v)) H s'->Q () s')(hf:X.fn x=true∨X.env.scope.names.lookup x=some .local:=by first|exact .inl rfl|exact .inr rfl|assumption):wpAny M A (storeName X.env x u) Q E s:=
 store_ok2 I hN hi hx r (fun s' I' _=>h s' I') hf
theorem Inv.call'{s':Shared}{ch:List Addr}(I:Inv X pins σ H s)(ho:s'.os=s.os)(u:Un (frs X.stack) ch H H' s.heap s'.heap)(hok:HOk X.prog X.w H' s'.heap)(hg:jd s'.gens)
  (hch:∀b∈ch,(b∈X.ex∨X.s₀.heap.objs.size<=b)/\b≠X.env.locals/\(∀x c,X.env.cells.lookup x=some c->c≠b)/\∀p∈X.pn++pins,p.1≠b):Inv X pins σ H' s':=by
 obtain⟨h',g',d',t',o'⟩:=s';have e:o'=s.os:=ho;subst e;exact I.call (g':=g') (t':=t') (d':=d') u hok hg hch
end
abbrev XK:=Value->Option Addr->Hp->Prop
abbrev St:=List (Option V)
abbrev VK:=V->Hp->Prop
abbrev TE:=St->Hp->VK->Prop
abbrev TT:=St->Hp->(Bool->Hp->Prop)->Prop
abbrev TA:=St->Hp->(List V->Hp->Prop)->Prop
structure Ends where
 nx:St->Hp->Prop
 rt:VK
 bk:St->Hp->Prop:=fun _ _=>False
 ct:St->Hp->Prop:=fun _ _=>False
abbrev TS:=Ends->St->Hp->Prop
def EP(X:Cx)(pins:List (Addr×Obj))(σ:St)(Q:VK)(u:Value)(s':Shared):Prop:=∃v H',Inv X pins σ H' s'/\RelV v u/\Q v H'
def TP(X:Cx)(pins:List (Addr×Obj))(σ:St)(Q:Bool->Hp->Prop)(b:Bool)(s':Shared):Prop:=∃H',Inv X pins σ H' s'/\Q b H'
def AP(X:Cx)(pins:List (Addr×Obj))(σ:St)(Q:List V->Hp->Prop)(us:List Value)(s':Shared):Prop:=∃vs H',Inv X pins σ H' s'/\Vals vs us/\Q vs H'
def SP(X:Cx)(pins:List (Addr×Obj))(D:Ends)(f:Flow)(s':Shared):Prop:=
 match f with
 |.next=>∃σ' H',Inv X pins σ' H' s'/\D.nx σ' H'
 |.brk=>∃σ' H',Inv X pins σ' H' s'/\D.bk σ' H'
 |.cont=>∃σ' H',Inv X pins σ' H' s'/\D.ct σ' H'
 |.ret u=>∃v σ' H',Inv X pins σ' H' s'/\RelV v u/\D.rt v H'
def PE(X:Cx)(e:Expr)(t:TE):Prop:=
 ∀(pins:List (Addr×Obj))(s:Shared)(σ:St)(H:Hp)(Q:VK),Inv X pins σ H s->t σ H Q->wpAny (model X.prog X.w) X.A (eval e X.env) (EP X pins σ Q) X.xe s
def PT(X:Cx)(e:Expr)(t:TT):Prop:=
 ∀(pins:List (Addr×Obj))(s:Shared)(σ:St)(H:Hp)(Q:Bool->Hp->Prop),Inv X pins σ H s->t σ H Q->wpAny (model X.prog X.w) X.A (isTrue e X.env (eval e X.env)) (TP X pins σ Q) X.xe s
def PW(X:Cx)(e:Expr)(t:TT):Prop:=
 ∀(whole:Sem Value)(pins:List (Addr×Obj))(s:Shared)(σ:St)(H:Hp)(Q:Bool->Hp->Prop),Inv X pins σ H s->t σ H Q->wpAny (model X.prog X.w) X.A (isTrue e X.env whole) (TP X pins σ Q) X.xe s
theorem PW.pt{X:Cx}{e:Expr}{t:TT}(h:PW X e t):PT X e t:=h _
def PA(X:Cx)(es:List Expr)(t:TA):Prop:=
 ∀(pos:Pos)(pins:List (Addr×Obj))(s:Shared)(σ:St)(H:Hp)(Q:List V->Hp->Prop),Inv X pins σ H s->t σ H Q->wpAny (model X.prog X.w) X.A (spliced (backTo pos (pX es X.env))) (AP X pins σ Q) X.xe s
def PS(X:Cx)(st:Stmt)(t:TS):Prop:=
 ∀(pins:List (Addr×Obj))(s:Shared)(σ:St)(H:Hp)(D:Ends),Inv X pins σ H s->t D σ H->wpAny (model X.prog X.w) X.A (exec st X.env) (SP X pins D) X.xe s
def PSs(X:Cx)(st:List Stmt)(t:TS):Prop:=
 ∀(pins:List (Addr×Obj))(s:Shared)(σ:St)(H:Hp)(D:Ends),Inv X pins σ H s->t D σ H->wpAny (model X.prog X.w) X.A (execs st X.env) (SP X pins D) X.xe s
theorem thn{α:Type}{t:Sem α}{Q Q':α->Shared->Prop}{M:Model}{A:Around}{E:Value->Shared->Prop}{s:Shared}(h:wpAny M A t Q E s)(hQ:∀a s,Q a s->Q' a s):wpAny M A t Q' E s:=uL h hQ fun _ _ x=>x
section
variable{X:Cx}
def tVar(i:Nat):TE:=fun σ H Q=>∃v,σ[i]?=some (some v)/\Q v H
def tC(v:V):TE:=fun _ H Q=>Q v H
theorem pe_var{i:Nat}{x:Str}{pos:Pos}(hN:X.N[i]?=some x)(hv:Vis X.env.scope x)(hd:(x==("__debug__":Str))=false:=by decide)(hcd:(x==("__classdict__":Str))=false:=by decide):PE X (.Name x pos) (tVar i):=by
 intro pins s σ H Q I h;obtain⟨v,e,h⟩:=h;obtain⟨m,hn,hl⟩:=I.loc;obtain⟨u,r,l⟩:=hl i x v hN e hv;have fin:EP X pins σ Q u s:=⟨v,H,I,r,h⟩;rcases l with⟨hk,hm⟩|⟨hk,c,hc,hcell⟩
 ·exact Bc (wpAny_loadName_local I.ok.kind hk hn hm fin) hd
 ·rcases hk with hk|hk
  ·exact Bc (wpAny_loadName_cell I.ok.kind hk hc hcell fin) hd
  ·exact Bc (wpAny_loadName_free I.ok.kind hk hc hcell fin hcd) hd
theorem zaz{i j pos}:PE X (.Constant (.int i) j pos) (tC (.int i)):=fun _ _ _ H _ I h=>wpAny_Constant_int ⟨.int i,H,I.tok _,⟨_,rfl⟩,h⟩
theorem pe_bl{b j pos}:PE X (.Constant (.bool b) j pos) (tC (.bl b)):=fun _ _ _ H _ I h=>Constant_bool ⟨.bl b,H,I,rfl,h⟩
theorem zjw{j pos}:PE X (.Constant .none j pos) (tC .non):=fun _ _ _ H _ I h=>Constant_none ⟨.non,H,I,rfl,h⟩
theorem zk6{x j pos}:PE X (.Constant (.str x) j pos) (tC (.str x)):=fun _ _ _ H _ I h=>Calls.Constant_str ⟨.str x,H,I.tok _,⟨_,rfl⟩,h⟩
def Gl(X:Cx)(x:Str):Prop:=X.env.kindOf x=some .globalImplicit
theorem ld_glob{E:Value->Shared->Prop}{pins:List (Addr×Obj)}{s:Shared}{σ:St}{H:Hp}{x:Str}{u:Value}{pos:Pos}{Q:Value->Shared->Prop}(I:Inv X pins σ H s)(hg:Gl X x)(hm:X.mg x=some u)(h:Q u s)
  (hd:(x==("__debug__":Str))=false:=by decide):wpAny (model X.prog X.w) X.A (eval (.Name x pos) X.env) Q E s:=
 jI I.ok.kind hg (Calls.loadGlobal_global (by rw[I.ok.glob];exact I.mod.glob.keeps I.bk) hm h) hd
theorem ze2{E:Value->Shared->Prop}{pins:List (Addr×Obj)}{s:Shared}{σ:St}{H:Hp}{x:Str}{u:Value}{pos:Pos}{Q:Value->Shared->Prop}(I:Inv X pins σ H s)(hg:Gl X x)(hm:X.mg x=none)(hv:bootBuiltins x=some u)(h:Q u s)
  (hn:x≠"__name__":=by decide)(hd:(x==("__debug__":Str))=false:=by decide):wpAny (model X.prog X.w) X.A (eval (.Name x pos) X.env) Q E s:=by
 obtain⟨mb,h1,h2⟩:=I.mod.blt;exact jI I.ok.kind hg (Calls.loadGlobal_builtin (by rw[I.ok.glob];exact I.mod.glob.keeps I.bk) hm (by rw[I.ok.blt];exact h1.keeps I.bk) ((h2 x hn).trans hv) h) hd
theorem zfr{x:Str}{v:V}{u:Value}{pos:Pos}(hg:Gl X x)(hm:X.mg x=none)(hv:bootBuiltins x=some u)(r:RelV v u)(hn:x≠"__name__":=by decide)(hd:(x==("__debug__":Str))=false:=by decide):PE X (.Name x pos) (tC v):=
 fun _ _ _ H _ I h=>ze2 I hg hm hv ⟨v,H,I,r,h⟩ hn hd
variable{a b:Expr}{ta tb:TE}{pos:Pos}
def PC(X:Cx)(op:CmpOp)(a b:Expr)(t:TE):Prop:=
 ∀(pins:List (Addr×Obj))(s:Shared)(σ:St)(H:Hp)(Q:VK),Inv X pins σ H s->t σ H Q->
  wpAny (model X.prog X.w) X.A (eval a X.env) (fun v s₁=>wpAny (model X.prog X.w) X.A (eval b X.env) (fun u s₂=>wpAny (model X.prog X.w) X.A (compareOp op v u) (EP X pins σ Q) X.xe s₂) X.xe s₁) X.xe s
def tB(t:TE):TT:=fun σ H Q=>t σ H fun x H1=>∃c,x=.bl c/\Q c H1
theorem zm6{op:CmpOp}{t:TE}(h:PC X op a b t)(h1:behindInMarks op b=false:=by first|exact nobehind _ (by decide) (by decide)|rfl):PT X (.Compare a [op] [b] pos) (tB t):=by
 intro pins s σ H Q I hw;refine gd (thn (h pins s σ H _ I hw) fun v s1 h1=>thn h1 fun u s2 h2=>thn h2 fun c s3⟨x,H1,I1,r1,q1⟩=>?_) h1;obtain⟨d,rfl,q⟩:=q1
 cases r1;exact UJ ⟨H1,I1,q⟩
theorem zfv{e:Expr}{t:TE}(h:PE X e t)(he:∀whole,isTrue e X.env whole=(do let v ←whole;standAt e.pos;holding [v] (truthy v)):=by intro _;rfl):PT X e (tB t):=by
 intro pins s σ H Q I hw;refine isTrue_plain (thn (h pins s σ H _ I hw) fun v s1⟨x,H1,I1,r1,q1⟩=>?_) (he _);obtain⟨d,rfl,q⟩:=q1
 cases r1;exact UJ ⟨H1,I1,q⟩
variable{tA tB':TT}{rest:List Expr}
def tAnd(t u:TT):TT:=fun σ H Q=>t σ H fun c H1=>if c=true then u σ H1 Q else Q false H1
def tOr(t u:TT):TT:=fun σ H Q=>t σ H fun c H1=>if c=true then Q true H1 else u σ H1 Q
def tNot(t:TT):TT:=fun σ H Q=>t σ H fun c H1=>Q (!c) H1
theorem zir(ha:PT X a tA):PW X (.BoolOp .And [a] pos) tA:=by
 intro wh pins s σ H Q I h;refine isTrue_and (thn (ha pins s σ H Q I h) fun c s1 e=>?_)
 cases c with
 |true=>exact isTrue_and_nil e
 |false=>exact e
theorem zi6(ha:PT X a tA):PW X (.BoolOp .Or [a] pos) tA:=by
 intro wh pins s σ H Q I h;refine isTrue_or (thn (ha pins s σ H Q I h) fun c s1 e=>?_)
 cases c with
 |false=>exact isTrue_or_nil e
 |true=>exact e
theorem zk5(ha:PT X a tA)(hb:PW X (.BoolOp .And (b::rest) pos) tB'):PW X (.BoolOp .And (a::b::rest) pos) (tAnd tA tB'):=by
 intro wh pins s σ H Q I h;refine isTrue_and (thn (ha pins s σ H _ I h) fun c s1⟨H1,I1,q1⟩=>?_)
 cases c with
 |true=>exact hb wh pins s1 σ H1 Q I1 q1
 |false=>exact⟨H1,I1,q1⟩
theorem pw_or(ha:PT X a tA)(hb:PW X (.BoolOp .Or (b::rest) pos) tB'):PW X (.BoolOp .Or (a::b::rest) pos) (tOr tA tB'):=by
 intro wh pins s σ H Q I h;refine isTrue_or (thn (ha pins s σ H _ I h) fun c s1⟨H1,I1,q1⟩=>?_)
 cases c with
 |true=>exact⟨H1,I1,q1⟩
 |false=>exact hb wh pins s1 σ H1 Q I1 q1
theorem zi4(ha:PT X a tA):PT X (.UnaryOp .Not a pos) (tNot tA):=by
 intro pins s σ H Q I h;exact isTrue_not (ha pins s σ H (fun c H1=>Q (!c) H1) I h)
def tAndV(ta tb:TE):TE:=fun σ H Q=>ta σ H fun x H1=>∃c,x=.bl c/\if c=true then tb σ H1 Q else Q (.bl false) H1
def tOrV(ta tb:TE):TE:=fun σ H Q=>ta σ H fun x H1=>∃c,x=.bl c/\if c=true then Q (.bl true) H1 else tb σ H1 Q
def tNotV(ta:TE):TE:=fun σ H Q=>ta σ H fun x H1=>∃c,x=.bl c/\Q (.bl (!c)) H1
theorem zk9{op}{t:TE}(h:PE X a t):PE X (.BoolOp op [a] pos) t:=fun pins s σ H Q I hw=>BoolOp_one (h pins s σ H Q I hw)
theorem zkp(ha:PE X a ta)(hb:PE X (.BoolOp .And (b::rest) pos) tb):PE X (.BoolOp .And (a::b::rest) pos) (tAndV ta tb):=by
 intro pins s σ H Q I h;refine BoolOp_and (thn (ha pins s σ H _ I h) fun v s1⟨x,H1,I1,r1,q1⟩=>?_);obtain⟨c,rfl,q1⟩:=q1
 cases r1;refine UJ ?_
 cases c with
 |true=>exact hb pins s1 σ H1 Q I1 q1
 |false=>exact⟨.bl false,H1,I1,rfl,q1⟩
theorem zlj(ha:PE X a ta):PE X (.UnaryOp .Not a pos) (tNotV ta):=by
 intro pins s σ H Q I h;refine UnaryOp_ (thn (ha pins s σ H _ I h) fun v s1⟨x,H1,I1,r1,q1⟩=>?_);obtain⟨c,rfl,q1⟩:=q1
 cases r1;exact not_of (UJ ⟨.bl (!c),H1,I1,rfl,q1⟩)
def tIf(t:TT)(ta tb:TE):TE:=fun σ H Q=>t σ H fun c H1=>if c=true then ta σ H1 Q else tb σ H1 Q
theorem pe_ifExp{c:Expr}(hc:PT X c tA)(ha:PE X a ta)(hb:PE X b tb):PE X (.IfExp c a b pos) (tIf tA ta tb):=by
 intro pins s σ H Q I h;refine wpAny_IfExp (thn (hc pins s σ H _ I h) fun d s1⟨H1,I1,q1⟩=>?_)
 cases d with
 |true=>exact ha pins s1 σ H1 Q I1 q1
 |false=>exact hb pins s1 σ H1 Q I1 q1
end
def SqL(K:kC)(H:Hp)(a:Addr)(xs:List V):Prop:=
 Rd H a (.lst xs)∨
  ∃(o:Obj)(its:Array Value)(n:Nat),K.lookup a=some o/\o.cls=.type "list"/\o.dict=none/\o.data=.seq its n/\its.size<=sizeLine/\Vals xs its.toList
def SqT(K:kC)(H:Hp)(a:Addr)(xs:List V):Prop:=
 Rd H a (.tup xs)∨
  ∃(o:Obj)(its:Array Value)(n:Nat),K.lookup a=some o/\o.cls=.type "tuple"/\o.data=.seq its n/\its.size<=sizeLine/\Vals xs its.toList
def absV:Value->Option V
 |.none=>some .non
 |.bool b=>some (.bl b)
 |.int i _=>some (.int i)
 |.str x _=>some (.str x)
 |.bytes b _=>some (.byt b)
 |.float b _=>some (.flt b)
 |.ref a=>some (.ref a)
 |.type n=>some (.ty n)
 |_=>none
theorem RelV.abs{x:V}{u:Value}(r:RelV x u):absV u=some x:=by
 cases x with
 |non=>cases r;rfl
 |bl _=>cases r;rfl
 |int _=>obtain⟨t,rfl⟩:=r;rfl
 |str _=>obtain⟨t,rfl⟩:=r;rfl
 |byt _=>obtain⟨t,rfl⟩:=r;rfl
 |flt _=>obtain⟨t,rfl⟩:=r;rfl
 |ref _=>cases r;rfl
 |ty _=>cases r;rfl
theorem RelV.inj{x y:V}{u:Value}(r:RelV x u)(q:RelV y u):x=y:=pJ (r.abs.symm.trans q.abs)
theorem Vals.inj:∀{xs ys:List V}{us:List Value},Vals xs us->Vals ys us->xs=ys
 |_,_,_,.nil,.nil=>rfl
 |_,_,_,.cons r t,.cons r' t'=>by rw[r.inj r',Vals.inj t t']
section
variable{X:Cx}{pins:List (Addr×Obj)}{σ:St}{H:Hp}{s:Shared}{a:Addr}{xs ys:List V}
theorem SqL.of{K:kC}(h:H a=some (.lst xs)):SqL K H a xs:=.inl (.inl h)
theorem SqT.of{K:kC}(h:H a=some (.tup xs)):SqT K H a xs:=.inl (.inl h)
theorem Inv.list(I:Inv X pins σ H s)(h:SqL X.K H a xs):∃its:List Value,Vals xs its/\PlainL s.heap a its.toArray/\xs.length<=sizeLine:=by
 rcases h with h|⟨o,its,n,hk,hc,hd,hs,hz,r⟩
 ·obtain⟨z,its,n,r,e⟩:=h.ok I.hok;exact⟨its,r,⟨_,n,e,rfl,rfl,rfl⟩,z⟩
 ·refine⟨its.toList,r,⟨o,n,I.kIn a o hk,hc,hd,by simpa using hs⟩,?_⟩
  have e:=r.length;simp only[kO] at e;omega
theorem Inv.tuple(I:Inv X pins σ H s)(h:SqT X.K H a xs):∃its:List Value,Vals xs its/\IsTup s.heap a its.toArray/\xs.length<=sizeLine:=by
 rcases h with h|⟨o,its,n,hk,hc,hs,hz,r⟩
 ·obtain⟨z,its,r,p⟩:=h.ok I.hok;exact⟨its,r,p,z⟩
 ·refine⟨its.toList,r,⟨o,I.kIn a o hk,hc,n,by simpa using hs⟩,?_⟩
  have e:=r.length;simp only[kO] at e;omega
theorem Inv.list_inj(I:Inv X pins σ H s)(h:SqL X.K H a xs)(h':SqL X.K H a ys):xs=ys:=by
 obtain⟨its,r,⟨o,n,e,_,_,d⟩,_⟩:=I.list h;obtain⟨its',r',⟨o',n',e',_,_,d'⟩,_⟩:=I.list h';rw[e] at e';cases e';rw[d] at d'
 injection d' with d1 _
 have:its=its':=by simpa using congrArg CD d1
 subst this;exact r.inj r'
theorem Inv.tuple_inj(I:Inv X pins σ H s)(h:SqT X.K H a xs)(h':SqT X.K H a ys):xs=ys:=by
 obtain⟨its,r,⟨o,e,_,n,d⟩,_⟩:=I.tuple h;obtain⟨its',r',⟨o',e',_,n',d'⟩,_⟩:=I.tuple h';rw[e] at e';cases e';rw[d] at d'
 injection d' with d1 _
 have:its=its':=by simpa using congrArg CD d1
 subst this;exact r.inj r'
end
abbrev Cx.wish(X:Cx)(E:Value->Shared->Prop):Cx:={X with xe:=E}
abbrev Cx.nox(X:Cx):Cx:=X.wish fun _ _=>False
theorem Cx.Ok.wish{X:Cx}(ok:X.Ok)(E:Value->Shared->Prop):(X.wish E).Ok:=
 ⟨ok.mod,ok.kind,ok.glob,ok.blt,ok.above,ok.inj,ok.has,ok.cab,ok.hd,ok.frames,ok.stk,ok.exf,ok.bs,ok.bsz,ok.noex,ok.exfs,ok.funs,ok.frf⟩
theorem Cx.Ok.unwish{X:Cx}{E:Value->Shared->Prop}(ok:(X.wish E).Ok):X.Ok:=
 ⟨ok.mod,ok.kind,ok.glob,ok.blt,ok.above,ok.inj,ok.has,ok.cab,ok.hd,ok.frames,ok.stk,ok.exf,ok.bs,ok.bsz,ok.noex,ok.exfs,ok.funs,ok.frf⟩
section
variable{X:Cx}{pins:List (Addr×Obj)}{σ:St}{H:Hp}{s:Shared}{E:Value->Shared->Prop}
theorem Inv.wish(I:Inv X pins σ H s)(E:Value->Shared->Prop):Inv (X.wish E) pins σ H s:=⟨I.ok.wish E,I.os,I.bare,I.base,I.loc,I.cell,I.free,I.freeC,I.pin,I.hok,I.len⟩
theorem Inv.unwish(I:Inv (X.wish E) pins σ H s):Inv X pins σ H s:=⟨I.ok.unwish,I.os,I.bare,I.base,I.loc,I.cell,I.free,I.freeC,I.pin,I.hok,I.len⟩
theorem SP.unwish{D:Ends}{f:Flow}{s':Shared}(h:SP (X.wish E) pins D f s'):SP X pins D f s':=by
 cases f with
 |next=>obtain⟨σ',H',I,q⟩:=h;exact⟨σ',H',I.unwish,q⟩
 |brk=>obtain⟨σ',H',I,q⟩:=h;exact⟨σ',H',I.unwish,q⟩
 |cont=>obtain⟨σ',H',I,q⟩:=h;exact⟨σ',H',I.unwish,q⟩
 |ret u=>obtain⟨v,σ',H',I,r,q⟩:=h;exact⟨v,σ',H',I.unwish,r,q⟩
theorem PSs.nox{st:List Stmt}{t:TS}(h:PSs X.nox st t):PSs X st t:=fun pins s σ H D I hw=>
 uL (h pins s σ H D (I.wish _) hw) (fun _ _ q=>q.unwish) fun _ _ z=>ui z
end
section
variable{X:Cx}{st:Stmt}{rest:List Stmt}{t u:TS}{e:Expr}{te:TE}{pos:Pos}
def tNext:TS:=fun D σ H=>D.nx σ H
def tSeq(t u:TS):TS:=fun D σ H=>t {D with nx:=u D} σ H
theorem zb5:PSs X [] tNext:=fun _ _ σ H _ I h=>vp ⟨σ,H,I,h⟩
theorem za7(h1:PS X st t)(h2:PSs X rest u):PSs X (st::rest) (tSeq t u):=by
 intro pins s σ H D I h;refine Aw (thn (h1 pins s σ H {D with nx:=u D} I h) fun f s1 q=>?_)
 cases f with
 |next=>
  obtain⟨σ',H',I',q⟩:=q;exact h2 pins s1 σ' H' D I' q
 |ret v=>exact q
 |brk=>exact q
 |cont=>exact q
theorem zae(h1:PS X st t):PSs X [st] t:=by
 intro pins s σ H D I h;refine Aw (thn (h1 pins s σ H D I h) fun f s1 q=>?_)
 cases f with
 |next=>exact vp q
 |ret v=>exact q
 |brk=>exact q
 |cont=>exact q
theorem Inv.quiet{pins:List (Addr×Obj)}{σ:St}{H:Hp}{s:Shared}(I:Inv X pins σ H s):interactive X.env=false:=by simp[interactive,I.ok.kind]
def tDrop(te:TE):TS:=fun D σ H=>te σ H fun _ H1=>D.nx σ H1
theorem zdz(he:PE X e te)(hs:swapsWith e none pos.line X.env=pure false:=by rfl):PS X (.Expr e pos) (tDrop te):=by
 intro pins s σ H D I h;exact wpAny_Expr_any (thn (he pins s σ H _ I h) fun v s1⟨x,H1,I1,r1,q1⟩=>⟨σ,H1,I1,q1⟩) I.quiet hs
def tRet(te:TE):TS:=fun D σ H=>te σ H D.rt
theorem zao(he:PE X e te):PS X (.Return (some e) pos) (tRet te):=by
 intro pins s σ H D I h;exact wpAny_Return_some (thn (he pins s σ H _ I h) fun v s1⟨x,H1,I1,r1,q1⟩=>⟨x,σ,H1,I1,r1,q1⟩)
def tRetN:TS:=fun D _ H=>D.rt .non H
def tIfS(c:TT)(t u:TS):TS:=fun D σ H=>c σ H fun b H1=>if b=true then t D σ H1 else u D σ H1
theorem ps_if{c:Expr}{a b:List Stmt}{tc:TT}(hc:PT X c tc)(ha:PSs X a t)(hb:PSs X b u):PS X (.If c a b pos) (tIfS tc t u):=by
 intro pins s σ H D I h;refine wpAny_If (thn (hc pins s σ H _ I h) fun d s1⟨H1,I1,q1⟩=>?_)
 cases d with
 |true=>exact ha pins s1 σ H1 D I1 q1
 |false=>exact hb pins s1 σ H1 D I1 q1
def tNever:TS:=fun _ _ _=>False
theorem ps_never:PS X st tNever:=fun _ _ _ _ _ _ h=>h.elim
end
abbrev TG:=V->St->Hp->(St->Hp->Prop)->Prop
abbrev TGs:=List V->St->Hp->(St->Hp->Prop)->Prop
def PG(X:Cx)(target:Expr)(t:TG):Prop:=
 ∀(pins:List (Addr×Obj))(s:Shared)(σ:St)(H:Hp)(v:V)(u:Value)(Q:St->Hp->Prop),Inv X pins σ H s->RelV v u->t v σ H Q->
  wpAny (model X.prog X.w) X.A (assign target X.env u) (fun _ s'=>∃σ' H',Inv X pins σ' H' s'/\Q σ' H') X.xe s
def PGs(X:Cx)(ts:List Expr)(t:TGs):Prop:=
 ∀(pins:List (Addr×Obj))(s:Shared)(σ:St)(H:Hp)(vs:List V)(us:List Value)(Q:St->Hp->Prop),Inv X pins σ H s->Vals vs us->t vs σ H Q->
  wpAny (model X.prog X.w) X.A (assignInOrder ((assignEach ts X.env).map (·.2)) us) (fun _ s'=>∃σ' H',Inv X pins σ' H' s'/\Q σ' H') X.xe s
abbrev TSet:=V->V->V->Hp->(Hp->Prop)->Prop
def PSet(X:Cx)(t:TSet):Prop:=
 ∀(pins:List (Addr×Obj))(s:Shared)(σ:St)(H:Hp)(o i v:V)(ov iv u:Value)(Q:Hp->Prop),Inv X pins σ H s->RelV o ov->RelV i iv->RelV v u->t o i v H Q->
  wpAny (model X.prog X.w) X.A (setItem ov iv u) (fun _ s'=>∃H',Inv X pins σ H' s'/\Q H') X.xe s
section
variable{X:Cx}{pos:Pos}
def gName(i:Nat):TG:=fun v σ H Q=>Q (σ.set i (some v)) H
theorem zby{i:Nat}{x:Str}(hN:X.N.Nodup)(hi:X.N[i]?=some x)(hx:Loc X.env.scope x)(hf:X.fn x=true∨X.env.scope.names.lookup x=some .local:=by first|exact .inl rfl|exact .inr rfl|assumption):PG X (.Name x pos) (gName i):=by
 intro pins s σ H v u Q I r h;exact AY (zfg I hN hi hx r (fun s' I'=>⟨_,H,I',h⟩) hf)
def gNil:TGs:=fun vs σ H Q=>vs=[]/\Q σ H
def gCons(t:TG)(u:TGs):TGs:=fun vs σ H Q=>∃v r,vs=v::r/\t v σ H fun σ' H'=>u r σ' H' Q
theorem zhj:PGs X [] gNil:=by
 intro pins s σ H vs us Q I r h;obtain⟨e,h⟩:=h;subst e
 cases r;exact AZ ⟨σ,H,I,h⟩
theorem zg5{e:Expr}{es:List Expr}{t:TG}{u:TGs}(h1:PG X e t)(h2:PGs X es u)
  (hs:(assignEach (e::es) X.env).map (·.2)=assign e X.env::(assignEach es X.env).map (·.2):=by rfl):PGs X (e::es) (gCons t u):=by
 intro pins s σ H vs us Q I r h;obtain⟨v,vr,e1,h⟩:=h;subst e1
 cases r with
 |cons r rr=>
  rw[hs];refine jJ (thn (h1 pins s σ H _ _ _ I r h) fun _ s1⟨σ1,H1,I1,q1⟩=>?_);exact h2 pins s1 σ1 H1 _ _ Q I1 rr q1
def gTup(K:kC)(n:Nat)(t:TGs):TG:=fun v σ H Q=>∃a xs,v=.ref a/\SqT K H a xs/\xs.length=n/\t xs σ H Q
theorem zl9{es:List Expr}{k:Nat}{t:TGs}{n:Nat}(hc:X.calm=true)(h:PGs X es t)
  (hn:(assignEach es X.env).length=n:=by rfl)(hst:(assignEach es X.env).findIdx? (·.1)=none:=by rfl):PG X (.Tuple es k pos) (gTup X.K n t):=by
 intro pins s σ H v u Q I r hw;obtain⟨a,xs,e1,hq,hl,hw⟩:=hw;subst e1
 cases r;obtain⟨its,rv,ht,hz⟩:=I.tuple hq;refine assign_Tuple_tuple (I.ok.hd hc) ht (by simp[hn,←hl,rv.length]) hst fun h' hx=>?_
 have I1:Inv X pins σ H {s with heap:=h'}:=I.kept (t':=s.toks) fun b o e=>hx b o (pD (kT e)) e;exact h pins _ σ H xs _ Q I1 (by simpa using rv) hw
def gSub(to ti:TE)(t:TSet):TG:=fun v σ H Q=>to σ H fun o H1=>ti σ H1 fun i H2=>t o i v H2 fun H3=>Q σ H3
theorem pg_sub{o i:Expr}{to ti:TE}{t:TSet}(ho:PE X o to)(hi:PE X i ti)(hs:PSet X t)
  (ha:∀v,assign (.Subscript o i pos) X.env v=(do
   let ov ←holding [v] (eval o X.env)
   let iv ←holding [v,ov] (eval i X.env)
   standAt pos
   holding [v,ov,iv] (setItem ov iv v)
   release [v,ov,iv] []):=by intro _;rfl):PG X (.Subscript o i pos) (gSub to ti t):=by
 intro pins s σ H v u Q I r h;rw[ha];refine kA (QY (thn (ho pins s σ H _ I h) fun ov s1⟨x,H1,I1,r1,q1⟩=>?_));refine kA (QY (thn (hi pins s1 σ H1 _ I1 q1) fun iv s2⟨y,H2,I2,r2,q2⟩=>?_));refine kA (vf (kA (QY (thn (hs pins s2 σ H2 x y v ov iv u _ I2 r1 r2 r q2) fun _ s3⟨H3,I3,q3⟩=>?_))));exact wpAny_release ⟨σ,H3,I3,q3⟩
def tAsg(te:TE)(g:TG):TS:=fun D σ H=>te σ H fun x H1=>g x σ H1 D.nx
theorem ps_asg{tg e:Expr}{te:TE}{g:TG}(he:PE X e te)(hg:PG X tg g)(hs:swapsWithSole [tg] e pos.line X.env=pure false:=by rfl)(hw:swappedStores [tg] e X.env=pure none:=by rfl)
  (h1:(assignEach [tg] X.env).map (·.2)=[assign tg X.env]:=by rfl):PS X (.Assign [tg] e pos) (tAsg te g):=by
 intro pins s σ H D I h;refine wpAny_Assign_stores (thn (he pins s σ H _ I h) fun v s1⟨x,H1,I1,r1,q1⟩=>?_) hs hw;rw[h1];exact thn (hg pins s1 σ H1 x v _ I1 r1 q1) fun _ s2 q=>q
theorem zbl{i:Nat}{x:Str}{e:Expr}{te:TE}{pos':Pos}(hN:X.N.Nodup)(hi:X.N[i]?=some x)(hx:Loc X.env.scope x)(he:PE X e te)(hs:swapsWith e (some (.Name x pos')) pos.line X.env=pure false:=by rfl)(hf:X.fn x=true∨X.env.scope.names.lookup x=some .local:=by first|exact .inl rfl|exact .inr rfl|assumption):
  PS X (.Assign [.Name x pos'] e pos) (tAsg te (gName i)):=by
 intro pins s σ H D I h;refine wpAny_Assign_Name (thn (he pins s σ H _ I h) fun v s1⟨y,H1,I1,r1,q1⟩=>?_) hs;exact zfg I1 hN hi hx r1 (fun s2 I2=>⟨_,H1,I2,q1⟩) hf
def tPar(i j:Nat)(ta:TA):TS:=fun D σ H=>ta σ H fun vs H1=>∃v w,vs=[v,w]/\D.nx ((σ.set i (some v)).set j (some w)) H1
theorem ps_par{i j:Nat}{x y:Str}{a b:Expr}{ta:TA}{px py pt:Pos}{kt k2 pt2}(hc:X.calm=true)(hN:X.N.Nodup)(hi:X.N[i]?=some x)(hj:X.N[j]?=some y)(hij:i≠j)
  (hx:X.env.scope.names.lookup x=some .local)(hy:X.env.scope.names.lookup y=some .local)(ha:PA X [a,b] ta)
  (hw:swappedStores [.Tuple [.Name x px,.Name y py] kt pt] (.Tuple [a,b] k2 pt2) X.env=pure (some [x,y]))
  (hs:swapsWithSole [.Tuple [.Name x px,.Name y py] kt pt] (.Tuple [a,b] k2 pt2) pos.line X.env=pure false:=by rfl):
  PS X (.Assign [.Tuple [.Name x px,.Name y py] kt pt] (.Tuple [a,b] k2 pt2) pos) (tPar i j ta):=by
 intro pins s σ H D I h;rw[exec_Assign_arm];refine kA (vf ?_);rw[hs];refine kA (kM ?_);rw[if_neg (by decide)]
 refine kA (Tuple_ (thn (ha _ pins s σ H _ I h) fun us s1⟨vs,H1,I1,r1,q1⟩=>?_));obtain⟨v,w,e1,q1⟩:=q1;subst e1;obtain⟨u1,u2,rfl,rv,rw'⟩:∃u1 u2,us=[u1,u2]/\RelV v u1/\RelV w u2:=by
  cases r1 with
  |cons p q=>
   cases q with
   |cons p' q'=>
    cases q';exact⟨_,_,rfl,p,p'⟩
 refine Qn ?_ (by show 2<=sizeLine;decide)
 have I2:Inv X pins σ H1 {s1 with heap:=s1.heap.push {cls:=.type "tuple",data:=.seq [u1,u2].toArray}}:=I1.kept (t':=s1.toks) fun b o e=>kF _ e;rw[hw];refine kA (kM ?_)
 show wpAny (model X.prog X.w) X.A (do rule "assign.swapped-stores";let items ←unpackItems (.ref s1.heap.objs.size) 2 none;assignInOrder [fun v=>bindName X.env y v,fun v=>bindName X.env x v] items.reverse;pure Flow.next) _ _ _
 refine kA (Qa (kA (unpackItems_tuple (items:=#[u1,u2]) (I.ok.hd hc) (Cc s1.heap _) fun h' hx'=>?_)));have I3:=I2.kept (h':=h') (t':=s1.toks) fun b o e=>hx' b o (pD (kT e)) e
 show wpAny _ _ (assignInOrder [fun v=>bindName X.env y v,fun v=>bindName X.env x v] [u2,u1]>>=fun _=>pure Flow.next) _ _ _
 refine kA (jJ (wpAny_bindName (zfg I3 hN hj (.inl hy) rw' (fun s2 I4=>?_) (.inr hy))));refine jJ (wpAny_bindName (zfg I4 hN hi (.inl hx) rv (fun s3 I5=>AZ (kM ?_)) (.inr hx)));rw[List.set_comm _ _ (UA hij)] at I5;exact⟨_,H1,I5,q1⟩
end
section
variable{X:Cx}{pos:Pos}
def tWhile(c:TT)(tb:TS):TS:=fun D σ H=>∃W:Nat->St->Hp->Prop,(∃m,W m σ H)/\∀m σ H,W m σ H->
 c σ H fun b H1=>if b=true then ∃N:St->Hp->Prop,(∀σ' H',N σ' H'->∃m',m'<m/\W m' σ' H')/\tb {D with nx:=N,ct:=N,bk:=D.nx} σ H1 else D.nx σ H1
theorem zjl{c:Expr}{body:List Stmt}{tc:TT}{tb:TS}(hp:PassesOwn (model X.prog X.w) X.A X.env X.xe)(hc:PT X c tc)(hb:PSs X body tb):PS X (.While c body [] pos) (tWhile tc tb):=by
 intro pins s σ H D I h;obtain⟨W,⟨m0,w0⟩,turn⟩:=h;refine wpAny_While (codeAny_whileLoop (fun n s'=>∃σ' H',Inv X pins σ' H' s'/\W n σ' H') ?_ m0 ⟨σ,H,I,w0⟩);rintro n s1 ⟨σ1,H1,I1,w1⟩;refine UE hp (thn (hc pins s1 σ1 H1 _ I1 (turn n σ1 H1 w1)) fun b s2⟨H2,I2,q2⟩=>?_)
 cases b with
 |true=>
  obtain⟨N,hN,q2⟩:=q2;rw[if_pos rfl];refine UE hp (thn (hb pins s2 σ1 H2 _ I2 q2) fun f s3 q3=>?_)
  cases f with
  |next=>
   obtain⟨σ3,H3,I3,n3⟩:=q3;obtain⟨m',hm,w3⟩:=hN σ3 H3 n3;exact⟨m',hm,σ3,H3,I3,w3⟩
  |cont=>
   obtain⟨σ3,H3,I3,n3⟩:=q3;obtain⟨m',hm,w3⟩:=hN σ3 H3 n3;exact⟨m',hm,σ3,H3,I3,w3⟩
  |brk=>exact q3
  |ret v=>exact q3
 |false=>
  rw[if_neg pF];exact vp ⟨σ1,H2,I2,q2⟩
end
structure It where
 go:Nat->Hp->Prop
 yld:Nat->Hp->V->Hp->Prop
 stop:Nat->Hp->Prop
def FpOk(X:Cx)(pins:List (Addr×Obj))(H:Hp)(b:Addr):Prop:=
 H b=none/\b≠X.env.locals/\b∉X.fs/\(b∈X.ex∨X.s₀.heap.objs.size<=b)/\(∀x c,X.env.cells.lookup x=some c->c≠b)/\∀p∈X.pn++pins,p.1≠b
theorem Inv.fpOk{X:Cx}{pins:List (Addr×Obj)}{σ:St}{H H':Hp}{s:Shared}{b:Addr}(I:Inv X pins σ H s)(hb:s.heap.objs.size<=b)(hn:H' b=none):FpOk X pins H' b:=by
 refine⟨hn,vO (ko I.lt hb),I.nofs hb,.inr (kz I.sz hb),fun x c e z=>?_,fun p hp z=>?_⟩
 ·obtain⟨v,q⟩:=I.cell x c e;exact absurd (ko q.lt (by rw[z];exact hb)) (QX _)
 ·exact absurd (ko (kT (I.pin p hp).1) (by rw[z];exact hb)) (QX _)
structure Turn(P:Program)(w:World)(K:kC)(tg:Expr)(J:It)(fp:List Addr)(it:Addr)(tn:Nat->Heap->Prop):Prop where
 mem:it∈fp
 obj:∀i h,tn i h->∀b∈fp,∃o,h.get? b=some o/\∀v,o.data≠.cell v
 keep:∀i h h',tn i h->(∀b∈fp,∀o,h.get? b=some o->h'.get? b=some o)->tn i h'
 item:∀(X:Cx),X.prog=P->X.w=w->X.K=K->X.calm=true->∀(i:Nat)(pins:List (Addr×Obj))(s:Shared)(σ:St)(H:Hp)(E:Value->Shared->Prop),Inv X pins σ H s->(∀b∈fp,FpOk X pins H b)->tn i s.heap->J.go i H->
  wpAny (model P w) X.A (pyNext (.ref it)) (fun r s1=>∃u,r=some u/\
   wpAny (model P w) X.A (letOwnedTupleGo tg (.ref it) u) (fun _ s2=>∃x H',Inv X pins σ H' s2/\RelV x u/\J.yld i H x H'/\tn (i+1) s2.heap/\∀b∈fp,H' b=none) E s1) E s
 done:∀(X:Cx),X.prog=P->X.w=w->X.K=K->X.calm=true->∀(i:Nat)(pins:List (Addr×Obj))(s:Shared)(σ:St)(H:Hp)(E:Value->Shared->Prop),Inv X pins σ H s->(∀b∈fp,FpOk X pins H b)->tn i s.heap->J.stop i H->
  wpAny (model P w) X.A (pyNext (.ref it)) (fun r s1=>r=none/\Inv X pins σ H s1) E s
 self:∀(A:Around)(i:Nat)(s:Shared)(Q:Value->Shared->Prop)(E:Value->Shared->Prop),tn i s.heap->Q (.ref it) s->wpAny (model P w) A (pyIter (.ref it)) Q E s
abbrev TI:=St->Hp->(It->Hp->Prop)->Prop
def PIE(X:Cx)(pins:List (Addr×Obj))(σ:St)(tg:Expr)(R:It->Hp->Prop)(itv:Value)(s2:Shared):Prop:=
 ∃(it:Addr)(fp:List Addr)(tn:Nat->Heap->Prop)(J:It)(H':Hp),itv=.ref it/\Inv X pins σ H' s2/\Turn X.prog X.w X.K tg J fp it tn/\tn 0 s2.heap/\(∀b∈fp,FpOk X pins H' b)/\R J H'
def PI(X:Cx)(tg iter:Expr)(wi:TI):Prop:=
 ∀(pins:List (Addr×Obj))(s:Shared)(σ:St)(H:Hp)(R:It->Hp->Prop),Inv X pins σ H s->wi σ H R->
  wpAny (model X.prog X.w) X.A (eval iter X.env) (fun v s1=>wpAny (model X.prog X.w) X.A (pyIter v) (PIE X pins σ tg R) X.xe s1) X.xe s
theorem go_of{M:Model}{A:Around}{E:Value->Shared->Prop}{s:Shared}{tg:Expr}{it:Addr}{u:Value}{o:Obj}{n:String}{vs:Array Value}{Q:Unit->Shared->Prop}(ho:s.heap.get? it=some o)(hc:o.cls=.type n)(hd:o.data=.fields vs)
  (hn:["enumerate","zip","dict_itemiterator","dict_reverseitemiterator","odict_iterator","itertools.zip_longest","itertools.pairwise"].contains n=false)(hQ:Q () s):wpAny M A (letOwnedTupleGo tg (.ref it) u) Q E s:=by
 unfold letOwnedTupleGo
 cases tg<;>first
  |exact kM hQ
  |(cases u<;>first
    |exact kM hQ
    |(refine kA (wpAny_load ho ?_)
      rw[hc,hd];show wpAny M A (if(["enumerate","zip","dict_itemiterator","dict_reverseitemiterator","odict_iterator","itertools.zip_longest","itertools.pairwise"].contains n&&vs[0]?==some (rawInt _))=true then _ else _) Q E s;rw[if_neg (by intro h;rw[hn,Bd] at h;cases h)]
      exact kM hQ))
def Itl(K:kC)(a:Addr):It:=
 ⟨fun i H=>∃xs x,SqL K H a xs/\xs[i]?=some x,fun i H x H'=>H'=H/\∀xs,SqL K H a xs->xs[i]?=some x,fun i H=>∃xs,SqL K H a xs/\xs.length<=i⟩
def Itt(K:kC)(a:Addr):It:=
 ⟨fun i H=>∃xs x,SqT K H a xs/\xs[i]?=some x,fun i H x H'=>H'=H/\∀xs,SqT K H a xs->xs[i]?=some x,fun i H=>∃xs,SqT K H a xs/\xs.length<=i⟩
def Itr(lo:Int)(n:Nat):It:=⟨fun i _=>i<n,fun i H x H'=>H'=H/\x=.int (lo+i),fun i _=>n<=i⟩
theorem turn_list{P:Program}{w:World}{K:kC}{tg:Expr}(a it:Addr):Turn P w K tg (Itl K a) [it] it (fun i h=>h.IsListIter it a i) where
 mem:=by simp
 obj:=fun i h st b hb=>by
  have e:b=it:=by simpa using hb
  subst e;obtain⟨o,e,c,d⟩:=st;exact⟨o,e,fun v z=>by rw[d] at z;cases z⟩
 keep:=fun i h h' st k=>st.at fun o e=>k it (by simp) o e
 item:=by
  intro X hP hw hK hc i pins s σ H E I hf st hg;subst hP hw hK;obtain⟨xs,x,hq,hx⟩:=hg;obtain⟨its,rv,p,hz⟩:=I.list hq;obtain⟨u,hu,ru⟩:=rv.get hx;obtain⟨f0,f1,f2,f3,f4,f5⟩:=hf it (by simp)
  refine wpAny_pyNext_list_item st p.isList (x:=u) (by simpa using hu) fun h' st' sb=>?_
  have I1:Inv X pins σ H {s with heap:=h'}:=I.turned (t':=s.toks) (fun b o hb e=>(sb.2 b hb).trans e) f0 f1 f3 f4 f5;obtain⟨o,e,c,d⟩:=id st';exact⟨u,rfl,go_of (s:={s with heap:=h'}) e c d (by decide) ⟨x,H,I1,ru,⟨rfl,fun ys hy=>by rw[I.list_inj hy hq];exact hx⟩,st',fun b hb=>(hf b hb).1⟩⟩
 done:=by
  intro X hP hw hK hc i pins s σ H E I hf st hg;subst hP hw hK;obtain⟨xs,hq,hx⟩:=hg;obtain⟨its,rv,p,hz⟩:=I.list hq;obtain⟨f0,f1,f2,f3,f4,f5⟩:=hf it (by simp)
  have hl:=rv.length;exact wpAny_pyNext_list_end (I.ok.hd hc) st p.isList (by simp;omega) fun h' eb=>⟨rfl,I.turned (t':=s.toks) (fun b o hb e=>eb b o hb e) f0 f1 f3 f4 f5⟩
 self:=fun _ _ _ _ _ st h=>wpAny_pyIter_listiter st h
theorem turn_tuple{P:Program}{w:World}{K:kC}{tg:Expr}(a it:Addr):Turn P w K tg (Itt K a) [it] it (fun i h=>h.IsTupleIter it a i) where
 mem:=by simp
 obj:=fun i h st b hb=>by
  have e:b=it:=by simpa using hb
  subst e;obtain⟨o,e,c,d⟩:=st;exact⟨o,e,fun v z=>by rw[d] at z;cases z⟩
 keep:=fun i h h' st k=>st.at fun o e=>k it (by simp) o e
 item:=by
  intro X hP hw hK hc i pins s σ H E I hf st hg;subst hP hw hK;obtain⟨xs,x,hq,hx⟩:=hg;obtain⟨its,rv,p,hz⟩:=I.tuple hq;obtain⟨u,hu,ru⟩:=rv.get hx;obtain⟨f0,f1,f2,f3,f4,f5⟩:=hf it (by simp)
  refine wpAny_pyNext_tuple_item st (show s.heap.IsTuple a its.toArray from p) (x:=u) (by simpa using hu) fun h' st' sb=>?_
  have I1:Inv X pins σ H {s with heap:=h'}:=I.turned (t':=s.toks) (fun b o hb e=>(sb.2 b hb).trans e) f0 f1 f3 f4 f5;obtain⟨o,e,c,d⟩:=id st';exact⟨u,rfl,go_of (s:={s with heap:=h'}) e c d (by decide) ⟨x,H,I1,ru,⟨rfl,fun ys hy=>by rw[I.tuple_inj hy hq];exact hx⟩,st',fun b hb=>(hf b hb).1⟩⟩
 done:=by
  intro X hP hw hK hc i pins s σ H E I hf st hg;subst hP hw hK;obtain⟨xs,hq,hx⟩:=hg;obtain⟨its,rv,p,hz⟩:=I.tuple hq;obtain⟨f0,f1,f2,f3,f4,f5⟩:=hf it (by simp)
  have hl:=rv.length;exact wpAny_pyNext_tuple_end (I.ok.hd hc) st (show s.heap.IsTuple a its.toArray from p) (by simp;omega) fun h' eb=>⟨rfl,I.turned (t':=s.toks) (fun b o hb e=>eb b o hb e) f0 f1 f3 f4 f5⟩
 self:=fun _ _ _ _ _ st h=>wpAny_pyIter_tupleiter st h
theorem turn_range{P:Program}{w:World}{K:kC}{tg:Expr}(it:Addr)(lo:Int)(n:Nat):Turn P w K tg (Itr lo n) [it] it (fun i h=>IsRangeIter h it (lo+(i:Nat)*1) ((n:Int)-(i:Nat)) 1) where
 mem:=by simp
 obj:=fun i h st b hb=>by
  have e:b=it:=by simpa using hb
  subst e;exact⟨_,st,fun v z=>by
   have z':BI _=jw v:=z
   cases z'⟩
 keep:=fun i h h' st k=>k it (by simp) _ st
 item:=by
  intro X hP hw hK hc i pins s σ H E I hf st hg;subst hP hw hK;obtain⟨f0,f1,f2,f3,f4,f5⟩:=hf it (by simp)
  have W:=Walks.range (prog:=X.prog) (w:=X.w) (I.ok.hd hc) it lo 1 n;refine W.item i s _ _ hg st fun v h' tk hv st' kk=>?_;obtain⟨t,rfl⟩:=hv;have I1:Inv X pins σ H {s with heap:=h',toks:=tk}:=I.turned (fun b o hb e=>kk b o (by simpa using hb) e) f0 f1 f3 f4 f5
  refine⟨_,rfl,go_of (s:={s with heap:=h',toks:=tk}) (n:="range_iterator") st' rfl rfl (by decide) ⟨.int (lo+i),H,I1,⟨t,?_⟩,⟨rfl,rfl⟩,st',fun b hb=>(hf b hb).1⟩⟩
  rw[Int.mul_one]
 done:=by
  intro X hP hw hK hc i pins s σ H E I hf st hg;subst hP hw hK;obtain⟨f0,f1,f2,f3,f4,f5⟩:=hf it (by simp)
  exact wpAny_pyNext_range_end (I.ok.hd hc) st (by have:n<=i:=hg;omega) fun h' eb=>⟨rfl,I.turned (t':=s.toks) (fun b o hb e=>eb b o hb e) f0 f1 f3 f4 f5⟩
 self:=fun _ _ _ _ _ st h=>wpAny_pyIter_rangeiter st h
section
variable{X:Cx}{tg:Expr}
def iList(K:kC)(tl:TE):TI:=fun σ H R=>tl σ H fun x H1=>∃a,x=.ref a/\(∃xs,SqL K H1 a xs)/\R (Itl K a) H1
def iTup(K:kC)(tl:TE):TI:=fun σ H R=>tl σ H fun x H1=>∃a,x=.ref a/\(∃xs,SqT K H1 a xs)/\R (Itt K a) H1
theorem zdl{l:Expr}{tl:TE}(hl:PE X l tl):PI X tg l (iList X.K tl):=by
 intro pins s σ H R I h;refine thn (hl pins s σ H _ I h) fun v s1⟨x,H1,I1,r1,q1⟩=>?_;obtain⟨a,e,⟨xs,hq⟩,q⟩:=q1;subst e
 cases r1;obtain⟨its,rv,p,hz⟩:=I1.list hq;refine Aa p.isList ?_;refine⟨s1.heap.objs.size,[s1.heap.objs.size],_,_,H1,rfl,I1.kept (t':=s1.toks) fun b o e=>kF _ e,turn_list a _,⟨_,kY _ rfl,rfl,rfl⟩,fun b hb=>?_,q⟩;have e:b=s1.heap.objs.size:=by simpa using hb
 subst e;exact I1.fpOk (kI _) (I1.hok.fresh (kI _))
theorem pi_tup{l:Expr}{tl:TE}(hl:PE X l tl):PI X tg l (iTup X.K tl):=by
 intro pins s σ H R I h;refine thn (hl pins s σ H _ I h) fun v s1⟨x,H1,I1,r1,q1⟩=>?_;obtain⟨a,e,⟨xs,hq⟩,q⟩:=q1;subst e
 cases r1;obtain⟨its,rv,p,hz⟩:=I1.tuple hq;refine jK (show s1.heap.IsTuple a its.toArray from p) ?_;refine⟨s1.heap.objs.size,[s1.heap.objs.size],_,_,H1,rfl,I1.kept (t':=s1.toks) fun b o e=>kF _ e,turn_tuple a _,⟨_,kY _ rfl,rfl,rfl⟩,fun b hb=>?_,q⟩;have e:b=s1.heap.objs.size:=by simpa using hb
 subst e;exact I1.fpOk (kI _) (I1.hok.fresh (kI _))
theorem zji{pins:List (Addr×Obj)}{σ:St}{H:Hp}{s:Shared}{R:It->Hp->Prop}{E:Value->Shared->Prop}{lo hi:Int}{t u v:Tok}{tk:Nat}(I:Inv X pins σ H s)(h1: -(2^62)<=lo)(h2:lo<2^62)(h3: -(2^62)<=hi)(h4:hi<2^62)
  (q:R (Itr lo (hi-lo).toNat) H):wpAny (model X.prog X.w) X.A (pyIter (.ref s.heap.objs.size)) (PIE X pins σ tg R) E {s with heap:=s.heap.push {cls:=.type "range",data:=.fields #[.int lo t,.int hi u,.int 1 v]},toks:=tk}:=by
 refine wpAny_pyIter_range (IsRange.new ..) (small_one h1 h2 h3 h4) ?_;have I1:Inv X pins σ H {s with heap:=s.heap.push {cls:=.type "range",data:=.fields #[.int lo t,.int hi u,.int 1 v]},toks:=tk}:=I.kept fun b o e=>kF _ e;refine⟨(s.heap.push {cls:=.type "range",data:=.fields #[.int lo t,.int hi u,.int 1 v]}).objs.size,[(s.heap.push {cls:=.type "range",data:=.fields #[.int lo t,.int hi u,.int 1 v]}).objs.size],_,_,H,rfl,
  I1.kept (t':=tk) fun b o e=>kF _ e,turn_range _ lo (hi-lo).toNat,?_,fun b hb=>?_,q⟩
 ·have e1:lo+((0:Nat):Int)*1=lo:=by simp
  have e2:(((hi-lo).toNat:Nat):Int)-((0:Nat):Int)=jx lo hi 1:=by rw[rangeSize_one];split<;>omega
  show IsRangeIter _ _ (lo+((0:Nat):Int)*1) ((((hi-lo).toNat:Nat):Int)-((0:Nat):Int)) 1
  rw[e1,e2];exact kY _ rfl
 ·have e:b=(s.heap.push {cls:=.type "range",data:=.fields #[.int lo t,.int hi u,.int 1 v]}).objs.size:=by simpa using hb
  subst e;exact I1.fpOk (kI _) (I1.hok.fresh (kI _))
def iRng1(ta:TA):TI:=fun σ H R=>ta σ H fun vs H1=>∃j:Int,vs=[.int j]/\ -(2^62)<=j/\j<2^62/\R (Itr 0 j.toNat) H1
def iRng2(ta:TA):TI:=fun σ H R=>ta σ H fun vs H1=>∃i j:Int,vs=[.int i,.int j]/\(-(2^62)<=i/\i<2^62/\ -(2^62)<=j/\j<2^62)/\R (Itr i (j-i).toNat) H1
theorem zdc{a:Expr}{ta:TA}{p pos:Pos}(hg:Gl X "range")(hm:X.mg "range"=none)(ha:PA X [a] ta)(hs:pX [a] X.env=[(false,eval a X.env)]:=by rfl):PI X tg (.Call (.Name "range" p) [a] [] pos) (iRng1 ta):=by
 intro pins s σ H R I h;refine Call_ (ze2 I hg hm Be (uS (thn (ha pos pins s σ H _ I h) fun us s1⟨vs,H1,I1,r1,q1⟩=>?_) hs rfl));obtain⟨j,e,q1,q2,q⟩:=q1;subst e
 cases r1 with
 |cons r rr=>
  cases rr;obtain⟨t,rfl⟩:=r;exact call_range_1 (zji I1 (by omega) (by omega) q1 q2 (by simpa using q))
theorem zij{a b:Expr}{ta:TA}{p pos:Pos}(hg:Gl X "range")(hm:X.mg "range"=none)(ha:PA X [a,b] ta)(hs:pX [a,b] X.env=[(false,eval a X.env),(false,eval b X.env)]:=by rfl)(hs2:pX [b] X.env=[(false,eval b X.env)]:=by rfl):
  PI X tg (.Call (.Name "range" p) [a,b] [] pos) (iRng2 ta):=by
 intro pins s σ H R I h;refine Call_ (ze2 I hg hm Be (uS (thn (ha pos pins s σ H _ I h) fun us s1⟨vs,H1,I1,r1,q1⟩=>?_) (by rw[hs,hs2]) (by rw[hs2];rfl)))
 obtain⟨i,j,e,⟨q1,q2,q3,q4⟩,q⟩:=q1;subst e
 cases r1 with
 |cons r rr=>
  cases rr with
  |cons r' rr=>
   cases rr;obtain⟨t,rfl⟩:=r;obtain⟨t',rfl⟩:=r';exact call_range_2 (zji I1 q1 q2 q3 q4 q)
def tFor(wi:TI)(g:TG)(tb:TS):TS:=fun D σ H=>wi σ H fun J H1=>∃W:Nat->Nat->St->Hp->Prop,(∃m,W 0 m σ H1)/\∀i m σ H,W i m σ H->
 (J.stop i H/\D.nx σ H)∨(J.go i H/\∃N:St->Hp->Prop,(∀σ' H',N σ' H'->∃m',m'<m/\W (i+1) m' σ' H')/\∀x H',J.yld i H x H'->g x σ H' fun σ2 H2=>tb {D with nx:=N,ct:=N,bk:=D.nx} σ2 H2)
def pinsAt(fp:List Addr)(h:Heap):List (Addr×Obj):=fp.filterMap fun b=>(h.get? b).map fun o=>(b,o)
theorem zem{fp:List Addr}{h:Heap}{b:Addr}{o:Obj}(hb:b∈fp)(e:h.get? b=some o):(b,o)∈pinsAt fp h:=List.mem_filterMap.mpr ⟨b,hb,by rw[e];rfl⟩
theorem of_pinsAt{fp:List Addr}{h:Heap}{p:Addr×Obj}(hp:p∈pinsAt fp h):p.1∈fp/\h.get? p.1=some p.2:=by
 obtain⟨b,hb,e⟩:=List.mem_filterMap.mp hp
 cases q:h.get? b with
 |none=>rw[q] at e;cases e
 |some o=>
  rw[q] at e;have e':(b,o)=p:=pJ e;subst e';exact⟨hb,q⟩
theorem Inv.pinned{pins:List (Addr×Obj)}{σ:St}{H:Hp}{s:Shared}{fp:List Addr}(I:Inv X pins σ H s)(hf:∀b∈fp,FpOk X pins H b)(ho:∀b∈fp,∃o,s.heap.get? b=some o/\∀v,o.data≠.cell v):Inv X (pins++pinsAt fp s.heap) σ H s:=
 I.pins_of fun p hp=>(kf.mp hp).elim (fun z=>I.pin p (kJ _ z)) fun z=>by
  obtain⟨hb,e⟩:=of_pinsAt z;obtain⟨f0,f1,f2,_⟩:=hf p.1 hb;obtain⟨o,e',d⟩:=ho p.1 hb;rw[e] at e';cases e';exact⟨e,f0,f1,f2,d⟩
theorem Inv.unpinned{pins pl:List (Addr×Obj)}{σ:St}{H:Hp}{s:Shared}(I:Inv X (pins++pl) σ H s):Inv X pins σ H s:=I.pins_of fun p hp=>I.pin p (kJ _ (pi _ hp))
theorem ze4{iter:Expr}{body:List Stmt}{wi:TI}{g:TG}{tb:TS}{pos:Pos}(hp:PassesOwn (model X.prog X.w) X.A X.env X.xe)(hc:X.calm=true)(hi:PI X tg iter wi)(hg:PG X tg g)(hb:PSs X body tb)
  (hs:∀x,foldedSetIterable iter X.env x=pure x:=by intro _;rfl):PS X (.For tg iter body [] pos) (tFor wi g tb):=by
 intro pins s σ H D I h;refine wpAny_For (thn (hi pins s σ H _ I h) fun v s1 h1=>thn h1 fun itv s2 h2=>?_) hs;obtain⟨it,fp,tn,J,H2,e,I2,T,st2,f2,W,⟨m0,w0⟩,turn⟩:=h2;subst e;have stat:∀{H':Hp},(∀b∈fp,H' b=none)->∀b∈fp,FpOk X pins H' b:=fun hn b hb=>⟨hn b hb,(f2 b hb).2⟩;refine codeAny_forLoop_any (fun n s'=>∃i σ' H',Inv X pins σ' H' s'/\tn i s'.heap/\(∀b∈fp,H' b=none)/\W i n σ' H') ?_ m0 ⟨0,σ,H2,I2,st2,fun b hb=>(f2 b hb).1,w0⟩;rintro n s3 ⟨i,σ3,H3,I3,st3,fr3,w3⟩;rcases turn i n σ3 H3 w3 with⟨stop,qn⟩|⟨go,N,hN,step⟩
 ·refine UE hp (thn (T.done X rfl rfl rfl hc i pins s3 σ3 H3 X.xe I3 (stat fr3) st3 stop) fun r s4⟨hr,I4⟩=>?_);subst hr;exact vp ⟨σ3,H3,I4,qn⟩
 ·refine UE hp (thn (T.item X rfl rfl rfl hc i pins s3 σ3 H3 X.xe I3 (stat fr3) st3 go) fun r s4⟨u,hr,h4⟩=>?_);subst hr;refine UE hp (thn h4 fun _ s5⟨x,H5,I5,r5,y5,st5,fr5⟩=>?_);have I5':=I5.pinned (stat fr5) (T.obj _ _ st5);refine UE hp (thn (hg _ s5 σ3 H5 x u _ I5' r5 (step x H5 y5)) fun _ s6⟨σ6,H6,I6,q6⟩=>?_);refine UE hp (thn (hb _ s6 σ6 H6 _ I6 q6) fun f s7 q7=>?_);have again:∀{σ7:St}{H7:Hp},Inv X (pins++pinsAt fp s5.heap) σ7 H7 s7->N σ7 H7->∃m,m<n/\∃i σ' H',Inv X pins σ' H' s7/\tn i s7.heap/\(∀b∈fp,H' b=none)/\W i m σ' H':=fun{σ7 H7} I7 n7=>by
   obtain⟨m',hm,w7⟩:=hN σ7 H7 n7;refine⟨m',hm,i+1,σ7,H7,I7.unpinned,T.keep _ _ _ st5 fun b hb o e=>(I7.pin (b,o) (kJ _ (kJ _ (zem hb e)))).1,fun b hb=>?_,w7⟩;obtain⟨o,e,d⟩:=T.obj _ _ st5 b hb;exact(I7.pin (b,o) (kJ _ (kJ _ (zem hb e)))).2.1
  cases f with
  |next=>obtain⟨σ7,H7,I7,n7⟩:=q7;exact again I7 n7
  |cont=>obtain⟨σ7,H7,I7,n7⟩:=q7;exact again I7 n7
  |brk=>obtain⟨σ7,H7,I7,q7⟩:=q7;exact⟨σ7,H7,I7.unpinned,q7⟩
  |ret v=>obtain⟨x7,σ7,H7,I7,r7,q7⟩:=q7;exact⟨x7,σ7,H7,I7.unpinned,r7,q7⟩
end
theorem for_list{K:kC}{a:Addr}{xs:List V}{g:TG}{tb:TS}{D:Ends}{σ:St}{H:Hp}(Pv:Nat->St->Hp->Prop)(h0:Pv 0 σ H)(hl:∀i σ H,i<=xs.length->Pv i σ H->SqL K H a xs)
  (hs:∀i x σ H,xs[i]?=some x->Pv i σ H->g x σ H fun σ2 H2=>tb {D with nx:=Pv (i+1),ct:=Pv (i+1),bk:=D.nx} σ2 H2)(hd:∀σ H,Pv xs.length σ H->D.nx σ H):
  ∃W:Nat->Nat->St->Hp->Prop,(∃m,W 0 m σ H)/\∀i m σ H,W i m σ H->
   ((Itl K a).stop i H/\D.nx σ H)∨((Itl K a).go i H/\∃N:St->Hp->Prop,(∀σ' H',N σ' H'->∃m',m'<m/\W (i+1) m' σ' H')/\∀x H',(Itl K a).yld i H x H'->g x σ H' fun σ2 H2=>tb {D with nx:=N,ct:=N,bk:=D.nx} σ2 H2):=by
 refine⟨fun i m σ H=>m=xs.length-i/\i<=xs.length/\Pv i σ H,⟨xs.length,by simp,pI _,h0⟩,?_⟩
 rintro i m σ H ⟨rfl,hi,p⟩;have q:=hl i σ H hi p
 by_cases hlt:i<xs.length
 ·refine .inr ⟨⟨xs,xs[i],q,by simp[hlt]⟩,Pv (i+1),fun σ' H' p'=>⟨xs.length-(i+1),by omega,rfl,hlt,p'⟩,fun x H' y=>?_⟩
  obtain⟨e,y⟩:=y;subst e;exact hs i x σ _ (y xs q) p
 ·have e:i=xs.length:=by omega
  subst e;exact .inl ⟨⟨xs,q,kI _⟩,hd σ H p⟩
theorem for_tup{K:kC}{a:Addr}{xs:List V}{g:TG}{tb:TS}{D:Ends}{σ:St}{H:Hp}(Pv:Nat->St->Hp->Prop)(h0:Pv 0 σ H)(hl:∀i σ H,i<=xs.length->Pv i σ H->SqT K H a xs)
  (hs:∀i x σ H,xs[i]?=some x->Pv i σ H->g x σ H fun σ2 H2=>tb {D with nx:=Pv (i+1),ct:=Pv (i+1),bk:=D.nx} σ2 H2)(hd:∀σ H,Pv xs.length σ H->D.nx σ H):
  ∃W:Nat->Nat->St->Hp->Prop,(∃m,W 0 m σ H)/\∀i m σ H,W i m σ H->
   ((Itt K a).stop i H/\D.nx σ H)∨((Itt K a).go i H/\∃N:St->Hp->Prop,(∀σ' H',N σ' H'->∃m',m'<m/\W (i+1) m' σ' H')/\∀x H',(Itt K a).yld i H x H'->g x σ H' fun σ2 H2=>tb {D with nx:=N,ct:=N,bk:=D.nx} σ2 H2):=by
 refine⟨fun i m σ H=>m=xs.length-i/\i<=xs.length/\Pv i σ H,⟨xs.length,by simp,pI _,h0⟩,?_⟩
 rintro i m σ H ⟨rfl,hi,p⟩;have q:=hl i σ H hi p
 by_cases hlt:i<xs.length
 ·refine .inr ⟨⟨xs,xs[i],q,by simp[hlt]⟩,Pv (i+1),fun σ' H' p'=>⟨xs.length-(i+1),by omega,rfl,hlt,p'⟩,fun x H' y=>?_⟩
  obtain⟨e,y⟩:=y;subst e;exact hs i x σ _ (y xs q) p
 ·have e:i=xs.length:=by omega
  subst e;exact .inl ⟨⟨xs,q,kI _⟩,hd σ H p⟩
theorem for_range{lo:Int}{n:Nat}{g:TG}{tb:TS}{D:Ends}{σ:St}{H:Hp}(Pv:Nat->St->Hp->Prop)(h0:Pv 0 σ H)
  (hs:∀i σ H,i<n->Pv i σ H->g (.int (lo+i)) σ H fun σ2 H2=>tb {D with nx:=Pv (i+1),ct:=Pv (i+1),bk:=D.nx} σ2 H2)(hd:∀σ H,Pv n σ H->D.nx σ H):
  ∃W:Nat->Nat->St->Hp->Prop,(∃m,W 0 m σ H)/\∀i m σ H,W i m σ H->
   ((Itr lo n).stop i H/\D.nx σ H)∨((Itr lo n).go i H/\∃N:St->Hp->Prop,(∀σ' H',N σ' H'->∃m',m'<m/\W (i+1) m' σ' H')/\∀x H',(Itr lo n).yld i H x H'->g x σ H' fun σ2 H2=>tb {D with nx:=N,ct:=N,bk:=D.nx} σ2 H2):=by
 refine⟨fun i m σ H=>m=n-i/\i<=n/\Pv i σ H,⟨n,by simp,pI _,h0⟩,?_⟩
 rintro i m σ H ⟨rfl,hi,p⟩
 by_cases hlt:i<n
 ·refine .inr ⟨hlt,Pv (i+1),fun σ' H' p'=>⟨n-(i+1),by omega,rfl,hlt,p'⟩,fun x H' y=>?_⟩
  obtain⟨e,y⟩:=y;subst e y;exact hs i σ _ hlt p
 ·have e:i=n:=by omega
  subst e;exact .inl ⟨kI _,hd σ H p⟩
theorem zjg{c:TT}{tb:TS}{D:Ends}{σ:St}{H:Hp}(Pv:St->Hp->Prop)(μ:St->Hp->Nat)(h0:Pv σ H)
  (hs:∀σ H,Pv σ H->c σ H fun b H1=>if b=true then tb {D with nx:=fun σ' H'=>Pv σ' H'/\μ σ' H'<μ σ H,ct:=fun σ' H'=>Pv σ' H'/\μ σ' H'<μ σ H,bk:=D.nx} σ H1 else D.nx σ H1)
  (mono:∀σ H Q Q',(∀b H1,Q b H1->Q' b H1)->c σ H Q->c σ H Q'):tWhile c tb D σ H:=by
 refine⟨fun m σ H=>m=μ σ H/\Pv σ H,⟨_,rfl,h0⟩,?_⟩;rintro m σ H ⟨rfl,p⟩;refine mono σ H _ _ (fun b H1 q=>?_) (hs σ H p)
 cases b with
 |true=>exact⟨_,fun σ' H'⟨p',l⟩=>⟨_,l,rfl,p'⟩,q⟩
 |false=>exact q
abbrev R2:=V->V->Hp->VK->Prop
def OpR(X:Cx)(f:Value->Value->Sem Value)(r:R2):Prop:=
 ∀(pins:List (Addr×Obj))(s:Shared)(σ:St)(H:Hp)(x y:V)(v u:Value)(Q:VK),Inv X pins σ H s->RelV x v->RelV y u->r x y H Q->
  wpAny (model X.prog X.w) X.A (f v u) (EP X pins σ Q) X.xe s
def UnR(X:Cx)(f:Value->Sem Value)(r:V->Hp->VK->Prop):Prop:=
 ∀(pins:List (Addr×Obj))(s:Shared)(σ:St)(H:Hp)(x:V)(v:Value)(Q:VK),Inv X pins σ H s->RelV x v->r x H Q->
  wpAny (model X.prog X.w) X.A (f v) (EP X pins σ Q) X.xe s
def CallR(X:Cx)(f:Value)(r:List V->Hp->VK->Prop):Prop:=
 ∀(pins:List (Addr×Obj))(s:Shared)(σ:St)(H:Hp)(xs:List V)(us:List Value)(Q:VK),Inv X pins σ H s->Vals xs us->r xs H Q->
  wpAny (model X.prog X.w) X.A (call f us) (EP X pins σ Q) X.xe s
def tOp(r:R2)(ta tb:TE):TE:=fun σ H Q=>ta σ H fun x H1=>tb σ H1 fun y H2=>r x y H2 Q
def tUn(r:V->Hp->VK->Prop)(ta:TE):TE:=fun σ H Q=>ta σ H fun x H1=>r x H1 Q
def rI(C:Int->Int->Prop)(g:Int->Int->V):R2:=fun x y H Q=>∃i j,x=.int i/\y=.int j/\C i j/\Q (g i j) H
def rI0(g:Int->Int->V):R2:=fun x y H Q=>∃i j,x=.int i/\y=.int j/\Q (g i j) H
def rU(g:Int->V):V->Hp->VK->Prop:=fun x H Q=>∃i,x=.int i/\Q (g i) H
section
variable{X:Cx}{a b c:Expr}{ta tb tc:TE}{pos:Pos}
theorem binT(ha:PE X a ta)(hb:PE X b tb){pins:List (Addr×Obj)}{s:Shared}{σ:St}{H:Hp}{R:V->V->Hp->Prop}(I:Inv X pins σ H s)
  (h:ta σ H fun x H1=>tb σ H1 fun y H2=>R x y H2){Q:Value->Shared->Prop}{f:Value->Value->Sem Value}
  (hf:∀v u s2 x y H2,Inv X pins σ H2 s2->RelV x v->RelV y u->R x y H2->wpAny (model X.prog X.w) X.A (f v u) Q X.xe s2):
  wpAny (model X.prog X.w) X.A (eval a X.env) (fun v s₁=>wpAny (model X.prog X.w) X.A (eval b X.env) (fun u s₂=>wpAny (model X.prog X.w) X.A (f v u) Q X.xe s₂) X.xe s₁) X.xe s:=by
 refine thn (ha pins s σ H _ I h) fun v s1⟨x,H1,I1,r1,q1⟩=>?_;refine thn (hb pins s1 σ H1 _ I1 q1) fun u s2⟨y,H2,I2,r2,q2⟩=>?_;exact hf v u s2 x y H2 I2 r1 r2 q2
theorem pe_op{op:Operator}{r:R2}(ho:OpR X (binaryOp op) r)(ha:PE X a ta)(hb:PE X b tb):PE X (.BinOp a op b pos) (tOp r ta tb):=by
 intro pins s σ H Q I h;exact wpAny_BinOp (binT ha hb I h fun v u s2 x y H2 I2 rx ry q=>ho pins s2 σ H2 x y v u Q I2 rx ry q)
theorem pe_un{op:UnaryOp}{r:V->Hp->VK->Prop}(ho:UnR X (unaryOp op) r)(ha:PE X a ta):PE X (.UnaryOp op a pos) (tUn r ta):=by
 intro pins s σ H Q I h;exact UnaryOp_ (thn (ha pins s σ H _ I h) fun v s1⟨x,H1,I1,r1,q1⟩=>ho pins s1 σ H1 x v Q I1 r1 q1)
theorem opI{f:Value->Value->Sem Value}{C:Int->Int->Prop}{g:Int->Int->Int}
  (rule:∀(i j:Int)(t u:Tok)(s:Shared)(Q:Value->Shared->Prop)(E:Value->Shared->Prop),C i j->Q (.int (g i j) s.toks) {s with toks:=s.toks+1}->wpAny (model X.prog X.w) X.A (f (.int i t) (.int j u)) Q E s):
  OpR X f (rI C fun i j=>.int (g i j)):=by
 intro pins s σ H x y v u Q I rx ry h;obtain⟨i,j,rfl,rfl,hc,q⟩:=h;obtain⟨t,rfl⟩:=rx;obtain⟨t',rfl⟩:=ry;exact rule i j t t' s _ _ hc ⟨.int (g i j),H,I.tok _,⟨_,rfl⟩,q⟩
theorem opI0{f:Value->Value->Sem Value}{g:Int->Int->Int}
  (rule:∀(i j:Int)(t u:Tok)(s:Shared)(Q:Value->Shared->Prop)(E:Value->Shared->Prop),Q (.int (g i j) s.toks) {s with toks:=s.toks+1}->wpAny (model X.prog X.w) X.A (f (.int i t) (.int j u)) Q E s):
  OpR X f (rI0 fun i j=>.int (g i j)):=by
 intro pins s σ H x y v u Q I rx ry h;obtain⟨i,j,rfl,rfl,q⟩:=h;obtain⟨t,rfl⟩:=rx;obtain⟨t',rfl⟩:=ry;exact rule i j t t' s _ _ ⟨.int (g i j),H,I.tok _,⟨_,rfl⟩,q⟩
theorem opB0{f:Value->Value->Sem Value}{g:Int->Int->Bool}
  (rule:∀(i j:Int)(t u:Tok)(s:Shared)(Q:Value->Shared->Prop)(E:Value->Shared->Prop),Q (.bool (g i j)) s->wpAny (model X.prog X.w) X.A (f (.int i t) (.int j u)) Q E s):
  OpR X f (rI0 fun i j=>.bl (g i j)):=by
 intro pins s σ H x y v u Q I rx ry h;obtain⟨i,j,rfl,rfl,q⟩:=h;obtain⟨t,rfl⟩:=rx;obtain⟨t',rfl⟩:=ry;exact rule i j t t' s _ _ ⟨.bl (g i j),H,I,rfl,q⟩
def CDiv(i j:Int):Prop:=0<j/\j<1073741824
def CPow(i j:Int):Prop:=0<=j/\j<=1000000/\i.natAbs<2^64
def CMul(i j:Int):Prop:=(-(2^64)<i/\i<2^64)∨(-(2^64)<j/\j<2^64)
theorem CMul.ok{i j:Int}(h:CMul i j):IntMulOk i j:=by
 rcases h with⟨h1,h2⟩|⟨h1,h2⟩
 ·exact .of_left (intBits_le_64 h1 h2)
 ·exact .of_right (intBits_le_64 h1 h2)
theorem zal:OpR X (binaryOp .Add) (rI0 fun i j=>.int (i+j)):=opI0 fun _ _ _ _ _ _ _ q=>add_int q
theorem zbn:OpR X (binaryOp .Sub) (rI0 fun i j=>.int (i-j)):=opI0 fun _ _ _ _ _ _ _ q=>sub_int q
theorem zer:OpR X (binaryOp .Mult) (rI CMul fun i j=>.int (i*j)):=opI fun _ _ _ _ _ _ _ hc q=>mul_int q hc.ok
theorem zba:OpR X (binaryOp .FloorDiv) (rI CDiv fun i j=>.int (i/j)):=opI fun i j _ _ _ _ _ hc q=>by
 have h1:(0:Int)<j:=hc.1;have h2:j<1073741824:=hc.2;exact floordiv_int (by omega) (by rw[Uj i (by omega)];exact q) (.inl (PyProof.noPylong_small (by omega)))
theorem zaw:OpR X (binaryOp .Mod) (rI (fun _ j=>0<j) fun i j=>.int (i%j)):=opI fun i j _ _ _ _ _ hc q=>by
 have h1:(0:Int)<j:=hc;exact mod_int' (by omega) (by rw[uG i (by omega)];exact q)
theorem zgo:OpR X (binaryOp .Mod) (rI (fun _ j=>j≠0) fun i j=>.int (i.fmod j)):=opI fun _ _ _ _ _ _ _ hc q=>mod_int' hc q
theorem zmk:OpR X (binaryOp .Pow) (rI CPow fun i j=>.int (i^j.toNat)):=opI fun _ _ _ _ _ _ _ hc q=>pow_int_small hc.1 hc.2.1 hc.2.2 q
theorem unI{f:Value->Sem Value}{g:Int->Int}
  (rule:∀(i:Int)(t:Tok)(s:Shared)(Q:Value->Shared->Prop)(E:Value->Shared->Prop),Q (.int (g i) s.toks) {s with toks:=s.toks+1}->wpAny (model X.prog X.w) X.A (f (.int i t)) Q E s):
  UnR X f (rU fun i=>.int (g i)):=by
 intro pins s σ H x v Q I rx h;obtain⟨i,rfl,q⟩:=h;obtain⟨t,rfl⟩:=rx;exact rule i t s _ _ ⟨.int (g i),H,I.tok _,⟨_,rfl⟩,q⟩
theorem zig:UnR X (unaryOp .USub) (rU fun i=>.int (-i)):=unI fun _ _ _ _ _ q=>neg_int q
end
def scal:V->V->Bool
 |.non,.non=>true|.non,.int _=>true|.int _,.non=>true|.non,.bl _=>true|.bl _,.non=>true|.non,.str _=>true|.str _,.non=>true
 |.int _,.int _=>true|.bl _,.bl _=>true|.str _,.str _=>true|.byt _,.byt _=>true
 |.int _,.str _=>true|.str _,.int _=>true|.bl _,.str _=>true|.str _,.bl _=>true
 |_,_=>false
def rEq:R2:=fun x y H Q=>scal x y=true/\Q (.bl (decide (x=y))) H
def rNe:R2:=fun x y H Q=>scal x y=true/\Q (.bl (!decide (x=y))) H
theorem zli{i j:Int}:decide (V.int i=V.int j)=(i==j):=by
 rw[Uc]
 simp
theorem zm3{i j:Bool}:decide (V.bl i=V.bl j)=(i==j):=by
 rw[Uc]
 simp
theorem zkx{i j:Str}:decide (V.str i=V.str j)=(i==j):=by
 rw[Uc]
 simp
theorem zlm{i j:Array UInt8}:decide (V.byt i=V.byt j)=(i.toList==j.toList):=by
 rw[Uc]
 cases i
 cases j
 simp
section
variable{X:Cx}{a b c:Expr}{ta tb tc:TE}{pos:Pos}
theorem zb9{pins:List (Addr×Obj)}{σ:St}{H:Hp}{s:Shared}{Q:VK}{k k':Bool}(I:Inv X pins σ H s)(q:Q (.bl k) H)(e:k=k'):EP X pins σ Q (.bool k') s:=by
 subst e;exact⟨.bl k,H,I,rfl,q⟩
theorem op_eq:OpR X (compareOp .Eq) rEq:=by
 intro pins s σ H x y v u Q I rx ry h;obtain⟨hs,q⟩:=h
 cases x with
 |non=>
  cases rx
  cases y with
  |non=>cases ry;exact PySem.EqNone.eq_none_none (zb9 I q (by simp))
  |bl j=>cases ry;exact PySem.EqNone.eq_none_bool (zb9 I q (by simp))
  |int j=>obtain⟨t',rfl⟩:=ry;exact PySem.EqNone.eq_none_int (zb9 I q (by simp))
  |str j=>obtain⟨t',rfl⟩:=ry;exact PySem.EqNone.eq_none_str (zb9 I q (by simp))
  |_=>exact absurd (show false=true from hs) pF
 |bl i=>
  cases rx
  cases y with
  |non=>cases ry;exact PySem.EqNone.eq_bool_none (zb9 I q (by simp))
  |bl j=>cases ry;exact eq_bool (zb9 I q zm3)
  |str j=>obtain⟨t',rfl⟩:=ry;exact PySem.EqMixed.eq_bool_str (zb9 I q (by simp))
  |_=>exact absurd (show false=true from hs) pF
 |int i=>
  obtain⟨t,rfl⟩:=rx
  cases y with
  |non=>cases ry;exact PySem.EqNone.eq_int_none (zb9 I q (by simp))
  |int j=>obtain⟨t',rfl⟩:=ry;exact eq_int (zb9 I q zli)
  |str j=>obtain⟨t',rfl⟩:=ry;exact PySem.EqMixed.eq_int_str (zb9 I q (by simp))
  |_=>exact absurd (show false=true from hs) pF
 |str i=>
  obtain⟨t,rfl⟩:=rx
  cases y with
  |non=>cases ry;exact PySem.EqNone.eq_str_none (zb9 I q (by simp))
  |bl j=>cases ry;exact PySem.EqMixed.eq_str_bool (zb9 I q (by simp))
  |int j=>obtain⟨t',rfl⟩:=ry;exact PySem.EqMixed.eq_str_int (zb9 I q (by simp))
  |str j=>obtain⟨t',rfl⟩:=ry;exact eq_str (zb9 I q zkx)
  |_=>exact absurd (show false=true from hs) pF
 |byt i=>
  obtain⟨t,rfl⟩:=rx
  cases y with
  |byt j=>obtain⟨t',rfl⟩:=ry;exact PySem.W.eq_bytes (zb9 I q zlm)
  |_=>exact absurd (show false=true from hs) pF
 |_=>cases y<;>exact absurd (show false=true from hs) pF
theorem op_ne:OpR X (compareOp .NotEq) rNe:=by
 intro pins s σ H x y v u Q I rx ry h;obtain⟨hs,q⟩:=h
 cases x with
 |non=>
  cases rx
  cases y with
  |non=>cases ry;exact PySem.EqNone.ne_none_none (zb9 I q (by simp))
  |bl j=>cases ry;exact PySem.EqNone.ne_none_bool (zb9 I q (by simp))
  |int j=>obtain⟨t',rfl⟩:=ry;exact PySem.EqNone.ne_none_int (zb9 I q (by simp))
  |str j=>obtain⟨t',rfl⟩:=ry;exact PySem.EqNone.ne_none_str (zb9 I q (by simp))
  |_=>exact absurd (show false=true from hs) pF
 |bl i=>
  cases rx
  cases y with
  |non=>cases ry;exact PySem.EqNone.ne_bool_none (zb9 I q (by simp))
  |bl j=>cases ry;exact ne_bool (zb9 I q (congrArg not zm3))
  |str j=>obtain⟨t',rfl⟩:=ry;exact PySem.EqMixed.ne_bool_str (zb9 I q (by simp))
  |_=>exact absurd (show false=true from hs) pF
 |int i=>
  obtain⟨t,rfl⟩:=rx
  cases y with
  |non=>cases ry;exact PySem.EqNone.ne_int_none (zb9 I q (by simp))
  |int j=>obtain⟨t',rfl⟩:=ry;exact ne_int (zb9 I q (congrArg not zli))
  |str j=>obtain⟨t',rfl⟩:=ry;exact PySem.EqMixed.ne_int_str (zb9 I q (by simp))
  |_=>exact absurd (show false=true from hs) pF
 |str i=>
  obtain⟨t,rfl⟩:=rx
  cases y with
  |non=>cases ry;exact PySem.EqNone.ne_str_none (zb9 I q (by simp))
  |bl j=>cases ry;exact PySem.EqMixed.ne_str_bool (zb9 I q (by simp))
  |int j=>obtain⟨t',rfl⟩:=ry;exact PySem.EqMixed.ne_str_int (zb9 I q (by simp))
  |str j=>obtain⟨t',rfl⟩:=ry;exact ne_str (zb9 I q (congrArg not zkx))
  |_=>exact absurd (show false=true from hs) pF
 |byt i=>
  obtain⟨t,rfl⟩:=rx
  cases y with
  |byt j=>obtain⟨t',rfl⟩:=ry;exact PySem.W.ne_bytes (zb9 I q (congrArg not zlm))
  |_=>exact absurd (show false=true from hs) pF
 |_=>cases y<;>exact absurd (show false=true from hs) pF
theorem op_lt:OpR X (compareOp .Lt) (rI0 fun i j=>.bl (decide (i<j))):=opB0 fun _ _ _ _ _ _ _ q=>lt_int q
theorem op_le:OpR X (compareOp .LtE) (rI0 fun i j=>.bl (decide (i<=j))):=opB0 fun _ _ _ _ _ _ _ q=>le_int q
theorem op_gt:OpR X (compareOp .Gt) (rI0 fun i j=>.bl (decide (j<i))):=opB0 fun _ _ _ _ _ _ _ q=>gt_int q
theorem op_ge:OpR X (compareOp .GtE) (rI0 fun i j=>.bl (decide (j<=i))):=opB0 fun _ _ _ _ _ _ _ q=>ge_int q
theorem op_isN:OpR X (compareOp .Is) (fun x y H Q=>y=.non/\Q (.bl (decide (x=.non))) H):=by
 intro pins s σ H x y v u Q I rx ry h;obtain⟨rfl,q⟩:=h
 cases ry;refine is_none_gen (zb9 I q ?_)
 cases x<;>first
  |(cases rx;rfl)
  |(obtain⟨t,rfl⟩:=rx;rfl)
theorem nomark(b:Expr){op:CmpOp}(h:op≠.In:=by decide)(h2:op≠.NotIn:=by decide):behindInMarks op b=false:=by
 have e1:(op==CmpOp.In)=false:=by cases op<;>first|rfl|exact absurd rfl h
 have e2:(op==CmpOp.NotIn)=false:=by cases op<;>first|rfl|exact absurd rfl h2
 cases b<;>simp[behindInMarks,e1,e2]
theorem zf0{op:CmpOp}{r:R2}(ho:OpR X (compareOp op) r)(ha:PE X a ta)(hb:PE X b tb)(hm:behindInMarks op b=false):PE X (.Compare a [op] [b] pos) (tOp r ta tb):=by
 intro pins s σ H Q I h;exact wpAny_Compare1 (binT ha hb I h fun v u s2 x y H2 I2 rx ry q=>ho pins s2 σ H2 x y v u Q I2 rx ry q) hm
def tTest(t:TE):TT:=fun σ H Q=>t σ H fun x H'=>∃k,x=.bl k/\Q k H'
theorem zav{op:CmpOp}{r:R2}(ho:OpR X (compareOp op) r)(ha:PE X a ta)(hb:PE X b tb)(hm:behindInMarks op b=false):PT X (.Compare a [op] [b] pos) (tTest (tOp r ta tb)):=by
 intro pins s σ H Q I h;refine gd (thn (ha pins s σ H _ I h) fun v s1⟨x,H1,I1,r1,q1⟩=>thn (hb pins s1 σ H1 _ I1 q1) fun u s2⟨y,H2,I2,r2,q2⟩=>
  thn (ho pins s2 σ H2 x y v u _ I2 r1 r2 q2) fun c s3⟨z,H3,I3,r3,k,e,q3⟩=>?_) hm
 subst e
 cases r3;exact UJ ⟨H3,I3,q3⟩
theorem line63:(sizeLine:Nat)<2^63:=by rw[je];decide
theorem vals1{x:V}{us:List Value}(r:Vals [x] us):∃u,us=[u]/\RelV x u:=by
 cases r with
 |cons r1 r2=>cases r2;exact⟨_,rfl,r1⟩
theorem vals2{x y:V}{us:List Value}(r:Vals [x,y] us):∃u w',us=[u,w']/\RelV x u/\RelV y w':=by
 cases r with
 |cons r1 r2=>
  cases r2 with
  |cons r3 r4=>cases r4;exact⟨_,_,rfl,r1,r3⟩
theorem zhk:CallR X (.builtin "abs") (fun xs H Q=>∃i,xs=[.int i]/\Q (.int (if i<0 then-i else i)) H):=by
 intro pins s σ H xs us Q I r h;obtain⟨i,rfl,q⟩:=h;obtain⟨u,rfl,t,rfl⟩:=vals1 r;exact call_abs_int fun u tk=>⟨.int (if i<0 then-i else i),H,I.tok _,⟨_,rfl⟩,q⟩
theorem call_max2(hc:X.calm=true):CallR X (.builtin "max") (fun xs H Q=>∃i j,xs=[.int i,.int j]/\Q (.int (if j>i then j else i)) H):=by
 intro pins s σ H xs us Q I r h;obtain⟨i,j,rfl,q⟩:=h;obtain⟨u,w',rfl,⟨t,rfl⟩,⟨t',rfl⟩⟩:=vals2 r;refine max_two_ints (I.ok.hd hc) fun h' tk k=>⟨_,H,I.kept k,?_,q⟩
 by_cases hj:j>i
 ·rw[if_pos hj,if_pos hj];exact⟨_,rfl⟩
 ·rw[if_neg hj,if_neg hj];exact⟨_,rfl⟩
theorem zim(hc:X.calm=true):CallR X (.builtin "min") (fun xs H Q=>∃i j,xs=[.int i,.int j]/\Q (.int (if j<i then j else i)) H):=by
 intro pins s σ H xs us Q I r h;obtain⟨i,j,rfl,q⟩:=h;obtain⟨u,w',rfl,⟨t,rfl⟩,⟨t',rfl⟩⟩:=vals2 r;refine min_two_ints (I.ok.hd hc) fun h' tk k=>⟨_,H,I.kept k,?_,q⟩
 by_cases hj:j<i
 ·rw[if_pos hj,if_pos hj];exact⟨_,rfl⟩
 ·rw[if_neg hj,if_neg hj];exact⟨_,rfl⟩
end
theorem RelO.some_of{v:V}{o:Option Value}(r:RelO (some v) o):∃u,o=some u/\RelV v u:=by
 cases o with
 |none=>exact(show False from r).elim
 |some u=>exact⟨u,rfl,r⟩
structure Room(k:Nat)(A:Around):Prop where
 hd:A.handled=none
 dp:A.depth+3*k+5<recursionLimit
 un:A.units+16*k+200<cLine
theorem Room.mono{j k:Nat}{A:Around}(r:Room k A)(h:j<=k):Room j A:=⟨r.hd,by have:=r.dp;omega,by have:=r.un;omega⟩
theorem Room.deeper{k:Nat}{A:Around}(r:Room (k+1) A)(env:Env):Room k (A.deeper env):=
 ⟨r.hd,by have:=r.dp;show A.depth+1+3*k+5<_;omega,by have:=r.un;show A.units+3+16*k+200<_;omega⟩
theorem Room.in1{k:Nat}{A:Around}(r:Room (k+1) A):Room k A.in1:=
 ⟨r.hd,by have:=r.dp;show A.depth+3*k+5<_;omega,by have:=r.un;show A.units+1+16*k+200<_;omega⟩
theorem Room.depth{k:Nat}{A:Around}(r:Room k A):A.depth<recursionLimit:=by have:=r.dp;omega
theorem Room.units{k:Nat}{A:Around}(r:Room k A):A.units+64<cLine:=by have:=r.un;omega
def tNil:TA:=fun _ H Q=>Q [] H
def tCons(ta:TE)(tr:TA):TA:=fun σ H Q=>ta σ H fun x H1=>tr σ H1 fun xs H2=>Q (x::xs) H2
section
variable{X:Cx}{e:Expr}{es:List Expr}{te:TE}{t:TA}{pos:Pos}
theorem zde:PA X [] tNil:=fun _ _ _ _ H Q I h=>Ab ⟨[],H,I,.nil,h⟩
theorem zc7(ha:PE X e te)(hr:PA X es t)(hs:pX (e::es) X.env=(false,eval e X.env)::pX es X.env:=by rfl):PA X (e::es) (tCons te t):=by
 intro pos pins s σ H Q I h;rw[hs];show wpAny _ _ (spliced ((false,eval e X.env)::backTo pos (pX es X.env))) _ _ s;refine AO (thn (ha pins s σ H _ I h) fun u s1⟨x,H1,I1,r1,q1⟩=>?_);exact thn (hr pos pins s1 σ H1 _ I1 q1) fun us s2⟨xs,H2,I2,r2,q2⟩=>⟨x::xs,H2,I2,.cons r1 r2,q2⟩
def tTup(t:TA):TE:=fun σ H Q=>t σ H fun xs H1=>xs.length<=sizeLine/\∀p,H1 p=none->Q (.ref p) (upd H1 p (.tup xs))
def tLst(t:TA):TE:=fun σ H Q=>t σ H fun xs H1=>xs.length<=sizeLine/\∀p,H1 p=none->Q (.ref p) (upd H1 p (.lst xs))
theorem zcu{x1}(h:PA X es t):PE X (.Tuple es x1 pos) (tTup t):=by
 intro pins s σ H Q I hq;refine wpAny_Tuple_spliced (thn (h pos pins s σ H _ I hq) fun us s1⟨xs,H1,I1,r,z,q⟩=>⟨by rw[←r.length];exact z,?_⟩)
 have hf:H1 s1.heap.objs.size=none:=I1.hok.fresh (kI _);refine⟨.ref s1.heap.objs.size,upd H1 s1.heap.objs.size (.tup xs),I1.laid (t':=s1.toks) (fun b u e=>kF _ e) (kI _) ?_,rfl,q _ hf⟩;exact⟨z,us,r,⟨_,kY _ rfl,rfl,_,rfl⟩⟩
theorem ze6(h:PA X es t):PE X (.List es pos) (tLst t):=by
 intro pins s σ H Q I hq;refine wpAny_List_spliced (thn (h pos pins s σ H _ I hq) fun us s1⟨xs,H1,I1,r,z,q⟩=>⟨by rw[←r.length];exact z,?_⟩)
 have hf:H1 s1.heap.objs.size=none:=I1.hok.fresh (kI _);refine⟨.ref s1.heap.objs.size,upd H1 s1.heap.objs.size (.lst xs),I1.laid (t':=s1.toks) (fun b u e=>kF _ e) (kI _) ?_,rfl,q _ hf⟩;exact⟨z,us,0,r,kY _ rfl⟩
end
abbrev Sp:=List V->Hp->VK->XK->Prop
abbrev CXT:=List Env->Hp->Shared->XK->Value->Shared->Prop
structure Env0(P:Program)(w:World)(K:kC)(mg:Str->Option Value)(base:Heap)(A:Around)(outer:List Env)(s:Shared)(H:Hp):Prop where
 frames:A.frames=some outer
 mod:Mod K mg base
 bs:∀b o,base.get? b=some o->s.heap.get? b=some o/\H b=none
 bsz:base.objs.size<=s.heap.objs.size
 funs:s.heap.FunFrames base outer
 frf:∀b∈frs outer,H b=none
 hok:HOk P w H s.heap
 bare:jd s.gens
def CE(outer:List Env)(P:Program)(w:World)(H:Hp)(s:Shared)(Q:VK)(u:Value)(s':Shared):Prop:=
 ∃v H',s'.os=s.os/\jd s'.gens/\Un (frs outer) [] H H' s.heap s'.heap/\HOk P w H' s'.heap/\RelV v u/\Q v H'
def CR(CX:CXT)(outer:List Env)(P:Program)(w:World)(H:Hp)(s:Shared)(Q:VK)(E:XK)(r:Result)(s':Shared):Prop:=
 match r with
 |.ok (.ret u)=>CE outer P w H s Q u s'
 |.ok _=>False
 |.error e=>CX outer H s E e s'
structure FnOk(P:Program)(w:World)(K:kC)(mg:Str->Option Value)(base:Heap)(CX:CXT)(k:Nat)(f:Addr)(fd:FuncData)(ps:List Str)(sp:Sp):Prop where
 len:∀vs H Q E,sp vs H Q E->vs.length=ps.length
 run:∀(A:Around)(outer:List Env)(s:Shared)(H:Hp)(args:Args)(us:List Value)(vs:List V)(Q:VK)(E:XK),Room k A->Env0 P w K mg base A outer s H->Ac s fd args (ps.zip us)->Vals vs us->sp vs H Q E->
  codeAny (model P w) A (.call (.ref f) args) (CR CX outer P w H s Q E) s
theorem Env0.in1{P:Program}{w:World}{K:kC}{mg:Str->Option Value}{base:Heap}{A:Around}{outer:List Env}{s:Shared}{H:Hp}(e:Env0 P w K mg base A outer s H):
  Env0 P w K mg base A.in1 outer s H:=⟨e.frames,e.mod,e.bs,e.bsz,e.funs,e.frf,e.hok,e.bare⟩
section
variable{X:Cx}{pins:List (Addr×Obj)}{σ:St}{H:Hp}{s s':Shared}
theorem Inv.env0(I:Inv X pins σ H s):Env0 X.prog X.w X.K X.mg X.base X.A X.stack s H:=
 ⟨I.ok.frames,I.ok.mod,I.bs,kz I.ok.bsz I.sz,I.stack,I.stkFree,I.hok,I.bare⟩
theorem Inv.after{Q:VK}{u:Value}(I:Inv X pins σ H s)(h:CE X.stack X.prog X.w H s Q u s'):EP X pins σ Q u s':=by
 obtain⟨v,H',os,bare,un,hok,r,q⟩:=h;obtain⟨hh,g,d,t,os'⟩:=s';obtain rfl:os'=s.os:=os;exact⟨v,H',I.call (h':=hh) (g':=g) (d':=d) (t':=t) (ch:=[]) un hok bare (fun b z=>absurd z (by simp)),r,q⟩
end
def tCall(sp:Sp)(dvs:List V)(E:XK)(t:TA):TE:=fun σ H Q=>t σ H fun vs H1=>sp (vs++dvs) H1 Q E
def Binds(K:kC)(fd:FuncData)(ps:List Str)(ds:List Value):Prop:=
 ∀(s:Shared)(us:List Value),K.In s.heap->(us++ds).length=ps.length->Ac s fd ⟨us,[]⟩ (ps.zip (us++ds))
theorem Binds.all{K:kC}{fd:FuncData}{ps:List Str}(h:∀us:List Value,us.length=ps.length->bindArgs fd ⟨us,[]⟩=pure (ps.zip us)):Binds K fd ps []:=fun s us _ hl=>by
 rw[QL] at hl⊢;exact .of_eq (h us hl)
def Passes(CX:CXT)(X:Cx)(E:XK):Prop:=∀(pins:List (Addr×Obj))(σ:St)(H:Hp)(s:Shared)(e:Value)(s':Shared),Inv X pins σ H s->CX X.stack H s E e s'->X.xe e s'
section
variable{X:Cx}{CX:CXT}{k:Nat}{f C:Addr}{fd:FuncData}{ps:List Str}{sp:Sp}{dvs:List V}{ds:List Value}{E:XK}{x m:Str}{p pos apos:Pos}{e o:Expr}{es:List Expr}{ta:TE}{t:TA}
theorem run_fn{pins:List (Addr×Obj)}{σ:St}{H:Hp}{s:Shared}{Q:VK}{us:List Value}{vs:List V}(F:FnOk X.prog X.w X.K X.mg X.base CX k f fd ps sp)(hr:Room k X.A)(hb:Binds X.K fd ps ds)(hd:Vals dvs ds)(hx:Passes CX X E)
  (I:Inv X pins σ H s)(r:Vals vs us)(h:sp (vs++dvs) H Q E):wpAny (model X.prog X.w) X.A (call (.ref f) us) (EP X pins σ Q) X.xe s:=by
 have r2:Vals (vs++dvs) (us++ds):=r.append hd;have hl:(us++ds).length=ps.length:=by rw[←r2.length];exact F.len _ _ _ _ h
 refine Bf (vP (F.run X.A X.stack s H ⟨us,[]⟩ (us++ds) (vs++dvs) Q E hr I.env0 (hb s us I.kIn hl) r2 h) fun r s' hq=>?_)
 cases r with
 |error e=>exact hx pins σ H s e s' I hq
 |ok fl=>
  cases fl with
  |ret u=>exact I.after hq
  |next=>exact ui hq
  |brk=>exact ui hq
  |cont=>exact ui hq
theorem zb3(F:FnOk X.prog X.w X.K X.mg X.base CX k f fd ps sp)(hr:Room k X.A)(hg:Gl X x)(hm:X.mg x=some (.ref f))(hk:kX X.K (.ref f)=true)(hb:Binds X.K fd ps ds)(hd:Vals dvs ds)(hx:Passes CX X E)
  (ha:PA X (e::es) t)(hdb:(x==("__debug__":Str))=false:=by decide)(he:pX (e::es) X.env=(false,eval e X.env)::pX es X.env:=by rfl)(hpl:(backTo pos (pX es X.env)).any (·.1)=false:=by rfl):
  PE X (.Call (.Name x p) (e::es) [] pos) (tCall sp dvs E t):=by
 intro pins s σ H Q I h;refine Qw (ld_glob I hg hm ?_ hdb);refine PySem.W.callWith_K (h₀:=X.base) I.ok.mod.kin hk (thn (ha pos pins s σ H _ I h) fun us s1⟨vs,H1,I1,r,q⟩=>⟨I1.kIn,?_⟩) he hpl;exact run_fn F hr hb hd hx I1 r q
end
def PK(X:Cx)(kws:List Keyword)(t:TA):Prop:=
 ∀(pos:Pos)(pins:List (Addr×Obj))(s:Shared)(σ:St)(H:Hp)(Q:List V->Hp->Prop),Inv X pins σ H s->t σ H Q->wpAny (model X.prog X.w) X.A (evalAll ((backToKw pos (keywordEach kws X.env)).map (·.2))) (AP X pins σ Q) X.xe s
section
variable{X:Cx}{CX:CXT}{k:Nat}{f C:Addr}{fd:FuncData}{ps ks:List Str}{sp:Sp}{E:XK}{x m:Str}{p pos apos kpos:Pos}{e o:Expr}{es:List Expr}{kws:List Keyword}{te ta:TE}{t tk:TA}{nm:Option Str}
theorem pk_nil:PK X [] tNil:=fun _ _ _ _ H Q I h=>wpAny_evalAll_nil ⟨[],H,I,.nil,h⟩
theorem pk_cons(ha:PE X e te)(hr:PK X kws t):PK X (⟨nm,e,kpos⟩::kws) (tCons te t):=by
 intro pos pins s σ H Q I h;show wpAny _ _ (evalAll ((do let v ←eval e X.env;standAt pos;pure v)::(backToKw pos (keywordEach kws X.env)).map (·.2))) _ _ s;refine wpAny_evalAll_cons (kA (thn (ha pins s σ H _ I h) fun u s1⟨x,H1,I1,r1,q1⟩=>kA (vf (kM ?_))));exact thn (hr pos pins s1 σ H1 _ I1 q1) fun us s2⟨xs,H2,I2,r2,q2⟩=>⟨x::xs,H2,I2,.cons r1 r2,q2⟩
variable{g:List Value->List Value->List Value}{gV:List V->List V->List V}
end
structure FnScope(N P:List Str)(sc:Scope):Prop where
 kind:sc.kind=.function
 co:sc.isCoroutine=false
 gen:sc.isGenerator=false
 nd:N.Nodup
 pre:N.take P.length=P
 par:∀x∈P,sc.names.lookup x=some .local∨sc.names.lookup x=some .cell
 nofree:∀y∈sc.names,y.2≠.free
theorem zib{kindOf:Str->Option NameKind}{x:Str}:∀{binds:List (Str×Value)}{m:Str->Option Value},(∀v,(x,v)∉binds)->bindL kindOf binds m x=m x
 |[],_,_=>rfl
 |(n,v)::r,m,h=>by
  unfold bindL;rw[zib fun w hw=>h w (pB _ hw)]
  split
  ·have:x≠n:=by rintro rfl;exact h v ku
   simp[this]
  ·rfl
theorem zik{kindOf:Str->Option NameKind}{x:Str}:∀{binds:List (Str×Value)}{m:Str->Option Value},(∀v,(x,v)∉binds)->bindC kindOf binds m x=m x
 |[],_,_=>rfl
 |(n,v)::r,m,h=>by
  unfold bindC;rw[zik fun w hw=>h w (pB _ hw)]
  split
  ·rfl
  ·have:x≠n:=by rintro rfl;exact h v ku
   simp[this]
theorem zi0{kindOf:Str->Option NameKind}{x:Str}{v:Value}:∀{P:List Str}{vs:List Value}{i:Nat}{m:Str->Option Value},P.Nodup->P[i]?=some x->vs[i]?=some v->kindOf x=some .local->
  bindL kindOf (P.zip vs) m x=some v
 |[],_,_,_,_,h,_,_=>by simp at h
 |_::_,[],_,_,_,_,h,_=>by simp at h
 |p::P,w::vs,0,m,nd,h1,h2,hk=>by
  simp at h1 h2;subst h1;subst h2
  show bindL kindOf ((p,w)::P.zip vs) m p=_
  unfold bindL;rw[zib fun v hv=>(Ud.mp nd).1 (vq hv).1,if_pos hk]
  simp
 |p::P,w::vs,i+1,m,nd,h1,h2,hk=>by
  show bindL kindOf ((p,w)::P.zip vs) m x=_
  unfold bindL;exact zi0 (i:=i) (Ud.mp nd).2 (by simpa using h1) (by simpa using h2) hk
theorem zi3{kindOf:Str->Option NameKind}{x:Str}{v:Value}:∀{P:List Str}{vs:List Value}{i:Nat}{m:Str->Option Value},P.Nodup->P[i]?=some x->vs[i]?=some v->kindOf x≠some .local->
  bindC kindOf (P.zip vs) m x=some v
 |[],_,_,_,_,h,_,_=>by simp at h
 |_::_,[],_,_,_,_,h,_=>by simp at h
 |p::P,w::vs,0,m,nd,h1,h2,hk=>by
  simp at h1 h2;subst h1;subst h2
  show bindC kindOf ((p,w)::P.zip vs) m p=_
  unfold bindC;rw[zik fun v hv=>(Ud.mp nd).1 (vq hv).1,if_neg hk]
  simp
 |p::P,w::vs,i+1,m,nd,h1,h2,hk=>by
  show bindC kindOf ((p,w)::P.zip vs) m x=_
  unfold bindC;exact zi3 (i:=i) (Ud.mp nd).2 (by simpa using h1) (by simpa using h2) hk
def start(N:List Str)(vs:List V):St:=vs.map some++Uk (N.length-vs.length) none
def cxOf(CX:CXT)(P:Program)(w:World)(K:kC)(mg:Str->Option Value)(base:Heap)(N:List Str)(qual:Str)(scope:Scope)(f:Addr)(cd:Value)(A:Around)(outer:List Env)(s:Shared)(H:Hp)(E:XK):Cx where
 prog:=P
 w:=w
 K:=K
 mg:=mg
 base:=base
 A:=A.deeper (envOfC qual scope s.heap.objs.size f cd)
 N:=N
 s₀:=s
 H₀:=H
 env:=envOfC qual scope s.heap.objs.size f cd
 outer:=outer
 stack:=envOfC qual scope s.heap.objs.size f cd::outer
 ex:=[]
 calm:=true
 fn:=fun _=>true
 pn:=[]
 xe:=fun e s'=>wpAny (model P w) (A.deeper (envOfC qual scope s.heap.objs.size f cd)) (leaving (envOfC qual scope s.heap.objs.size f cd) e) (fun _ s''=>CX outer H s E e s'') (fun e' s''=>CX outer H s E e' s'') s'
theorem zjy{sc:Scope}{n:Nat}{x:Str}(h:sc.names.lookup x=some .cell):∃c,(cellsFrom n sc.names []).lookup x=some c:=by
 have q:=gE sc.names n [] (.inl h);exact jl.mp q
theorem inv_start{CX:CXT}{P:Program}{w:World}{K:kC}{mg:Str->Option Value}{base:Heap}{N ps:List Str}{qual:Str}{scope:Scope}{f:Addr}{cd:Value}{A:Around}{outer:List Env}{s s1:Shared}{H:Hp}{E:XK}{us:List Value}{vs:List V}
  (S:FnScope N ps scope)(hd:A.handled=none)(e0:Env0 P w K mg base A outer s H)(hl:vs.length=ps.length)(r:Vals vs us)
  (x:InCallC s s.heap.objs.size (bindL (envOfC qual scope s.heap.objs.size f cd).kindOf (ps.zip us) fun _=>none) (cellsFrom (s.heap.objs.size+1) scope.names []) (bindC (envOfC qual scope s.heap.objs.size f cd).kindOf (ps.zip us) fun _=>none) s1):
  Inv (cxOf CX P w K mg base N qual scope f cd A outer s H E) [] (start N vs) H s1:=by
 have hpl:ps.length<=N.length:=by have:=congrArg vK S.pre;rw[kP] at this;omega
 obtain⟨h1,tk,rfl,hk⟩:=x.done;have noA:∀b:Addr,b∉(cxOf CX P w K mg base N qual scope f cd A outer s H E).ex:=fun b z=>absurd (show b∈([]:List Addr) from z) (by simp)
 refine⟨⟨e0.mod,S.kind,rfl,rfl,kI _,fun y z c h1 h2=>?_,fun y hy=>?_,fun y c _ h=>?_,fun _=>hd,vj e0.frames,.inr ⟨rfl,rfl⟩,fun b z=>absurd z (noA b),e0.bs,e0.bsz,fun b _ _=>noA b,fun b z=>absurd z (noA b),e0.funs,e0.frf⟩,
  rfl,e0.bare,Un.kept hk,⟨_,x.toInCall.ns,fun i y v h1 h2 h3=>?_⟩,fun y c h=>⟨_,x.cell y c h⟩,e0.hok.fresh (kI _),fun y c h=>?_,fun p hp=>absurd (show p∈([]:List (Addr×Obj)) from hp) (by simp),e0.hok.kept hk,?_⟩
 ·exact name_of_addr x.apart (pe h1) (pe h2)
 ·have hy:scope.names.lookup y=some .cell∨scope.names.lookup y=some .free:=hy;rcases hy with hy|hy
  ·exact zjy hy
  ·exact absurd rfl (S.nofree _ (pe hy))
 ·exact uI (x.above y c (pe h))
 ·have hi:i<vs.length:=by
   unfold start at h2
   by_cases hi:i<vs.length
   ·exact hi
   ·rw[uV (by simpa using hi)] at h2
    rw[jy] at h2
    split at h2<;>cases h2
  have ha:vs[i]?=some v:=by
   unfold start at h2;rw[uY (by simpa using hi),ke] at h2
   cases e:vs[i]? with
   |none=>rw[e] at h2;cases h2
   |some a=>rw[e] at h2;cases h2;rfl
  obtain⟨u,hu,rv⟩:=r.get ha;have hp:ps[i]?=some y:=by
   rw[←S.pre,List.getElem?_take_of_lt (by omega)];exact h1
  have ndP:ps.Nodup:=by rw[←S.pre];exact S.nd.sublist (Ad _ _)
  refine⟨u,rv,?_⟩;rcases S.par y (kg hp) with k|k
  ·exact .inl ⟨k,zi0 ndP hp hu k⟩
  ·obtain⟨c,e⟩:=zjy (n:=s.heap.objs.size+1) k;refine .inr ⟨.inl k,c,e,?_⟩;have q:=x.cell y c e;rw[zi3 ndP hp hu (by show scope.names.lookup y≠_;rw[k];decide)] at q
   exact q
 ·exact e0.hok.fresh (uI (x.above y c (pe h)))
 ·unfold start;show _=N.length;rw[kK,kN,UB];omega
theorem fn_of{CX:CXT}{P:Program}{w:World}{K:kC}{mg:Str->Option Value}{base:Heap}{k:Nat}{f:Addr}{name qual:Str}{params:Arguments}{body:List Stmt}{scope:Scope}{dV kV doc pm cdv ct oc:Value}{an od:Option Addr}
  {osl:Array (Option Value)}{N ps:List Str}{sp:Sp}(lk:K.lookup f=some ⟨oc,od,.func (kH name qual params body scope dV kV doc pm an cdv ct),osl⟩)(hcd:kW K cdv qual=true)(S:FnScope N ps scope)
  (len:∀vs H Q E,sp vs H Q E->vs.length=ps.length)
  (hbody:∀(A:Around)(outer:List Env)(s:Shared)(H:Hp)(vs:List V)(Q:VK)(E:XK),Room k (A.deeper (envOfC qual scope s.heap.objs.size f cdv))->sp vs H Q E->
   ∃t,PSs (cxOf CX P w K mg base N qual scope f cdv A outer s H E) body t/\t {nx:=fun _ H'=>Q .non H',rt:=Q} (start N vs) H):
  FnOk P w K mg base CX (k+1) f (kH name qual params body scope dV kV doc pm an cdv ct) ps sp:=by
 refine⟨len,fun A outer s H args us vs Q E hr e0 hb r hsp=>?_⟩;have hl:=len _ _ _ _ hsp;have KX:K.In s.heap:=e0.mod.kin.keeps fun b o e=>(e0.bs b o e).1;have lim:s.heap.NoLimit:=e0.mod.nolimit.keeps fun b o e=>(e0.bs b o e).1;have hkind:∀y∈ps.zip us,scope.names.lookup y.1=some .local∨(scope.names.lookup y.1=some .cell/\((cellsFrom (s.heap.objs.size+1) scope.names []).lookup y.1).isSome=true):=fun⟨n,v⟩ hy=>by
  rcases S.par n (vq hy).1 with q|q
  ·exact .inl q
  ·exact .inr ⟨q,gE _ _ _ (.inl q)⟩
 refine codeAny_call_function hr.depth (KX _ _ lk) rfl S.co S.gen rfl (PySem.W.codeRec_of KX hcd) (hb _ _ _ _ ?_);refine wpAny_newFunctionEnv_cells S.kind hkind fun env he s1 x=>?_;subst he;refine⟨lim.keeps x.toInCall.keep,codeAny_func ?_⟩;obtain⟨t,ht,hq⟩:=hbody A outer s H vs Q E (hr.deeper _) hsp;have I:Inv (cxOf CX P w K mg base N qual scope f cdv A outer s H E) [] (start N vs) H s1:=inv_start S hr.hd e0 hl r x;refine uL (ht [] s1 (start N vs) H _ I hq) (fun fl s' hs=>?_) fun e s' hs=>hs;have fin:∀{σ':St}{H':Hp}{v:V}{u:Value},Inv (cxOf CX P w K mg base N qual scope f cdv A outer s H E) [] σ' H' s'->RelV v u->Q v H'->CE outer P w H s Q u s':=
  fun{σ' H' v u} J rv q=>⟨v,H',J.os,J.bare,J.base,J.hok,rv,q⟩
 cases fl with
 |ret u=>
  obtain⟨v,σ',H',J,rv,q⟩:=hs;exact fin J rv q
 |next=>
  obtain⟨σ',H',J,q⟩:=hs;exact fin (v:=V.non) (u:=pT) J rfl q
 |brk=>
  obtain⟨_,_,_,q⟩:=hs;exact ui q
 |cont=>
  obtain⟨_,_,_,q⟩:=hs;exact ui q
section
variable{X:Cx}{x:Str}{p pos:Pos}{e:Expr}{es:List Expr}{t:TA}{id T:String}{r:List V->Hp->VK->Prop}
def tCB(r:List V->Hp->VK->Prop)(t:TA):TE:=fun σ H Q=>t σ H fun vs H1=>r vs H1 Q
theorem zc5(hc:CallR X (.builtin id) r)(hg:Gl X x)(hm:X.mg x=none)(hv:bootBuiltins x=some (.builtin id))(ha:PA X (e::es) t)(hn:x≠"__name__":=by decide)(hdb:(x==("__debug__":Str))=false:=by decide)
  (he:pX (e::es) X.env=(false,eval e X.env)::pX es X.env:=by rfl) (hpl:(backTo pos (pX es X.env)).any (·.1)=false:=by rfl):PE X (.Call (.Name x p) (e::es) [] pos) (tCB r t):=by
 intro pins s σ H Q I h;refine Qw (ze2 I hg hm hv ?_ hn hdb);exact PyProof.Rows.callWith_builtin1 (thn (ha pos pins s σ H _ I h) fun us s1⟨vs,H1,I1,r1,q1⟩=>hc pins s1 σ H1 vs us Q I1 r1 q1) he hpl
theorem zgf(hc:CallR X (.type T) r)(hg:Gl X x)(hm:X.mg x=none)(hv:bootBuiltins x=some (.type T))(ha:PA X (e::es) t)(hn:x≠"__name__":=by decide)(hdb:(x==("__debug__":Str))=false:=by decide)
  (he:pX (e::es) X.env=(false,eval e X.env)::pX es X.env:=by rfl) (hpl:(backTo pos (pX es X.env)).any (·.1)=false:=by rfl):PE X (.Call (.Name x p) (e::es) [] pos) (tCB r t):=by
 intro pins s σ H Q I h;refine Qw (ze2 I hg hm hv ?_ hn hdb);exact uS (thn (ha pos pins s σ H _ I h) fun us s1⟨vs,H1,I1,r1,q1⟩=>hc pins s1 σ H1 vs us Q I1 r1 q1) he hpl
end
end L2
namespace HT
open PySem PyProof.Rows
def lexLt:List Int->List Int->Bool
 |[],[]=>false
 |[],_::_=>true
 |_::_,[]=>false
 |x::xs,y::ys=>if x=y then lexLt xs ys else decide (x<y)
theorem lexLt_cons(x y:Int)(xs ys:List Int):lexLt (x::xs) (y::ys)=if x=y then lexLt xs ys else decide (x<y):=rfl
theorem lexLt_nil_nil:lexLt [] []=false:=rfl
theorem eqAt_int(A:Around)(s:Shared)(a:Int)(t:Tok)(c:Int)(u:Tok):∃e,SeqAt.EqAt A s (.int a t) (.int c u) e/\(e=true↔a=c):=
 ⟨(a==c),SeqAt.EqAt.int_int a t c u,by simp⟩
section
variable{prog:Program}{w:World}{A:Around}{E:Value->Shared->Prop}{s:Shared}
theorem cat_tup{t b:Addr}{vs ws:List Value}{Q:Value->Shared->Prop}(ht:IsTup s.heap t vs.toArray)(hb:IsTup s.heap b ws.toArray)(hv:vs≠[])
  (h1:ws=[]->Q (.ref t) s)(h2:ws≠[]->Q (.ref s.heap.objs.size) {s with heap:=s.heap.push {cls:=.type "tuple",data:=.seq (vs++ws).toArray}})
  (hsz:vs.length+ws.length<=sizeLine):wpAny (model prog w) A (binaryOp .Add (.ref t) (.ref b)) Q E s:=by
 obtain⟨⟨cls,dd,data,sl⟩,ho,hc,n,hd⟩:=id ht;obtain⟨⟨cls2,dd2,data2,sl2⟩,ho2,hc2,n2,hd2⟩:=id hb
 simp only at hc hd hc2 hd2
 subst hc hd hc2 hd2;have e:vs.toArray++ws.toArray=(vs++ws).toArray:=by simp
 by_cases hw:ws=[]
 ·exact concat_meets ⟨_,ho,rfl⟩ ⟨_,ho2,rfl⟩ Ax seq_tuple_add gF jz (jm _ _)
   (tuple_addW1 t b vs.toArray ws.toArray n n2 dd dd2 sl sl2 (by simpa using hv) (by simp[hw])) ⟨ho,ho2,h1 hw⟩
 ·refine concat_meets ⟨_,ho,rfl⟩ ⟨_,ho2,rfl⟩ Ax seq_tuple_add gF jz (jm _ _)
   (tuple_addW2 t b vs.toArray ws.toArray n n2 dd dd2 sl sl2 (by simpa using hv) (by simpa using hw) (by rw[kZ,kZ];exact hsz)) ⟨ho,ho2,?_⟩
  rw[e];exact h2 hw
def sIx(n d:Nat):Option Int->Nat
 |none=>d
 |some v=>if v<0 then(v+(n:Int)).toNat else min v.toNat n
theorem sIx_none(n d:Nat):sIx n d none=d:=rfl
theorem sIx_nat(n d k:Nat):sIx n d (some (k:Int))=min k n:=by
 show(if(k:Int)<0 then((k:Int)+(n:Int)).toNat else min (k:Int).toNat n)=min k n
 rw[if_neg (by omega),UK]
end
end HT
namespace L2
open PySem PySem.Spec PyProof.Rows
abbrev TO:=St->Hp->(Option Int->Hp->Prop)->Prop
def PO(X:Cx)(e:Option Expr)(t:TO):Prop:=
 ∀(pins:List (Addr×Obj))(s:Shared)(σ:St)(H:Hp)(Q:Option Int->Hp->Prop),Inv X pins σ H s->t σ H Q->
  wpAny (model X.prog X.w) X.A (evalPart e X.env) (fun u s'=>∃o H',Inv X pins σ H' s'/\IsPart u o/\Q o H') X.xe s
def tNoPart:TO:=fun _ H Q=>Q none H
def tPart(t:TE):TO:=fun σ H Q=>t σ H fun x H1=>∃i,x=.int i/\Q (some i) H1
theorem zdq{ns:List Int}:∀{us:List Value},Vals (ns.map V.int) us->IntsAre us ns:=by
 induction ns with
 |nil=>intro us r;rw[Qg] at r;cases r;exact .nil
 |cons n ns ih=>
  intro us r;rw[pE] at r
  cases r with
  |cons r1 r2=>
   obtain⟨t,e⟩:=r1;subst e;exact .cons n t (ih r2)
section
variable{X:Cx}{e:Expr}{te:TE}{lo hi:Option Expr}{tl th:TO}{pos p2:Pos}
theorem ziz:PO X none tNoPart:=by
 intro pins s σ H Q I h;rw[evalPart_none];exact kM ⟨none,H,I,.none,h⟩
theorem ziv(h:PE X e te):PO X (some e) (tPart te):=by
 intro pins s σ H Q I hw;rw[evalPart_some];refine thn (h pins s σ H _ I hw) fun u s1⟨x,H1,I1,r1,q1⟩=>?_;obtain⟨i,rfl,q⟩:=q1;obtain⟨t,rfl⟩:=r1;exact⟨some i,H1,I1,.int i t,q⟩
def SlR(X:Cx)(r:V->Option Int->Option Int->Hp->VK->Prop):Prop:=
 ∀(pins:List (Addr×Obj))(s:Shared)(σ:St)(H:Hp)(x:V)(v vl vu:Value)(lo hi:Option Int)(sl:Addr)(Q:VK),Inv X pins σ H s->RelV x v->s.heap.IsSliceOf sl vl vu .none->IsPart vl lo->IsPart vu hi->r x lo hi H Q->
  ∃T id,typeLookup (.type T) "__getitem__"=pure (some (.builtin id))/\s.TypeIs v T/\wpAny (model X.prog X.w) X.A (getItem v (.ref sl)) (EP X pins σ Q) X.xe s
def tSl(r:V->Option Int->Option Int->Hp->VK->Prop)(te:TE)(tl th:TO):TE:=fun σ H Q=>te σ H fun x H1=>tl σ H1 fun l H2=>th σ H2 fun u H3=>r x l u H3 Q
theorem zhn{r:V->Option Int->Option Int->Hp->VK->Prop}(hr:SlR X r)(he:PE X e te)(hl:PO X lo tl)(hu:PO X hi th):PE X (.Subscript e (.Slice lo hi none p2) pos) (tSl r te tl th):=by
 intro pins s σ H Q I h;refine Bg (thn (he pins s σ H _ I h) fun v s1⟨x,H1,I1,r1,q1⟩=>?_);refine wpAny_Slice (thn (hl pins s1 σ H1 _ I1 q1) fun vl s2⟨l,H2,I2,pl,q2⟩=>thn (hu pins s2 σ H2 _ I2 q2) fun vu s3⟨u,H3,I3,pu,q3⟩=>?_);rw[evalPart_none];refine kM ?_;have I4:Inv X pins σ H3 {s3 with heap:=s3.heap.push {cls:=.type "slice",data:=.fields #[vl,vu,.none]}}:=I3.kept (t':=s3.toks) fun b ob q=>kF _ q;obtain⟨T,id,hT,ht,hg⟩:=hr pins {s3 with heap:=s3.heap.push {cls:=.type "slice",data:=.fields #[vl,vu,.none]}} σ H3 x v vl vu l u s3.heap.objs.size Q I4 r1 (Heap.IsSliceOf.new ..) pl pu q3;show wpAny (model X.prog X.w) X.A (subscriptTail e (.Slice lo hi none p2) v (.ref s3.heap.objs.size)) (EP X pins σ Q) X.xe {s3 with heap:=s3.heap.push {cls:=.type "slice",data:=.fields #[vl,vu,.none]}};exact tail_any (ops:=[.ref s3.heap.objs.size,v]) ht hT hg (by with_unfolding_all rfl)
def cutV(xs:List V)(lo hi:Option Int):List V:=(xs.drop (HT.sIx xs.length 0 lo)).take (HT.sIx xs.length xs.length hi-HT.sIx xs.length 0 lo)
theorem cutV_length(xs:List V)(lo hi:Option Int):(cutV xs lo hi).length<=xs.length:=by
 unfold cutV;rw[kP,ki];omega
def rCatT(K:kC):R2:=fun x y H Q=>∃a b xs ys,x=.ref a/\y=.ref b/\SqT K H a xs/\SqT K H b ys/\xs≠[]/\xs.length+ys.length<=sizeLine/\
 (ys=[]->Q (.ref a) H)/\(ys≠[]->∀p,H p=none->Q (.ref p) (upd H p (.tup (xs++ys))))
theorem Vals.nil_iff{xs:List V}{us:List Value}(r:Vals xs us):us=[]↔xs=[]:=by
 cases r with
 |nil=>simp
 |cons _ _=>simp
theorem zla:OpR X (binaryOp .Add) (rCatT X.K):=by
 intro pins s σ H x y v u Q I rx ry h;obtain⟨a,b,xs,ys,rfl,rfl,ha,hb,hx,hz,q1,q2⟩:=h
 cases rx
 cases ry;obtain⟨its,r1,p1,_⟩:=I.tuple ha;obtain⟨its2,r2,p2,_⟩:=I.tuple hb;refine HT.cat_tup p1 p2 (fun z=>hx (r1.nil_iff.mp z)) (fun z=>⟨.ref a,H,I,rfl,q1 (r2.nil_iff.mp z)⟩) (fun z=>?_) (by rw[←r1.length,←r2.length];exact hz)
 refine⟨.ref s.heap.objs.size,_,I.laid (t':=s.toks) (o:=.tup (xs++ys)) (fun b ob q=>kF _ q) (kI _) ?_,rfl,q2 (fun w=>z (r2.nil_iff.mpr w)) _ (I.hok.fresh (kI _))⟩;exact⟨by rw[kK];exact hz,_,r1.append r2,Cc _ _⟩
end
def ixN(n:Nat)(i:Int):Option Nat:=if 0<=i then(if i<n then some i.toNat else none) else if-(n:Int)<=i then some (i+n).toNat else none
def atI{α:Type}(xs:List α)(i:Int):Option α:=(ixN xs.length i).bind fun j=>xs[j]?
theorem zke{n:Nat}{i:Int}{j:Nat}(h:ixN n i=some j):seqIndex? i n=some j/\j<n/\ -(n:Int)<=i/\i<n:=by
 unfold ixN at h
 by_cases h0:0<=i
 ·rw[if_pos h0] at h
  by_cases h1:i<n
  ·rw[if_pos h1] at h;have e:i.toNat=j:=pJ h;exact⟨by rw[BJ h0 h1,e],by omega,by omega,h1⟩
  ·rw[if_neg h1] at h;cases h
 ·rw[if_neg h0] at h
  by_cases h1: -(n:Int)<=i
  ·rw[if_pos h1] at h;have e:(i+n).toNat=j:=pJ h;exact⟨by rw[Ae (by omega) h1,e],by omega,h1,by omega⟩
  ·rw[if_neg h1] at h;cases h
theorem zku{α:Type}{xs:List α}{i:Int}{v:α}(h:atI xs i=some v):∃j,seqIndex? i xs.length=some j/\xs[j]?=some v/\j<xs.length/\ -(xs.length:Int)<=i/\i<xs.length:=by
 unfold atI at h
 cases e:ixN xs.length i with
 |none=>rw[e] at h;cases h
 |some j=>
  rw[e] at h;obtain⟨h1,h2,h3,h4⟩:=zke e;exact⟨j,h1,h,h2,h3,h4⟩
theorem zaq{α:Type}{xs:List α}{j:Nat}{v:α}(h:xs[j]?=some v):atI xs (j:Int)=some v:=by
 have hj:j<xs.length:=(kG.mp h).1;have e:ixN xs.length (j:Int)=some j:=by
  unfold ixN;rw[if_pos (by omega),if_pos (by omega)];simp
 unfold atI;rw[e];exact h
def PlainIx(b:Expr):Prop:=∀o i,subscripted b false o i=operate [o,i] (getItem o i)
def IxR(X:Cx)(r:R2):Prop:=
 ∀(value slice:Expr)(pins:List (Addr×Obj))(s:Shared)(σ:St)(H:Hp)(x y:V)(v u:Value)(Q:VK),Inv X pins σ H s->RelV x v->RelV y u->r x y H Q->
  subscripted slice false v u=operate [v,u] (getItem v u)->wpAny (model X.prog X.w) X.A (subscriptTail value slice v u) (EP X pins σ Q) X.xe s
def MtR(X:Cx)(id:String)(r:V->List V->Hp->VK->Prop):Prop:=
 ∀(pins:List (Addr×Obj))(s:Shared)(σ:St)(H:Hp)(x:V)(xs:List V)(v:Value)(us:List Value)(Q:VK),Inv X pins σ H s->RelV x v->Vals xs us->r x xs H Q->
  wpAny (model X.prog X.w) X.A (call (.builtin id) (v::us)) (EP X pins σ Q) X.xe s
section
variable{X:Cx}{a b:Expr}{ta tb:TE}{pos:Pos}
theorem pe_ix{r:R2}(hr:IxR X r)(ha:PE X a ta)(hb:PE X b tb)(hs:PlainIx b):PE X (.Subscript a b pos) (tOp r ta tb):=by
 intro pins s σ H Q I h;exact Bg (binT ha hb I h fun v u s2 x y H2 I2 rx ry q=>hr a b pins s2 σ H2 x y v u Q I2 rx ry q (hs _ _))
def rIxL(K:kC):R2:=fun x y H Q=>∃p xs i v,x=.ref p/\y=.int i/\SqL K H p xs/\atI xs i=some v/\Q v H
def rIxT(K:kC):R2:=fun x y H Q=>∃p xs i v,x=.ref p/\y=.int i/\SqT K H p xs/\atI xs i=some v/\Q v H
theorem zf3:IxR X (rIxL X.K):=by
 intro value slice pins s σ H x y v u Q I rx ry h hs;obtain⟨p,xs,i,z,rfl,rfl,hq,he,q⟩:=h
 cases rx;obtain⟨t,rfl⟩:=ry;obtain⟨its,r,pl,hz⟩:=I.list hq;obtain⟨j,h1,h2,h3,h4,h5⟩:=zku he;obtain⟨w,ew,rw'⟩:=r.get h2;have hl:=r.length;have hn:=line63;have fin:EP X pins σ Q w s:=⟨z,H,I,rw',q⟩
 by_cases h0:0<=i
 ·have hj:i.toNat=j:=by
   rw[BJ h0 h5] at h1;exact pJ h1
  exact item_listR pl.isList h0 (by omega) (by rw[hj];simpa using ew) fin hs
 ·have hj:(i+(its.toArray.size:Int)).toNat=j:=by
   rw[Ae (by omega) h4] at h1
   rw[kZ,←hl];exact pJ h1
  exact gG (x:=w) pl.isList.typeIs Af.lookup
   (wpAny_getItem_list_neg (Q:=fun r s'=>r=w/\EP X pins σ Q r s') pl.isList (by omega) (by rw[kZ]<;>omega) (by omega) (by rw[hj];simpa using ew) ⟨rfl,fin⟩) hs
theorem ix_tup:IxR X (rIxT X.K):=by
 intro value slice pins s σ H x y v u Q I rx ry h hs;obtain⟨p,xs,i,z,rfl,rfl,hq,he,q⟩:=h
 cases rx;obtain⟨t,rfl⟩:=ry;obtain⟨its,r,pl,hz⟩:=I.tuple hq;obtain⟨j,h1,h2,h3,h4,h5⟩:=zku he;obtain⟨w,ew,rw'⟩:=r.get h2;have hl:=r.length;have hn:=line63;have fin:EP X pins σ Q w s:=⟨z,H,I,rw',q⟩;exact gG (x:=w) pl.typeIs slot_tuple_getitem.lookup
  (getItem_tuple (j:=j) (Q:=fun r s'=>r=w/\EP X pins σ Q r s') pl (by omega) (by omega) (by rw[kZ,←hl];exact h1) (by simpa using ew) ⟨rfl,fin⟩) hs
theorem mapSeq_set(its:List Value)(n j:Nat)(u:Value):kq (·.setIfInBounds j u) {cls:=.type "list",data:=.seq its.toArray n}={cls:=.type "list",data:=.seq (its.set j u).toArray n}:=by
 simp[kq]
theorem Inv.lst{pins:List (Addr×Obj)}{σ:St}{H:Hp}{s:Shared}{p:Addr}{xs:List V}(I:Inv X pins σ H s)(h:H p=some (.lst xs)):
  ∃(its:List Value)(n:Nat),Vals xs its/\s.heap.get? p=some {cls:=.type "list",data:=.seq its.toArray n}/\xs.length<=sizeLine:=by
 obtain⟨z,its,n,r,e⟩:=I.hok p _ h;exact⟨its,n,r,e,z⟩
theorem Inv.lstUpd{pins:List (Addr×Obj)}{σ:St}{H:Hp}{s:Shared}{p:Addr}{xs ys:List V}{its its':List Value}{n n':Nat}{f:Obj->Obj}(I:Inv X pins σ H s)(h:H p=some (.lst xs))
  (ho:s.heap.get? p=some {cls:=.type "list",data:=.seq its.toArray n})(hf:f {cls:=.type "list",data:=.seq its.toArray n}={cls:=.type "list",data:=.seq its'.toArray n'})(r:Vals ys its')(hz:ys.length<=sizeLine)(t:Nat):
  Inv X pins σ (upd H p (.lst ys)) {s with heap:=s.heap.update p f,toks:=t}:=by
 have e:(s.heap.update p f).get? p=some {cls:=.type "list",data:=.seq its'.toArray n'}:=by
  rw[uj f ho (by rw[hf]<;>rfl),hf]
 refine I.write (x:=p) (e:=p) (by rw[h];trivial) (.inl rfl) (fun b u hb q=>(uC _ _ (UA hb)).trans q) ⟨_,e⟩ ?_
 exact⟨hz,its',n',r,e⟩
def rSetL:V->V->V->Hp->(Hp->Prop)->Prop:=fun o i v H Q=>∃p xs k j,o=.ref p/\i=.int k/\H p=some (.lst xs)/\ixN xs.length k=some j/\Q (upd H p (.lst (xs.set j v)))
theorem set_list:PSet X rSetL:=by
 intro pins s σ H o i v ov iv u Q I ro ri rv h;obtain⟨p,xs,k,j,rfl,rfl,hp,hj,q⟩:=h
 cases ro;obtain⟨t,rfl⟩:=ri;obtain⟨its,n,r,ho,hz⟩:=I.lst hp;obtain⟨h1,h2,h3,h4⟩:=zke hj;have hl:=r.length;have hn:=line63;have I':Inv X pins σ (upd H p (.lst (xs.set j v))) {s with heap:=s.heap.update p (kq (·.setIfInBounds j u))}:=
  I.lstUpd hp ho (mapSeq_set its n j u) (r.set rv j) (by rw[UF];exact hz) s.toks
 by_cases h0:0<=k
 ·have hk:k.toNat=j:=by
   rw[BJ h0 h4] at h1;exact pJ h1
  exact PySem.W.ki_setAt ho h0 (by omega) (by rw[kZ,←hl];exact h4) (by rw[hk];exact⟨_,I',q⟩)
 ·have hk:(k+(its.toArray.size:Int)).toNat=j:=by
   rw[Ae (by omega) h3] at h1
   rw[kZ,←hl];exact pJ h1
  exact PySem.W.ki_setBack ho (by omega) (by rw[kZ,←hl];exact h3) (by omega) (by rw[hk];exact⟨_,I',q⟩)
theorem slice_bounds(lo hi:Option Int)(n:Nat):(sliceBounds lo hi none n).1=((HT.sIx n 0 lo:Nat):Int)/\(sliceBounds lo hi none n).2.1=((HT.sIx n n hi:Nat):Int)/\(sliceBounds lo hi none n).2.2=1:=by
 refine⟨?_,?_,rfl⟩
 ·cases lo with
  |none=>simp[sliceBounds,HT.sIx]
  |some i=>
   simp only[sliceBounds,HT.sIx,Ay,show(1:Int)>0 by decide,if_true]
   by_cases h:i<0
   ·simp only[h,if_true]<;>omega
   ·simp only[h,if_false]<;>omega
 ·cases hi with
  |none=>simp[sliceBounds,HT.sIx]
  |some i=>
   simp only[sliceBounds,HT.sIx,Ay,show(1:Int)>0 by decide,if_true]
   by_cases h:i<0
   ·simp only[h,if_true]<;>omega
   ·simp only[h,if_false]<;>omega
theorem slicePick_cut(its:List Value)(lo hi:Option Int):slicePick its.toArray lo hi none=((its.drop (HT.sIx its.length 0 lo)).take (HT.sIx its.length its.length hi-HT.sIx its.length 0 lo)).toArray:=by
 obtain⟨h1,h2,h3⟩:=slice_bounds lo hi its.toArray.size;unfold slicePick;rw[h1,h2,h3];simp only[sliceRange_one,pick_run,kZ]<;>rfl
def rSlL(K:kC):V->Option Int->Option Int->Hp->VK->Prop:=fun x lo hi H Q=>∃a xs,x=.ref a/\SqL K H a xs/\∀p,H p=none->Q (.ref p) (upd H p (.lst (cutV xs lo hi)))
theorem sl_list:SlR X (rSlL X.K):=by
 intro pins s σ H x v vl vu lo hi sl Q I rx hs pl pu h;obtain⟨a,xs,rfl,hx,q⟩:=h
 cases rx;obtain⟨its,r,ht,hz⟩:=I.list hx;have hlen:=r.length;refine⟨"list",_,Af.lookup,ht.isList.typeIs,?_⟩;refine wpAny_getItem_list_slice ht.isList hs pl pu .none (by simp) ?_ (by rw[kZ]<;>omega)
 rw[slicePick_cut,←hlen];refine⟨.ref s.heap.objs.size,_,I.laid (t':=s.toks) (o:=.lst (cutV xs lo hi)) (fun b ob q=>kF _ q) (kI _) ?_,rfl,q _ (I.hok.fresh (kI _))⟩;exact⟨kz (cutV_length xs lo hi) hz,_,0,(r.drop (HT.sIx xs.length 0 lo)).take (HT.sIx xs.length xs.length hi-HT.sIx xs.length 0 lo),kY _ rfl⟩
theorem ze7:CallR X (.builtin "len") (fun xs H Q=>∃p ys,xs=[.ref p]/\(SqL X.K H p ys∨SqT X.K H p ys)/\Q (.int ys.length) H):=by
 intro pins s σ H xs us Q I r h;obtain⟨p,ys,rfl,hq,q⟩:=h;obtain⟨u,rfl,rx⟩:=vals1 r
 cases rx;have hn:=line63;rcases hq with hq|hq
 ·obtain⟨its,r',pl,hz⟩:=I.list hq;have hlen:=r'.length;exact Calls.call_len_list pl.isList (by simp only[kZ]<;>omega) ⟨.int ys.length,H,I.tok _,⟨s.toks+1,by rw[kZ,hlen]⟩,q⟩
 ·obtain⟨its,r',pl,hz⟩:=I.tuple hq;have hlen:=r'.length;exact len_tuple pl (by simp only[kZ]<;>omega) ⟨.int ys.length,H,I.tok _,⟨s.toks+1,by rw[kZ,hlen]⟩,q⟩
theorem call_list_of:CallR X (.type "list") (fun xs H Q=>∃p ys,xs=[.ref p]/\(SqL X.K H p ys∨SqT X.K H p ys)/\∀l,H l=none->Q (.ref l) (upd H l (.lst ys))):=by
 intro pins s σ H xs us Q I r h;obtain⟨p,ys,rfl,hq,q⟩:=h;obtain⟨u,rfl,rx⟩:=vals1 r
 cases rx;have fin:∀(its:List Value),Vals ys its->ys.length<=sizeLine->∀(h':Heap)(c':Nat),(∀b o',s.heap.get? b=some o'->h'.get? b=some o')->
   h'.get? s.heap.objs.size=some {cls:=.type "list",dict:=none,data:=.seq its.toArray c',slots:=#[]}->EP X pins σ Q (.ref s.heap.objs.size) {s with heap:=h'}:=fun its r' hz h' c' kp e=>
  ⟨.ref s.heap.objs.size,_,I.laid (t':=s.toks) kp (kI _) (show ObjOk X.prog X.w _ h' _ (.lst ys) from⟨hz,its,c',r',e⟩),rfl,q _ (I.hok.fresh (kI _))⟩
 rcases hq with hq|hq
 ·obtain⟨its,r',pl,hz⟩:=I.list hq;have hlen:=r'.length;obtain⟨o,ho,hc,n,hd⟩:=pl.isList;exact call_list_seq p (.inl rfl) ho hc hd (fun h' c' kp e=>fin its r' hz h' c' kp e) (by simp only[kZ]<;>omega)
 ·obtain⟨its,r',pl,hz⟩:=I.tuple hq;have hlen:=r'.length;obtain⟨o,ho,hc,n,hd⟩:=pl;exact call_list_seq p (.inr rfl) ho hc hd (fun h' c' kp e=>fin its r' hz h' c' kp e) (by simp only[kZ]<;>omega)
def tyV(K:kC)(T:String)(x:V)(H:Hp):Prop:=match x with
 |.str _=>T="str"
 |.int _=>T="int"
 |.ref p=>(T="list"/\∃xs,SqL K H p xs)∨(T="tuple"/\∃o,K.lookup p=some o/\o.cls=.type "tuple"/\o.dict=none)∨
   (T="dict"/\((∃kvs,H p=some (.dK kvs))∨∃kvs,H p=some (.dT kvs)))∨(T="set"/\∃S n,H p=some (.set S n))
 |_=>False
theorem zmf{pins:List (Addr×Obj)}{σ:St}{H:Hp}{s:Shared}{T:String}{x:V}{v:Value}(I:Inv X pins σ H s)(r:RelV x v)(ty:tyV X.K T x H):
  s.TypeIs v T/\∀a,v=.ref a->∃ob,s.heap.get? a=some ob/\ob.dict=none:=by
 cases x with
 |str z=>
  obtain⟨t,rfl⟩:=r
  cases(show T="str" from ty);exact⟨typeIs_str s z t,fun _ e=>nomatch e⟩
 |int i=>
  obtain⟨t,rfl⟩:=r
  cases(show T="int" from ty);exact⟨typeIs_int s i t,fun _ e=>nomatch e⟩
 |ref p=>
  cases r;rcases ty with⟨rfl,xs,hq⟩|⟨rfl,o,hk,hc,hd⟩|⟨rfl,hk⟩|⟨rfl,S,n,hk⟩
  ·obtain⟨its,_,pl,_⟩:=I.list hq;refine⟨pl.isList.typeIs,fun a e=>?_⟩
   cases e;obtain⟨o,n,e,c,hd,_⟩:=pl;exact⟨o,e,hd⟩
  ·refine⟨⟨o,I.kIn p o hk,hc⟩,fun a e=>?_⟩
   cases e;exact⟨o,I.kIn _ o hk,hd⟩
  ·have z:∃o,s.heap.get? p=some o/\o.ExactDict:=by
    rcases hk with⟨kvs,hk⟩|⟨kvs,hk⟩
    ·obtain⟨_,_,_,_,o,_,_,e,ex,_⟩:=I.hok p _ hk;exact⟨o,e,ex⟩
    ·obtain⟨_,_,_,_,o,_,_,e,ex,_⟩:=I.hok p _ hk;exact⟨o,e,ex⟩
   obtain⟨o,e,ex⟩:=z;refine⟨⟨o,e,ex.1⟩,fun a e2=>?_⟩
   cases e2;exact⟨o,e,ex.2.1⟩
  ·obtain⟨o,_,_,_,e,ex,_⟩:=I.hok p _ hk;refine⟨⟨o,e,ex.1⟩,fun a e2=>?_⟩
   cases e2;exact⟨o,e,ex.2.1⟩
 |_=>exact ui ty
def tBM0(K:kC)(T:String)(r:V->List V->Hp->VK->Prop)(to:TE):TE:=fun σ H Q=>to σ H fun x H1=>tyV K T x H1/\r x [] H1 Q
def tBM(K:kC)(T:String)(r:V->List V->Hp->VK->Prop)(to:TE)(t:TA):TE:=fun σ H Q=>to σ H fun x H1=>tyV K T x H1/\t σ H1 fun xs H2=>r x xs H2 Q
variable{o e:Expr}{es:List Expr}{to:TE}{t:TA}{name:Str}{apos cpos:Pos}{T id:String}{r:V->List V->Hp->VK->Prop}
theorem pe_bm0(pa:PlainAttrs T)(slot:Slot T name id)(hty:typeOf (.builtin id)=pure (.type "method_descriptor"))(hm:MtR X id r)(ho:PE X o to)
  (hbase:attributeBase o name X.env (eval o X.env)=eval o X.env:=by rfl)(hline:(apos.endLine==cpos.line)=true:=by rfl):PE X (.Call (.Attribute o name apos) [] [] cpos) (tBM0 X.K T r to):=by
 intro pins s σ H Q I h;refine wpAny_Call_method0_late hbase hline (thn (ho pins s σ H _ I h) fun v s1⟨x,H1,I1,r1,ty,q1⟩=>?_);obtain⟨h1,h2⟩:=zmf I1 r1 ty;exact⟨T,id,pa,slot,hty,h1,h2,gH rfl (PySem.evalArgs_none (hm pins s1 σ H1 x [] v [] Q I1 r1 .nil q1))⟩
theorem pe_bm(pa:PlainAttrs T)(slot:Slot T name id)(hty:typeOf (.builtin id)=pure (.type "method_descriptor"))(hm:MtR X id r)(ho:PE X o to)(ha:PA X (e::es) t)
  (hbase:attributeBase o name X.env (eval o X.env)=eval o X.env:=by rfl)
  (hfew:((backTo cpos (pX (e::es) X.env)).all (fun x=> !x.1)&&(backToKw cpos (keywordEach [] X.env)).all (fun x=>x.1.isSome)
   &&decide ((e::es).length+([]:List Keyword).length+(if([]:List Keyword).isEmpty then 0 else 1)<30))=true:=by rfl)
  (hline:(apos.endLine==cpos.line)=true:=by rfl) (hs:pX (e::es) X.env=(false,eval e X.env)::pX es X.env:=by rfl) (hplain:(backTo cpos (pX es X.env)).any (·.1)=false:=by rfl):
  PE X (.Call (.Attribute o name apos) (e::es) [] cpos) (tBM X.K T r to t):=by
 intro pins s σ H Q I h;refine wpAny_Call_method_late hbase hfew hline rfl (thn (ho pins s σ H _ I h) fun v s1⟨x,H1,I1,r1,ty,q1⟩=>?_);obtain⟨h1,h2⟩:=zmf I1 r1 ty;refine⟨T,id,pa,slot,hty,h1,h2,?_⟩;have hA:=ha cpos pins s1 σ H1 _ I1 q1;rw[hs] at hA⊢;refine gH (by show(false||(backTo cpos (pX es X.env)).any (·.1))=false;rw[hplain]<;>rfl) (Calls.evalArgs_plain ?_)
 exact thn hA fun us s2⟨vs,H2,I2,r2,q2⟩=>hm pins s2 σ H2 x vs v us Q I2 r1 r2 q2
end
def MtM(X:Cx)(id:String)(r:V->List V->Hp->VK->Prop):Prop:=
 ∀(pins:List (Addr×Obj))(s:Shared)(σ:St)(H:Hp)(x:V)(xs:List V)(v:Value)(us:List Value)(Q:VK),Inv X pins σ H s->RelV x v->Vals xs us->r x xs H Q->
  wpAny (model X.prog X.w) X.A (call (.builtin id) (v::us)) (EP X pins σ Q) X.xe s
theorem Vals.one:∀{x:V}{us:List Value},Vals [x] us->∃u,us=[u]/\RelV x u
 |_,_,.cons r .nil=>⟨_,rfl,r⟩
theorem Vals.zero:∀{us:List Value},Vals [] us->us=[]
 |_,.nil=>rfl
section
variable{X:Cx}{pins:List (Addr×Obj)}{σ:St}{H:Hp}{s:Shared}{l b:Addr}{xs ys zs:List V}
theorem Inv.lset{its its':List Value}{n:Nat}{f:Array Value->Array Value}{t':Nat}(I:Inv X pins σ H s)(hH:H l=some (.lst xs))
  (e:s.heap.get? l=some {cls:=.type "list",data:=.seq its.toArray n})(hf:f its.toArray=its'.toArray)(hv:Vals ys its')(hz:ys.length<=sizeLine):
  Inv X pins σ (upd H l (.lst ys)) {s with heap:=s.heap.update l (kq f),toks:=t'}:=by
 have q:=PySem.IsL.update e f;rw[hf] at q;refine I.write (x:=l) (e:=l) (by rw[hH];exact trivial) (.inl rfl) (fun b' u hb hu=>(uC s.heap (kq f) (UA hb)).trans hu) ⟨_,q⟩ ?_
 exact⟨hz,its',_,hv,q⟩
theorem Inv.lnew{its:List Value}{t':Nat}(I:Inv X pins σ H s)(hv:Vals ys its)(hz:ys.length<=sizeLine):
  Inv X pins σ (upd H s.heap.objs.size (.lst ys)) {s with heap:=s.heap.push {cls:=.type "list",data:=.seq its.toArray},toks:=t'}:=
 I.laid (fun _ _ q=>kF _ q) (kI _) ⟨hz,its,0,hv,kY _ rfl⟩
theorem Inv.fresh(I:Inv X pins σ H s):H s.heap.objs.size=none:=I.hok.fresh (kI _)
theorem Inv.lstM(I:Inv X pins σ H s)(hH:H l=some (.lst xs)):xs.length<=sizeLine/\∃(its:List Value)(n:Nat),Vals xs its/\xs.length=its.length/\s.heap.get? l=some {cls:=.type "list",data:=.seq its.toArray n}:=by
 obtain⟨z,its,n,r,e⟩:=I.hok l _ hH;exact⟨z,its,n,r,r.length,e⟩
theorem notLongL{n:Nat}(h:n<=sizeLine):Qh n=false:=by
 unfold Qh;exact decide_eq_false (by omega)
end
section
variable{X:Cx}
def rAppend:V->List V->Hp->VK->Prop:=fun x vs H Q=>∃l xs y,x=.ref l/\vs=[y]/\H l=some (.lst xs)/\xs.length<sizeLine/\Q .non (upd H l (.lst (xs++[y])))
theorem zcg:MtM X "list.append" rAppend:=by
 intro pins s σ H x vs v us Q I rx rv h;obtain⟨l,xs,y,rfl,rfl,hH,hz,q⟩:=h
 cases rx;obtain⟨u,rfl,ru⟩:=rv.one;obtain⟨z,its,n,r,hl,e⟩:=I.lstM hH;refine AQ F.slot_list_append ⟨_,e,rfl⟩ F.entry_list_append (F.args_list_append_2 _ _) (PySem.list_append l its.toArray n u (by rw[kZ];omega)) ⟨e,?_⟩
 refine⟨.non,_,I.lset (its':=its++[u]) hH e (by simp) (r.append (.cons ru .nil)) ?_,rfl,q⟩
 rw[kK,List.length_singleton];omega
def rExtend:V->List V->Hp->VK->Prop:=fun x vs H Q=>∃l b xs zs,x=.ref l/\vs=[.ref b]/\H l=some (.lst xs)/\H b=some (.lst zs)/\xs.length+zs.length<=sizeLine/\Q .non (upd H l (.lst (xs++zs)))
theorem mt_extend:MtM X "list.extend" rExtend:=by
 intro pins s σ H x vs v us Q I rx rv h;obtain⟨l,b,xs,zs,rfl,rfl,hH,hB,hz,q⟩:=h
 cases rx;obtain⟨u,rfl,ru⟩:=rv.one
 cases ru;obtain⟨z,its,n,r,hl,e⟩:=I.lstM hH;obtain⟨z2,its2,n2,r2,hl2,e2⟩:=I.lstM hB;have hsz:its.toArray.size+its2.toArray.size<=sizeLine:=by rw[kZ,kZ];omega
 have hlong:¬(!its.toArray.isEmpty&&Qh (its.toArray.size+its2.toArray.size))=true:=by
  rw[notLongL hsz,Bh];exact pF
 refine AQ F.slot_list_extend ⟨_,e,rfl⟩ F.entry_list_extend (F.args_list_extend_2 _ _)
  (AutoSeq1.list_extend_list_list_0 l its.toArray n b its2.toArray n2 hlong (by rw[kZ];omega) (by omega)) ⟨e,e2,?_⟩
 refine⟨.non,_,I.lset (its':=its++its2) hH e (by simp) (r.append r2) ?_,rfl,q⟩
 rw[kK];omega
def rClear:V->List V->Hp->VK->Prop:=fun x vs H Q=>∃l xs,x=.ref l/\vs=[]/\H l=some (.lst xs)/\Q .non (upd H l (.lst []))
theorem mt_clear:MtM X "list.clear" rClear:=by
 intro pins s σ H x vs v us Q I rx rv h;obtain⟨l,xs,rfl,rfl,hH,q⟩:=h
 cases rx;have hus:=rv.zero;subst hus;obtain⟨z,its,n,r,hl,e⟩:=I.lstM hH;refine AQ F.slot_list_clear ⟨_,e,rfl⟩ F.entry_list_clear (F.args_list_clear_1 _) (AutoSeq1.list_clear_list_0 l its.toArray n (by rw[kZ];omega)) ⟨e,?_⟩
 exact⟨.non,_,I.lset (its':=[]) (ys:=[]) hH e rfl .nil (pI _),rfl,q⟩
def rCat:R2:=fun x y H Q=>∃l b xs zs,x=.ref l/\y=.ref b/\H l=some (.lst xs)/\H b=some (.lst zs)/\xs.length+zs.length<=sizeLine/\∀p,H p=none->Q (.ref p) (upd H p (.lst (xs++zs)))
theorem zl2:OpR X (binaryOp .Add) rCat:=by
 intro pins s σ H x y v u Q I rx ry h;obtain⟨l,b,xs,zs,rfl,rfl,hH,hB,hz,q⟩:=h
 cases rx
 cases ry;obtain⟨z,its,n,r,hl,e⟩:=I.lstM hH;obtain⟨z2,its2,n2,r2,hl2,e2⟩:=I.lstM hB;refine PySem.P.add_list e e2 ?_ (by rw[kZ,kZ];omega)
 have ea:its.toArray++its2.toArray=(its++its2).toArray:=by simp
 rw[ea];exact⟨.ref _,_,I.lnew (t':=s.toks) (r.append r2) (by rw[kK];omega),rfl,q _ I.fresh⟩
end
end L2
namespace Att
open PySem PySem.W PySem.Calls PyProof.Rows
theorem ints_of_wellAll{P:Params}{h:Heap}:∀(ns:List Int)(vs:List Value),WellAll P h vs (ns.map WData.int)->IntsAre vs ns:=by
 intro ns
 induction ns with
 |nil=>
  intro vs w;rw[Qg] at w
  cases w;exact .nil
 |cons n ns ih=>
  intro vs w;rw[pE] at w
  cases w with
  |cons a b=>
   cases a;exact .cons _ _ (ih _ b)
theorem script_of{l:OpenLaw}{n:Nat}(hn:l.most=some n){P:Params}{h:Heap}{args:List WData}{vals:List Value}
  (hpre:l.row.toRowW.claim.pre args=true)(hwl:WellAll P h vals args):
  ∃a vs ns,vals=[ut a]/\args=[WData.list (ns.map WData.int)]/\h.get? a=some {cls:=.type "list",data:=.seq vs.toArray}/\IntsAre vs ns/\ns.length<=n:=by
 have hsh:WShape.hasAll [] args [.list .int]=true:=(pre_splitW hpre).1;have hc:l.pre.holds [] {args:=args}=true:=(pre_splitW hpre).2;obtain⟨d,r,rfl,h1,h2⟩:=hasAllW_cons hsh;obtain rfl:=hasAllW_nil h2;obtain⟨xs,rfl,h3⟩:=hasW_list h1;obtain⟨ns,rfl⟩:=items_int h3;have hlen:ns.length<=n:=by
  unfold OpenLaw.pre at hc;have h4:(WTm.not (.lt (.lit (.int (n:Int))) (.len (.arg 0)))).holds [] {args:=[.list (ns.map .int)]}=true:=by
   have h4:=(holds_andW hc).1;rw[hn] at h4;exact h4
  have h5:=condW_of h4 (w_not (w_lt w_lit (w_len_list (w_arg rfl))));rw[kN] at h5;refine Nat.le_of_not_lt fun q=>?_;have q':(n:Int)<((ns.length:Nat):Int):=by omega
  first
   |(rw[decide_eq_true q'] at h5;exact absurd h5 (by decide))
   |(simp at h5;omega)
 cases hwl with
 |cons w1 w2=>
  cases w2
  cases w1 with
  |list ho hall=>exact⟨_,_,ns,rfl,rfl,ho,ints_of_wellAll ns _ hall,hlen⟩
theorem post_true(l:OpenLaw)(args:List WData):l.row.toRowW.claim.post args (.bool true) args=true:=
 postW_of (r:=l.row.toRowW) (X:=(true==true))
  (show WShape.has [] (.bool true) .bool=true by first|rfl|decide|simp[WShape.has,WShape.arms,WShape.armsAll])
  (show(WTm.eq .res (.lit (.bool true))).value [] {args:=args,res:=some (.bool true),after:=args}=some (.bool (true==true)) from w_eq_bool (w_res rfl) w_lit) rfl
theorem attach_call{l:OpenLaw}{n:Nat}{q:Program}{loose:List Str}{XP:(Str->Option Value)->Heap->Prop}{YP:World->Heap->Prop}{d:DefRec}
  (hn:l.most=some n)(hdf:d.params.defaults=[])
  (call:∀(w:World)(s₀ s₁:Shared)(mg mb:Str->Option Value)(fa:Addr)(o:Obj)(pm cd doc:Value)(a:Addr)(vs:List Value)(ns:List Int),
   Ground q loose [] XP w s₀ mg mb s₁.heap->YP w s₁.heap->
   s₁.heap.get? fa=some o->o.data=.func (docDef d.name d.params d.body d.scope pm cd doc)->s₁.heap.CodeRec cd d.name->mg d.name=some (.ref fa)->
   s₁.heap.get? a=some {cls:=.type "list",data:=.seq vs.toArray}->IntsAre vs ns->ns.length<=n->s₁.gens=#[]->
   codeAny (model l.prog w) callerA (.call (.ref fa) ⟨[.ref a],[]⟩) (fun r s'=>r=.ok (.ret (.bool true))/\OldK s₁.heap s'.heap/\s'.os=s₁.os/\jd s'.gens) s₁):
  WalkO q loose XP YP l.row.toRowW d [] (fun f vs=>Bi f vs):=by
 intro w s₀ s₁ mg mb G Y fa o pm cd doc dV kV ho hd hcd hD hmg hg args vals as hpre hlay hrd hwl hlo;obtain rfl:dV=.none:=Dflts.none hD hdf;obtain rfl:kV=.none:=Dflts.noKw hD;obtain⟨a,vs,ns,rfl,rfl,hobj,hints,hlen⟩:=script_of hn hpre hwl;refine enter_call (vP (call w s₀ s₁ mg mb fa o pm cd doc a vs ns G Y ho (fd_plain hd) hcd hmg hobj hints hlen hg) fun r s' hq=>?_);obtain⟨rfl,h2,h3,h4⟩:=hq;exact⟨.inl ⟨.bool true,.bool true,[],rfl,fun _=>rfl,.bool true,post_true l _,fun _=>⟨List.Pairwise.nil,fun _ hm=>(nomatch hm)⟩⟩,h2,h3,h4⟩
end Att
namespace L2
open PySem PySem.Spec PyProof.Rows
theorem zgh:∀{vs:List Value}{ns:List Int},IntsAre vs ns->Vals (ns.map V.int) vs
 |_,_,.nil=>.nil
 |_,_,.cons n t h=>.cons ⟨t,rfl⟩ (zgh h)
def defArgs(s:Stmt):Arguments:=match s with
 |.FunctionDef _ a _ _ _ _ _ _ _ _=>a
 |_=>{posonlyargs:=[],args:=[],vararg:=none,kwonlyargs:=[],kw_defaults:=[],kwarg:=none,defaults:=[]}
def defBody(s:Stmt):List Stmt:=match s with
 |.FunctionDef _ _ b _ _ _ _ _ _ _=>b
 |_=>[]
def defScope(s:Stmt):Scope:=match s with
 |.FunctionDef _ _ _ _ _ _ sc _ _ _=>sc
 |_=>{kind:=.function,names:=[],isGenerator:=false,isCoroutine:=false}
abbrev CX0:CXT:=fun _ _ _ _ _ _=>False
abbrev E0:XK:=fun _ _ _=>False
theorem pass0{X:Cx}:Passes CX0 X E0:=fun _ _ _ _ _ _ _ h=>h.elim
structure Fun(K:kC)(x qual:Str)(st:Stmt)(f:Addr)(fd:FuncData):Prop where
 ex:∃(oc:Value)(od:Option Addr)(kV doc pm:Value)(an:Option Addr)(cdv ct:Value)(osl:Array (Option Value)),
  fd=kH x qual (defArgs st) (defBody st) (defScope st) .none kV doc pm an cdv ct/\K.lookup f=some ⟨oc,od,.func fd,osl⟩/\kW K cdv qual=true
 kp:kX K (.ref f)=true
section
variable{P:Program}{w:World}{K:kC}{mg:Str->Option Value}{base:Heap}
theorem Fun.ok{x qual:Str}{st:Stmt}{f:Addr}{fd:FuncData}{N ps:List Str}{k:Nat}{sp:Sp}(F:Fun K x qual st f fd)(S:FnScope N ps (defScope st))(len:∀vs H Q E,sp vs H Q E->vs.length=ps.length)
  (hbody:∀(cdv:Value)(A:Around)(outer:List Env)(s:Shared)(H:Hp)(vs:List V)(Q:VK)(E:XK),Room k (A.deeper (envOfC qual (defScope st) s.heap.objs.size f cdv))->sp vs H Q E->
   ∃t,PSs (cxOf CX0 P w K mg base N qual (defScope st) f cdv A outer s H E).nox (defBody st) t/\t {nx:=fun _ H'=>Q .non H',rt:=Q} (start N vs) H):FnOk P w K mg base CX0 (k+1) f fd ps sp:=by
 obtain⟨oc,od,kV,doc,pm,an,cdv,ct,osl,rfl,lk,hcd⟩:=F.ex;refine fn_of lk hcd S len fun A outer s H vs Q E hr hsp=>?_;obtain⟨t,h,q⟩:=hbody cdv A outer s H vs Q E hr hsp;exact⟨t,h.nox,q⟩
theorem Fun.binds{x qual:Str}{st:Stmt}{f:Addr}{fd:FuncData}{ps:List Str}(F:Fun K x qual st f fd)
  (h:∀(kV doc pm:Value)(an:Option Addr)(cdv ct:Value)(us:List Value),us.length=ps.length->bindArgs (kH x qual (defArgs st) (defBody st) (defScope st) .none kV doc pm an cdv ct) ⟨us,[]⟩=pure (ps.zip us)):Binds K fd ps []:=by
 obtain⟨oc,od,kV,doc,pm,an,cdv,ct,osl,rfl,lk,hcd⟩:=F.ex;exact .all (h kV doc pm an cdv ct)
theorem zam{x qual:Str}{st:Stmt}{f:Addr}{oc:Value}{od an:Option Addr}{osl:Array (Option Value)}{kV doc pm cdv ct:Value}(l:K.lookup f=some ⟨oc,od,.func (kH x qual (defArgs st) (defBody st) (defScope st) .none kV doc pm an cdv ct),osl⟩)
  (c:kW K cdv qual=true)(k:kX K (.ref f)=true):Fun K x qual st f (kH x qual (defArgs st) (defBody st) (defScope st) .none kV doc pm an cdv ct):=⟨⟨oc,od,kV,doc,pm,an,cdv,ct,osl,rfl,l,c⟩,k⟩
end
theorem hu_of{A:Around}{k:Nat}(hr:Room k A):A.units+1<cLine:=QM (Nat.add_le_add_left (by decide:1<=64) _) hr.units
theorem small1000{n:Nat}(h:n<=1000):n<sizeLine:=QM h (by decide)
section
variable{X:Cx}
theorem pv(i:Nat){x:Str}{pos:Pos}(hN:X.N[i]?=some x:=by rfl)(hv:Vis X.env.scope x:=by first|exact kc rfl|exact Ul (kc rfl)|exact Ul (Ul rfl))(hd:(x==("__debug__":Str))=false:=by decide)
  (hcd:(x==("__classdict__":Str))=false:=by decide):PE X (.Name x pos) (tVar i):=pe_var hN hv hd hcd
end
theorem iteF{A B:Prop}(h:B):if false=true then A else B:=by
 rw[if_neg pF];exact h
theorem iteT{A B:Prop}(h:A):if true=true then A else B:=by
 rw[if_pos rfl];exact h
theorem ite2{c A B:Prop}[Decidable c](h1:c->A)(h2:¬c->B):if c then A else B:=by
 by_cases h:c
 ·rw[if_pos h];exact h1 h
 ·rw[if_neg h];exact h2 h
theorem iteNS{c A B:Prop}[Decidable c](hc:c)(h:B):if(!decide c)=true then A else B:=by
 rw[decide_eq_true hc];exact iteF h
def Same(H H':Hp):Prop:=∀b o,H b=some o->H' b=some o
theorem Same.refl(H:Hp):Same H H:=fun _ _ h=>h
theorem Same.trans{H H1 H2:Hp}(a:Same H H1)(b:Same H1 H2):Same H H2:=fun c o h=>b c o (a c o h)
theorem Same.free{H H':Hp}(e:Same H H'){l:Addr}(h:H' l=CO):H l=CO:=by
 cases q:H l with
 |none=>rfl
 |some o=>
  rw[e l o q] at h
  cases h
theorem Same.seq{K:kC}{H H':Hp}{a:Addr}{xs:List V}(e:Same H H')(h:SqL K H a xs):SqL K H' a xs:=by
 rcases h with(h|⟨o,h⟩)|h
 ·exact .inl (.inl (e _ _ h))
 ·exact .inl (.inr ⟨o,e _ _ h⟩)
 ·exact .inr h
section
variable{X:Cx}
def CBig(i j:Int):Prop:=i.natAbs<2^1000000/\j.natAbs<2^1000000
theorem CBig.ok{i j:Int}(h:CBig i j):IntMulOk i j:=
 PySem.IntMulOk.of_le (gt.mpr h.1) (gt.mpr h.2) (by decide)
theorem za9:OpR X (binaryOp .Mult) (rI CBig fun i j=>.int (i*j)):=opI fun _ _ _ _ _ _ _ hc q=>mul_int q hc.ok
def CDivB(_i j:Int):Prop:=j≠0/\j.natAbs<2^8999
theorem zcs:OpR X (binaryOp .FloorDiv) (rI CDivB fun i j=>.int (i.fdiv j)):=opI fun _ j _ _ _ _ _ hc q=>by
 refine floordiv_int hc.1 q (.inl (PyProof.noPylong_of_log2 ?_));have h0:j.natAbs≠0:=by have:=hc.1;omega
 have:=(Nat.log2_lt h0).mpr hc.2;omega
theorem zkz:bootBuiltins "abs"=some (.builtin "abs"):=by decide+kernel
theorem zdd:bootBuiltins "len"=some (.builtin "len"):=by decide+kernel
theorem zbe:bootBuiltins "isinstance"=some (.builtin "isinstance"):=by decide+kernel
theorem zml:bootBuiltins "int"=some (.type "int"):=by decide+kernel
theorem zlb:bootBuiltins "bool"=some (.type "bool"):=by decide+kernel
theorem zja:bootBuiltins "tuple"=some (.type "tuple"):=by decide+kernel
theorem zdv:bootBuiltins "list"=some (.type "list"):=by decide+kernel
def dictO(a:Addr):HO:=.ext fun h=>∃o,h.get? a=some o/\o.cls=.type "dict"
def tyN(K:kC)(H:Hp)(x:V)(T:String):Prop:=match x with
 |.non=>T="NoneType"
 |.bl _=>T="bool"
 |.int _=>T="int"
 |.str _=>T="str"
 |.ref p=>(T="list"/\∃xs,SqL K H p xs)∨(T="tuple"/\∃xs,SqT K H p xs)∨(T="dict"/\H p=some (dictO p))
 |_=>False
theorem zlx{pins:List (Addr×Obj)}{σ:St}{H:Hp}{s:Shared}{T:String}{x:V}{v:Value}(I:Inv X pins σ H s)(r:RelV x v)(ty:tyN X.K H x T):s.TypeIs v T:=by
 cases x with
 |non=>cases r;cases(show T="NoneType" from ty);rfl
 |bl b=>cases r;cases(show T="bool" from ty);rfl
 |int i=>obtain⟨t,rfl⟩:=r;cases(show T="int" from ty);exact typeIs_int s i t
 |str z=>obtain⟨t,rfl⟩:=r;cases(show T="str" from ty);exact typeIs_str s z t
 |ref p=>
  cases r;rcases ty with⟨rfl,xs,hq⟩|⟨rfl,xs,hq⟩|⟨rfl,hq⟩
  ·obtain⟨its,_,pl,_⟩:=I.list hq;exact pl.isList.typeIs
  ·obtain⟨its,_,⟨o,e,c,_⟩,_⟩:=I.tuple hq;exact⟨o,e,c⟩
  ·obtain⟨⟨o,e,c⟩,_⟩:=I.hok p _ hq;exact⟨o,e,c⟩
 |_=>exact ui ty
theorem zez{pins:List (Addr×Obj)}{σ:St}{H:Hp}{s:Shared}{Tx T:String}{b:Bool}{x:V}{v:Value}{Q:VK}(hne:b=false->(UO Tx==UO T)=false)
  (hty:typeOf (.type T)=pure (.type "type"))(hsub:isSubtype (.type Tx) (.type T)=pure b)(I:Inv X pins σ H s)(r:RelV x v)(ht:tyN X.K H x Tx)(q:Q (.bl b) H):
  wpAny (model X.prog X.w) X.A (call (.builtin "isinstance") [v,.type T]) (EP X pins σ Q) X.xe s:=by
 cases b with
 |true=>exact call_isinstance_yes (zlx I r ht) hty hsub ⟨.bl true,H,I,rfl,q⟩
 |false=>
  have hq:EP X pins σ Q (.bool false) {s with toks:=s.toks+1}:=⟨.bl false,H,I.tok _,rfl,q⟩
  cases x with
  |non=>cases r;cases(show Tx="NoneType" from ht);exact UG (isinstance_false_none (hne rfl) hty hsub) hq
  |bl b=>cases r;cases(show Tx="bool" from ht);exact UG (isinstance_false_bool (hne rfl) hty hsub) hq
  |int i=>obtain⟨t,rfl⟩:=r;cases(show Tx="int" from ht);exact UG (isinstance_false_int (hne rfl) hty hsub) hq
  |str z=>obtain⟨t,rfl⟩:=r;cases(show Tx="str" from ht);exact UG (isinstance_false_str (hne rfl) hty hsub) hq
  |ref p=>
   have ty:=zlx I r ht
   cases r;rcases ht with⟨rfl,xs,hs⟩|⟨rfl,xs,hs⟩|⟨rfl,hs⟩
   ·exact UG (isinstance_false_list (hne rfl) hty hsub) ⟨ty,hq⟩
   ·exact UG (isinstance_false_tuple (hne rfl) hty hsub) ⟨ty,hq⟩
   ·exact UG (isinstance_false_dict (hne rfl) hty hsub) ⟨ty,hq⟩
  |_=>exact ui ht
def isiB(Tx T:String):Bool:=(Tx==T)||(Tx=="bool"&&T=="int")
theorem meta_int:typeOf (.type "int")=pure (.type "type"):=by kernel_rfl
theorem meta_bool:typeOf (.type "bool")=pure (.type "type"):=by kernel_rfl
theorem meta_tuple:typeOf (.type "tuple")=pure (.type "type"):=by kernel_rfl
theorem meta_list:typeOf (.type "list")=pure (.type "type"):=by kernel_rfl
theorem tyN_in{K:kC}{H:Hp}{x:V}{T:String}(h:tyN K H x T):T="NoneType"∨T="bool"∨T="int"∨T="str"∨T="list"∨T="tuple"∨T="dict":=by
 cases x with
 |non=>exact .inl h
 |bl b=>exact .inr (.inl h)
 |int i=>exact .inr (.inr (.inl h))
 |str z=>exact .inr (.inr (.inr (.inl h)))
 |ref p=>
  rcases h with⟨h,_⟩|⟨h,_⟩|⟨h,_⟩
  ·exact .inr (.inr (.inr (.inr (.inl h))))
  ·exact .inr (.inr (.inr (.inr (.inr (.inl h)))))
  ·exact .inr (.inr (.inr (.inr (.inr (.inr h)))))
 |_=>exact ui h
def rIsi(K:kC)(T:String):List V->Hp->VK->Prop:=fun xs H Q=>∃x Tx,xs=[x,.ty T]/\tyN K H x Tx/\Q (.bl (isiB Tx T)) H
theorem isi_T{T:String}(hty:typeOf (.type T)=pure (.type "type"))(h1:isSubtype (.type "NoneType") (.type T)=pure (isiB "NoneType" T))(h2:isSubtype (.type "bool") (.type T)=pure (isiB "bool" T))(h3:isSubtype (.type "int") (.type T)=pure (isiB "int" T))
  (h4:isSubtype (.type "str") (.type T)=pure (isiB "str" T))(h5:isSubtype (.type "list") (.type T)=pure (isiB "list" T))(h6:isSubtype (.type "tuple") (.type T)=pure (isiB "tuple" T))(h7:isSubtype (.type "dict") (.type T)=pure (isiB "dict" T))
  (hn:∀Tx∈["NoneType","bool","int","str","list","tuple","dict"],isiB Tx T=false->(UO Tx==UO T)=false):CallR X (.builtin "isinstance") (rIsi X.K T):=by
 intro pins s σ H xs us Q I r h;obtain⟨x,Tx,rfl,ht,q⟩:=h;obtain⟨u,w',rfl,ru,rw'⟩:=vals2 r
 cases rw';rcases tyN_in ht with rfl|rfl|rfl|rfl|rfl|rfl|rfl
 ·exact zez (hn _ (by simp)) hty h1 I ru ht q
 ·exact zez (hn _ (by simp)) hty h2 I ru ht q
 ·exact zez (hn _ (by simp)) hty h3 I ru ht q
 ·exact zez (hn _ (by simp)) hty h4 I ru ht q
 ·exact zez (hn _ (by simp)) hty h5 I ru ht q
 ·exact zez (hn _ (by simp)) hty h6 I ru ht q
 ·exact zez (hn _ (by simp)) hty h7 I ru ht q
theorem zfu:CallR X (.builtin "isinstance") (rIsi X.K "int"):=isi_T meta_int (by rw[pC];kernel_rfl) (by rw[pC];kernel_rfl) (by rw[pC];kernel_rfl) (by rw[pC];kernel_rfl) (by rw[pC];kernel_rfl) (by rw[pC];kernel_rfl) (by rw[pC];kernel_rfl) (by decide+kernel)
theorem zff:CallR X (.builtin "isinstance") (rIsi X.K "bool"):=isi_T meta_bool (by rw[pC];kernel_rfl) (by rw[pC];kernel_rfl) (by rw[pC];kernel_rfl) (by rw[pC];kernel_rfl) (by rw[pC];kernel_rfl) (by rw[pC];kernel_rfl) (by rw[pC];kernel_rfl) (by decide+kernel)
theorem zeo:CallR X (.builtin "isinstance") (rIsi X.K "tuple"):=isi_T meta_tuple (by rw[pC];kernel_rfl) (by rw[pC];kernel_rfl) (by rw[pC];kernel_rfl) (by rw[pC];kernel_rfl) (by rw[pC];kernel_rfl) (by rw[pC];kernel_rfl) (by rw[pC];kernel_rfl) (by decide+kernel)
theorem zfh:CallR X (.builtin "isinstance") (rIsi X.K "list"):=isi_T meta_list (by rw[pC];kernel_rfl) (by rw[pC];kernel_rfl) (by rw[pC];kernel_rfl) (by rw[pC];kernel_rfl) (by rw[pC];kernel_rfl) (by rw[pC];kernel_rfl) (by rw[pC];kernel_rfl) (by decide+kernel)
end
theorem cx_K{CX:CXT}{P:Program}{w:World}{K:kC}{mg:Str->Option Value}{base:Heap}{N:List Str}{qual:Str}{scope:Scope}{f:Addr}{cd:Value}{A:Around}{outer:List Env}{s:Shared}{H:Hp}{E:XK}:
  (cxOf CX P w K mg base N qual scope f cd A outer s H E).K=K:=rfl
theorem tyN_non{K:kC}{H:Hp}{T:String}:tyN K H .non T=(T="NoneType"):=rfl
theorem tyN_bl{K:kC}{H:Hp}{T:String}{b:Bool}:tyN K H (.bl b) T=(T="bool"):=rfl
theorem tyN_int{K:kC}{H:Hp}{T:String}{i:Int}:tyN K H (.int i) T=(T="int"):=rfl
theorem tyN_str{K:kC}{H:Hp}{T:String}{x:Str}:tyN K H (.str x) T=(T="str"):=rfl
theorem isi_ii:isiB "int" "int"=true:=by decide+kernel
theorem isi_ib:isiB "int" "bool"=false:=by decide+kernel
theorem zl8:isiB "int" "tuple"=false:=by decide+kernel
theorem zl4:isiB "int" "list"=false:=by decide+kernel
theorem zlo:isiB "bool" "int"=true:=by decide+kernel
theorem zky:isiB "bool" "bool"=true:=by decide+kernel
theorem zlh:isiB "NoneType" "int"=false:=by decide+kernel
theorem zkd:isiB "str" "int"=false:=by decide+kernel
theorem zlt:isiB "tuple" "int"=false:=by decide+kernel
theorem zlk:isiB "list" "int"=false:=by decide+kernel
theorem zko:isiB "dict" "int"=false:=by decide+kernel
theorem isi_tt:isiB "tuple" "tuple"=true:=by decide+kernel
theorem isi_ll:isiB "list" "list"=true:=by decide+kernel
theorem scal_ii{i j:Int}:scal (.int i) (.int j)=true:=rfl
theorem scal_bb{i j:Bool}:scal (.bl i) (.bl j)=true:=rfl
theorem za2{H:Hp}{p:Addr}(h:H p=none)(o:HO):Same H (upd H p o):=fun b u q=>by rw[za6 (za8 q h)];exact q
theorem cbig{i j:Int}{m n:Nat}(h1:i.natAbs<2^m)(h2:j.natAbs<2^n)(hm:m<=1000000:=by decide)(hn:n<=1000000:=by decide):CBig i j:=
 ⟨ko h1 (UL (by decide) hm),ko h2 (UL (by decide) hn)⟩
theorem cdivb{i j:Int}{n:Nat}(h0:j≠0)(h:j.natAbs<2^n)(hn:n<=8999:=by decide):CDivB i j:=⟨h0,ko h (UL (by decide) hn)⟩
def getI(σ:St)(i:Nat):Int:=match σ[i]? with
 |some (some (.int x))=>x
 |_=>0
theorem sz0:(0<=sizeLine)=True:=eq_true (by decide)
theorem sz1:(1<=sizeLine)=True:=eq_true (by decide)
theorem sz2:(2<=sizeLine)=True:=eq_true (by decide)
theorem sz3:(3<=sizeLine)=True:=eq_true (by decide)
theorem sz4:(4<=sizeLine)=True:=eq_true (by decide)
def NS(e:Expr):Prop:=∀es env,pX (e::es) env=(false,eval e env)::pX es env
theorem za4{a b c}:NS (Expr.Constant a b c):=fun _ _=>rfl
theorem za1{a b}:NS (Expr.Name a b):=fun _ _=>rfl
theorem zak{a b c d}:NS (Expr.Call a b c d):=fun _ _=>rfl
theorem za5{a b c d}:NS (Expr.BinOp a b c d):=fun _ _=>rfl
theorem zgv{a b c}:NS (Expr.UnaryOp a b c):=fun _ _=>rfl
theorem zaj{a b c}:NS (Expr.Tuple a b c):=fun _ _=>rfl
theorem za3{a b c}:NS (Expr.Subscript a b c):=fun _ _=>rfl
theorem zf2{a b c d}:NS (Expr.ListComp a b c d):=fun _ _=>rfl
section
variable{X:Cx}
theorem pa1{e1:Expr}{t1:TE}(h1:PE X e1 t1)(n1:NS e1):PA X [e1] (tCons t1 tNil):=(zc7 h1 zde (n1 _ _))
theorem pa2{e1 e2:Expr}{t1 t2:TE}(h1:PE X e1 t1)(n1:NS e1)(h2:PE X e2 t2)(n2:NS e2):PA X [e1,e2] (tCons t1 (tCons t2 tNil)):=(zc7 h1 (zc7 h2 zde (n2 _ _)) (n1 _ _))
theorem pa3{e1 e2 e3:Expr}{t1 t2 t3:TE}(h1:PE X e1 t1)(n1:NS e1)(h2:PE X e2 t2)(n2:NS e2)(h3:PE X e3 t3)(n3:NS e3):PA X [e1,e2,e3] (tCons t1 (tCons t2 (tCons t3 tNil))):=(zc7 h1 (zc7 h2 (zc7 h3 zde (n3 _ _)) (n2 _ _)) (n1 _ _))
theorem pa4{e1 e2 e3 e4:Expr}{t1 t2 t3 t4:TE}(h1:PE X e1 t1)(n1:NS e1)(h2:PE X e2 t2)(n2:NS e2)(h3:PE X e3 t3)(n3:NS e3)(h4:PE X e4 t4)(n4:NS e4):PA X [e1,e2,e3,e4] (tCons t1 (tCons t2 (tCons t3 (tCons t4 tNil)))):=(zc7 h1 (zc7 h2 (zc7 h3 (zc7 h4 zde (n4 _ _)) (n3 _ _)) (n2 _ _)) (n1 _ _))
theorem pa5{e1 e2 e3 e4 e5:Expr}{t1 t2 t3 t4 t5:TE}(h1:PE X e1 t1)(n1:NS e1)(h2:PE X e2 t2)(n2:NS e2)(h3:PE X e3 t3)(n3:NS e3)(h4:PE X e4 t4)(n4:NS e4)(h5:PE X e5 t5)(n5:NS e5):PA X [e1,e2,e3,e4,e5] (tCons t1 (tCons t2 (tCons t3 (tCons t4 (tCons t5 tNil))))):=(zc7 h1 (zc7 h2 (zc7 h3 (zc7 h4 (zc7 h5 zde (n5 _ _)) (n4 _ _)) (n3 _ _)) (n2 _ _)) (n1 _ _))
theorem pss2{e1 e2:Stmt}{t1 t2:TS}(h1:PS X e1 t1)(h2:PS X e2 t2):PSs X [e1,e2] (tSeq t1 t2):=(za7 h1 (zae h2))
theorem pss3{e1 e2 e3:Stmt}{t1 t2 t3:TS}(h1:PS X e1 t1)(h2:PS X e2 t2)(h3:PS X e3 t3):PSs X [e1,e2,e3] (tSeq t1 (tSeq t2 t3)):=(za7 h1 (za7 h2 (zae h3)))
theorem pss4{e1 e2 e3 e4:Stmt}{t1 t2 t3 t4:TS}(h1:PS X e1 t1)(h2:PS X e2 t2)(h3:PS X e3 t3)(h4:PS X e4 t4):PSs X [e1,e2,e3,e4] (tSeq t1 (tSeq t2 (tSeq t3 t4))):=(za7 h1 (za7 h2 (za7 h3 (zae h4))))
theorem pss5{e1 e2 e3 e4 e5:Stmt}{t1 t2 t3 t4 t5:TS}(h1:PS X e1 t1)(h2:PS X e2 t2)(h3:PS X e3 t3)(h4:PS X e4 t4)(h5:PS X e5 t5):PSs X [e1,e2,e3,e4,e5] (tSeq t1 (tSeq t2 (tSeq t3 (tSeq t4 t5)))):=(za7 h1 (za7 h2 (za7 h3 (za7 h4 (zae h5)))))
theorem pss7{e1 e2 e3 e4 e5 e6 e7:Stmt}{t1 t2 t3 t4 t5 t6 t7:TS}(h1:PS X e1 t1)(h2:PS X e2 t2)(h3:PS X e3 t3)(h4:PS X e4 t4)(h5:PS X e5 t5)(h6:PS X e6 t6)(h7:PS X e7 t7):PSs X [e1,e2,e3,e4,e5,e6,e7] (tSeq t1 (tSeq t2 (tSeq t3 (tSeq t4 (tSeq t5 (tSeq t6 t7)))))):=(za7 h1 (za7 h2 (za7 h3 (za7 h4 (za7 h5 (za7 h6 (zae h7)))))))
theorem pss8{e1 e2 e3 e4 e5 e6 e7 e8:Stmt}{t1 t2 t3 t4 t5 t6 t7 t8:TS}(h1:PS X e1 t1)(h2:PS X e2 t2)(h3:PS X e3 t3)(h4:PS X e4 t4)(h5:PS X e5 t5)(h6:PS X e6 t6)(h7:PS X e7 t7)(h8:PS X e8 t8):PSs X [e1,e2,e3,e4,e5,e6,e7,e8] (tSeq t1 (tSeq t2 (tSeq t3 (tSeq t4 (tSeq t5 (tSeq t6 (tSeq t7 t8))))))):=(za7 h1 (za7 h2 (za7 h3 (za7 h4 (za7 h5 (za7 h6 (za7 h7 (zae h8))))))))
theorem pss9{e1 e2 e3 e4 e5 e6 e7 e8 e9:Stmt}{t1 t2 t3 t4 t5 t6 t7 t8 t9:TS}(h1:PS X e1 t1)(h2:PS X e2 t2)(h3:PS X e3 t3)(h4:PS X e4 t4)(h5:PS X e5 t5)(h6:PS X e6 t6)(h7:PS X e7 t7)(h8:PS X e8 t8)(h9:PS X e9 t9):PSs X [e1,e2,e3,e4,e5,e6,e7,e8,e9] (tSeq t1 (tSeq t2 (tSeq t3 (tSeq t4 (tSeq t5 (tSeq t6 (tSeq t7 (tSeq t8 t9)))))))):=(za7 h1 (za7 h2 (za7 h3 (za7 h4 (za7 h5 (za7 h6 (za7 h7 (za7 h8 (zae h9)))))))))
theorem pss11{e1 e2 e3 e4 e5 e6 e7 e8 e9 e10 e11:Stmt}{t1 t2 t3 t4 t5 t6 t7 t8 t9 t10 t11:TS}(h1:PS X e1 t1)(h2:PS X e2 t2)(h3:PS X e3 t3)(h4:PS X e4 t4)(h5:PS X e5 t5)(h6:PS X e6 t6)(h7:PS X e7 t7)(h8:PS X e8 t8)(h9:PS X e9 t9)(h10:PS X e10 t10)(h11:PS X e11 t11):PSs X [e1,e2,e3,e4,e5,e6,e7,e8,e9,e10,e11] (tSeq t1 (tSeq t2 (tSeq t3 (tSeq t4 (tSeq t5 (tSeq t6 (tSeq t7 (tSeq t8 (tSeq t9 (tSeq t10 t11)))))))))):=(za7 h1 (za7 h2 (za7 h3 (za7 h4 (za7 h5 (za7 h6 (za7 h7 (za7 h8 (za7 h9 (za7 h10 (zae h11)))))))))))
end
section
variable{X:Cx}{pins:List (Addr×Obj)}{σ:St}{H:Hp}{s:Shared}{h':Heap}
theorem Inv.turnedNew{t':Nat}{ch:List Addr}{T:Addr}{xs:List V}(I:Inv X pins σ H s)(hf:∀b∈ch,FpOk X pins H b)(k:∀b o,b∉ch->s.heap.get? b=some o->h'.get? b=some o)
  (hT:s.heap.objs.size<=T)(new:ObjOk X.prog X.w (upd H T (.tup xs)) h' T (.tup xs)):Inv X pins σ (upd H T (.tup xs)) {s with heap:=h',toks:=t'}:=by
 have hn:H T=none:=I.hok.fresh hT;have nit:∀b u,H b=some u->b∉ch:=fun b u e z=>by rw[(hf b z).1] at e;cases e
 refine I.step (g':=s.gens) (d':=s.drawn) (ch:=ch) (fun b hb=>?_) (fun b o _ _ hc e _=>k b o hc e) (fun b o _ _ hc e _=>⟨o.slots,k b o hc e⟩) (fun b o _ e n=>?_)
  (fun b o hc e=>⟨o,k b o hc e⟩) (fun b ys e=>?_) (fun b o u e=>?_) (fun b ps e=>⟨#[],?_⟩) (fun m hm=>?_) (fun b u e=>?_) I.bare
 ·obtain⟨_,f1,_,f3,f4,f5⟩:=hf b hb;exact⟨f3,f1,f4,f5⟩
 ·rw[za6 (pD (ko (kT e) hT))];exact n
 ·rw[za6 (za8 e hn)];exact e
 ·rw[za6 (za8 e hn)];exact e
 ·rw[za6 (za8 e hn),e];simp
 ·obtain⟨o,es,ep,ho,r⟩:=hm;exact⟨o,es,ep,k _ o (fun z=>(hf _ z).2.1 rfl) ho,r⟩
 ·by_cases hb:b=T
  ·subst hb;rw[upd_same] at e;cases e;exact new
  ·rw[za6 hb] at e;refine(I.hok b u e).stay (fun c v hc q=>k c v ?_ q) (fun c q=>by rw[za6 (za8 q hn)];exact q) fun c ys q=>by rw[za6 (za8 q hn)];exact q
   rcases hc with z|z
   ·rw[z];exact nit b u e
   ·exact nit c _ z
theorem Inv.turnedL{t':Nat}{ch:List Addr}(I:Inv X pins σ H s)(hf:∀b∈ch,FpOk X pins H b)(k:∀b o,b∉ch->s.heap.get? b=some o->h'.get? b=some o):Inv X pins σ H {s with heap:=h',toks:=t'}:=by
 have nit:∀b u,H b=some u->b∉ch:=fun b u e z=>by rw[(hf b z).1] at e;cases e
 refine I.step (g':=s.gens) (d':=s.drawn) (ch:=ch) (fun b hb=>?_) (fun b o _ _ hc e _=>k b o hc e) (fun b o _ _ hc e _=>⟨o.slots,k b o hc e⟩) (fun _ _ _ _ n=>n)
  (fun b o hc e=>⟨o,k b o hc e⟩) (fun _ _ e=>e) (fun _ _ _ e=>e) (fun b ps e=>⟨#[],by rw[e];simp⟩) (fun m hm=>?_) (fun b u e=>?_) I.bare
 ·obtain⟨_,f1,_,f3,f4,f5⟩:=hf b hb;exact⟨f3,f1,f4,f5⟩
 ·obtain⟨o,es,ep,ho,r⟩:=hm;exact⟨o,es,ep,k _ o (fun z=>(hf _ z).2.1 rfl) ho,r⟩
 ·refine(I.hok b u e).stay (fun c v hc q=>k c v ?_ q) (fun _ q=>q) fun _ _ q=>q;rcases hc with z|z
  ·rw[z];exact nit b u e
  ·exact nit c _ z
end
def Itz(K:kC)(l1 l2:Addr):It:=
 ⟨fun i H=>∃xs ys x y,SqL K H l1 xs/\SqL K H l2 ys/\xs[i]?=some x/\ys[i]?=some y,
  fun i H v H'=>∃T x y,H T=none/\v=.ref T/\H'=upd H T (.tup [x,y])/\(∀xs,SqL K H l1 xs->xs[i]?=some x)/\(∀ys,SqL K H l2 ys->ys[i]?=some y),
  fun i H=>∃xs ys,SqL K H l1 xs/\SqL K H l2 ys/\(xs.length<=i∨ys.length<=i)⟩
def ZipSt(z TI TO i1 i2 l1 l2:Addr)(i:Nat)(h:Heap):Prop:=∃a b,IsZip h z TI TO .none/\IsPair h TI (.ref i1) (.ref i2)/\IsPair h TO a b/\h.IsListIter i1 l1 i/\h.IsListIter i2 l2 i
theorem turn_zip{P:Program}{w:World}{K:kC}{elts:List Expr}{x1:Nat}{pos:Pos}{z TI TO i1 i2 l1 l2:Addr}(D:Bj z TI TO i1 i2 l1 l2):
  Turn P w K (.Tuple elts x1 pos) (Itz K l1 l2) [z,TI,TO,i1,i2] z (ZipSt z TI TO i1 i2 l1 l2) where
 mem:=by simp
 obj:=fun i h st b hb=>by
  obtain⟨a,b',hz,hTI,hTO,h1,h2⟩:=st;simp only[kh,pP,or_false] at hb;rcases hb with rfl|rfl|rfl|rfl|rfl
  ·exact⟨_,hz,fun v q=>by cases q⟩
  ·exact⟨_,hTI,fun v q=>by cases q⟩
  ·exact⟨_,hTO,fun v q=>by cases q⟩
  ·obtain⟨o,e,c,d⟩:=h1;exact⟨o,e,fun v q=>by rw[d] at q;cases q⟩
  ·obtain⟨o,e,c,d⟩:=h2;exact⟨o,e,fun v q=>by rw[d] at q;cases q⟩
 keep:=fun i h h' st k=>by
  obtain⟨a,b',hz,hTI,hTO,h1,h2⟩:=st;exact⟨a,b',k z (by simp) _ hz,k TI (by simp) _ hTI,k TO (by simp) _ hTO,h1.at fun o e=>k i1 (by simp) o e,h2.at fun o e=>k i2 (by simp) o e⟩
 item:=by
  intro X hP hw hK hc i pins s σ H E I hf st hg;subst hP hw hK;obtain⟨xs,ys,x,y,hq1,hq2,hx,hy⟩:=hg;obtain⟨a,b',hz,hTI,hTO,h1,h2⟩:=st;obtain⟨its1,rv1,p1,_⟩:=I.list hq1;obtain⟨its2,rv2,p2,_⟩:=I.list hq2;obtain⟨u1,hu1,ru1⟩:=rv1.get hx;obtain⟨u2,hu2,ru2⟩:=rv2.get hy;refine wpAny_pyNext_zip_item D hz hTI hTO h1 h2 p1.isList p2.isList (x:=u1) (y:=u2) (by simpa using hu1) (by simpa using hu2) fun h₁ z1 t1 j1 j2 pr sz kk=>⟨_,rfl,?_⟩
  refine jY z1 fun h₂ z2 sb=>?_;have lt:∀b∈[z,TI,TO,i1,i2],b≠s.heap.objs.size:=fun b hb e=>by
   have:∃o,s.heap.get? b=some o:=by
    simp only[kh,pP,or_false] at hb;rcases hb with rfl|rfl|rfl|rfl|rfl
    ·exact⟨_,hz⟩
    ·exact⟨_,hTI⟩
    ·exact⟨_,hTO⟩
    ·obtain⟨o,e,_⟩:=h1;exact⟨o,e⟩
    ·obtain⟨o,e,_⟩:=h2;exact⟨o,e⟩
   obtain⟨o,q⟩:=this;exact absurd (kT q) (by rw[e];exact QX _)
  have nz:∀{b:Addr},b≠z->∀{o},h₁.get? b=some o->h₂.get? b=some o:=fun{b} hb{o} e=>(sb.2 b hb).trans e;have zT:s.heap.objs.size≠z:=(lt z (by simp)).symm
  have hnT:H s.heap.objs.size=none:=I.hok.fresh (kI _);have new:ObjOk X.prog X.w (upd H s.heap.objs.size (.tup [x,y])) h₂ s.heap.objs.size (.tup [x,y]):=
   ⟨by show 2<=sizeLine;decide,[u1,u2],.cons ru1 (.cons ru2 .nil),⟨_,nz zT pr,rfl,_,rfl⟩⟩
  have I1:=Inv.turnedNew (h':=h₂) (t':=s.toks) (ch:=[z,TI,TO,i1,i2]) I hf (fun b o hb e=>nz (by simp at hb;exact hb.1) (kk b o (by simp at hb;exact hb.1) (by simp at hb;exact hb.2.2.1) (by simp at hb;exact hb.2.2.2.1) (by simp at hb;exact hb.2.2.2.2) e)) (kI _) new
  refine⟨.ref s.heap.objs.size,_,I1,rfl,⟨_,x,y,hnT,rfl,rfl,fun ys' hy'=>by rw[I.list_inj hy' hq1];exact hx,fun ys' hy'=>by rw[I.list_inj hy' hq2];exact hy⟩,⟨u1,u2,z2,?_,?_,?_,?_⟩,fun b hb=>by rw[za6 (lt b hb)];exact(hf b hb).1⟩
  ·exact nz D.TIz (kk TI _ D.TIz D.TITO D.TIi1 D.TIi2 hTI)
  ·exact nz D.TOz t1
  ·exact j1.at fun o e=>nz D.i1z e
  ·exact j2.at fun o e=>nz D.i2z e
 done:=by
  intro X hP hw hK hc i pins s σ H E I hf st hg;subst hP hw hK;obtain⟨xs,ys,hq1,hq2,hl⟩:=hg;obtain⟨a,b',hz,hTI,hTO,h1,h2⟩:=st;obtain⟨its1,rv1,p1,_⟩:=I.list hq1;obtain⟨its2,rv2,p2,_⟩:=I.list hq2;have e1:=rv1.length;have e2:=rv2.length;refine wpAny_pyNext_zip_end (I.ok.hd hc) D hz hTI hTO h1 h2 p1.isList p2.isList ?_ fun h₁ kk=>⟨rfl,?_⟩
  ·rcases hl with hl|hl
   ·exact .inl (by simp;omega)
   ·exact .inr (by simp;omega)
  ·exact I.turnedL (t':=s.toks) (ch:=[z,TI,TO,i1,i2]) hf (fun b o hb e=>kk b o (by simp at hb;exact hb.1) (by simp at hb;exact hb.2.2.1) (by simp at hb;exact hb.2.2.2.1) (by simp at hb;exact hb.2.2.2.2) e)
 self:=fun _ _ _ _ _ st h=>by
  obtain⟨a,b',hz,_⟩:=st;exact vc hz h
section
variable{X:Cx}
def iZip(K:kC)(ta:TA):TI:=fun σ H R=>ta σ H fun vs H1=>∃l1 l2 xs ys,vs=[.ref l1,.ref l2]/\SqL K H1 l1 xs/\SqL K H1 l2 ys/\R (Itz K l1 l2) H1
theorem zly:bootBuiltins "zip"=some (.type "zip"):=by decide+kernel
theorem pi_zip{a b:Expr}{ta:TA}{p pos tpos:Pos}{elts:List Expr}{x1:Nat}(hg:Gl X "zip")(hm:X.mg "zip"=none)(ha:PA X [a,b] ta)(hs:pX [a,b] X.env=[(false,eval a X.env),(false,eval b X.env)]:=by rfl)
  (hs2:pX [b] X.env=[(false,eval b X.env)]:=by rfl):PI X (.Tuple elts x1 tpos) (.Call (.Name "zip" p) [a,b] [] pos) (iZip X.K ta):=by
 intro pins s σ H R I h;refine Call_ (ze2 I hg hm zly (uS (thn (ha pos pins s σ H _ I h) fun us s1⟨vs,H1,I1,r1,q1⟩=>?_) (by rw[hs,hs2]) (by rw[hs2];rfl)))
 obtain⟨l1,l2,xs,ys,e,hq1,hq2,q⟩:=q1;subst e;obtain⟨u,w',rfl,ru,rw'⟩:=vals2 r1
 cases ru
 cases rw';obtain⟨its1,rv1,p1,_⟩:=I1.list hq1;obtain⟨its2,rv2,p2,_⟩:=I1.list hq2;refine call_zip_2 p1.isList p2.isList fun h' hz hTI hTO hi1 hi2 sz kk=>?_;refine vc hz ?_;have D:=zipApart_new (n:=s1.heap.objs.size) p1.lt p2.lt;have I2:Inv X pins σ H1 {s1 with heap:=h'}:=I1.kept (t':=s1.toks) kk;refine⟨_,_,_,_,H1,rfl,I2,turn_zip D,⟨_,_,hz,hTI,hTO,hi1,hi2⟩,fun b hb=>?_,q⟩;have hb':s1.heap.objs.size<=b:=by
  simp only[kh,pP,or_false] at hb;rcases hb with rfl|rfl|rfl|rfl|rfl
  ·exact UR _ _
  ·exact UR _ _
  ·exact UR _ _
  ·exact kI _
  ·exact UR _ _
 exact I1.fpOk hb' (I1.hok.fresh hb')
end
theorem zls{K:kC}{l1 l2:Addr}{xs ys:List V}{g:TG}{tb:TS}{D:Ends}{σ:St}{H:Hp}(Pv:Nat->St->Hp->Prop)(h0:Pv 0 σ H)(hl:∀i σ H,Pv i σ H->SqL K H l1 xs/\SqL K H l2 ys)(he:xs.length=ys.length)
  (hs:∀i x y T σ H,xs[i]?=some x->ys[i]?=some y->Pv i σ H->H T=none->g (.ref T) σ (upd H T (.tup [x,y])) fun σ2 H2=>tb {D with nx:=Pv (i+1),ct:=Pv (i+1),bk:=D.nx} σ2 H2)(hd:∀σ H,Pv xs.length σ H->D.nx σ H):
  ∃W:Nat->Nat->St->Hp->Prop,(∃m,W 0 m σ H)/\∀i m σ H,W i m σ H->
   ((Itz K l1 l2).stop i H/\D.nx σ H)∨((Itz K l1 l2).go i H/\∃N:St->Hp->Prop,(∀σ' H',N σ' H'->∃m',m'<m/\W (i+1) m' σ' H')/\∀x H',(Itz K l1 l2).yld i H x H'->g x σ H' fun σ2 H2=>tb {D with nx:=N,ct:=N,bk:=D.nx} σ2 H2):=by
 refine⟨fun i m σ H=>m=xs.length-i/\i<=xs.length/\Pv i σ H,⟨xs.length,by simp,pI _,h0⟩,?_⟩
 rintro i m σ H ⟨rfl,hi,p⟩;obtain⟨q1,q2⟩:=hl i σ H p
 by_cases hlt:i<xs.length
 ·have hlt2:i<ys.length:=by omega
  refine .inr ⟨⟨xs,ys,xs[i],ys[i],q1,q2,by simp[hlt],by simp[hlt2]⟩,Pv (i+1),fun σ' H' p'=>⟨xs.length-(i+1),by omega,rfl,hlt,p'⟩,fun v H' y=>?_⟩
  obtain⟨T,x,y,hT,rfl,rfl,y1,y2⟩:=y;exact hs i x y T σ H (y1 xs q1) (y2 ys q2) p hT
 ·have e:i=xs.length:=by omega
  subst e;exact .inl ⟨⟨xs,ys,q1,q2,.inl (kI _)⟩,hd σ H p⟩
theorem zgl{α β:Type}(g:α->β->β){f:α->β->Sem (ForInStep β)}:∀{l:List α}(c:β),(∀x∈l,∀c,f x c=pure (.yield (g x c)))->forIn l c f=pure (l.foldl (fun c x=>g x c) c)
 |[],c,_=>rfl
 |x::l,c,h=>by
  have hx:=h x ku c;rw[vC,hx,CC];exact zgl g (g x c) fun y hy=>h y (pB _ hy)
def addCell(env:Env)(x:Str×NameKind)(c:List (Str×Addr)):List (Str×Addr):=
 if x.2==uK then(match env.cells.lookup x.1 with|some a=>(x.1,a)::c|none=>c) else c
theorem zfw{env:Env}:∀(l:List (Str×NameKind))(acc:List (Str×Addr)),(∀n c,acc.lookup n=some c->env.cells.lookup n=some c)->
  ∀n c,(l.foldl (fun c x=>addCell env x c) acc).lookup n=some c->env.cells.lookup n=some c
 |[],acc,h,n,c,e=>h n c e
 |x::l,acc,h,n,c,e=>by
  refine zfw l (addCell env x acc) (fun n c e=>?_) n c e;unfold addCell at e
  split at e
  ·split at e
   ·rename_i a ha
    rw[pz] at e
    split at e
    ·rename_i hb
     have hn:n=x.1:=by simpa using hb
     cases e;rw[hn];exact ha
    ·exact h n c e
   ·exact h n c e
  ·exact h n c e
theorem zft{env:Env}:∀(l:List (Str×NameKind))(acc:List (Str×Addr))(n:Str),((∃c,acc.lookup n=some c)∨((n,uK)∈l/\∃c,env.cells.lookup n=some c))->
  ∃c,(l.foldl (fun c x=>addCell env x c) acc).lookup n=some c
 |[],acc,n,h=>by
  rcases h with h|⟨h,_⟩
  ·exact h
  ·cases h
 |x::l,acc,n,h=>by
  refine zft l (addCell env x acc) n ?_;rcases h with⟨c,h⟩|⟨h,c,hc⟩
  ·left;unfold addCell
   split
   ·split
    ·rw[pz]
     split
     ·exact⟨_,rfl⟩
     ·exact⟨c,h⟩
    ·exact⟨c,h⟩
   ·exact⟨c,h⟩
  ·rcases kh.mp h with e|h
   ·left;subst e;unfold addCell;have ef:(uK==uK)=true:=rfl;have en:(n==n)=true:=by simp
    simp only[ef,if_true,hc,pz,en];exact⟨c,rfl⟩
   ·exact .inr ⟨h,c,hc⟩
theorem closure_of{scope:Scope}{env:Env}(hf:∀n,(n,uK)∈scope.names->∃c,env.cells.lookup n=some c):
  ∃cl,closureFor scope env=pure cl/\(∀n c,cl.lookup n=some c->env.cells.lookup n=some c)/\∀n,(n,uK)∈scope.names->∃c,cl.lookup n=some c:=by
 refine⟨scope.names.foldl (fun c x=>addCell env x c) [],?_,zfw _ _ (fun n c e=>by simp at e),fun n h=>zft _ _ n (.inr ⟨h,hf n h⟩)⟩
 simp only[closureFor];rw[zgl (addCell env) [] (fun x hx c=>?_)]
 ·rfl
 ·obtain⟨n,kind⟩:=x
  by_cases hk:kind=.free
  ·subst hk;obtain⟨a,ha⟩:=hf n hx;have ef:(uK==uK)=true:=rfl
   simp[cellOf,ha,addCell,ef]
  ·have e:(kind==uK)=false:=by simpa using hk
   simp[e,addCell]
theorem zdh(env:Env)(x:Str):∀names:List (Str×NameKind),
  (names.map fun(n,k)=>if(k==uK&&env.scope.kind==.function&&env.kindOf n==some .cell) then(n,AK) else(n,k)).lookup x=
  (names.lookup x).map fun k=>if(k==uK&&env.scope.kind==.function&&env.kindOf x==some .cell) then AK else k
 |[]=>rfl
 |(n,k)::r=>by
  have ih:=zdh env x r;rw[pE]
  by_cases e:x=n
  ·subst e;have ex:(x==x)=true:=by simp
   by_cases c:(k==uK&&env.scope.kind==.function&&env.kindOf x==some .cell)=true
   ·dsimp only;rw[if_pos c,pz,ex,pz,ex];exact congrArg some (if_pos c).symm
   ·dsimp only;rw[if_neg c,pz,ex,pz,ex];exact congrArg some (if_neg c).symm
  ·have e':(x==n)=false:=by simpa using e
   by_cases c:(k==uK&&env.scope.kind==.function&&env.kindOf n==some .cell)=true
   ·dsimp only;rw[if_pos c,pz,e',pz,e'];exact ih
   ·dsimp only;rw[if_neg c,pz,e',pz,e'];exact ih
structure CompScope(dsc:Scope)(N:List Str)(scope:Scope)(own:List Str)(ix:List Nat):Prop where
 kind:scope.kind=.function
 nocell:∀y∈scope.names,y.2≠AK
 names:∀y∈scope.names,y.2=NameKind.local->scope.names.lookup y.1=some .local
 free:∀y∈scope.names,y.2=uK->dsc.names.lookup y.1=some .cell∨dsc.names.lookup y.1=some .free
 ix:∀i∈ix,i<N.length/\scope.names.lookup (N.getD i "")=some .free
def Cx.comp(X:Cx)(scope:Scope)(own:List Str)(ix:List Nat)(cl:List (Str×Addr))(C:Addr)(fp:List Addr)(s:Shared)(H:Hp)(xe:Value->Shared->Prop):Cx:=
 {X with N:=own++ix.map (fun i=>X.N.getD i ""),s₀:=s,H₀:=H,env:=compEnvC scope cl C X.env,outer:=X.stack,ex:=fp,fn:=fun _=>false,pn:=[],xe:=xe}
theorem comp_K{X:Cx}{scope:Scope}{own:List Str}{ix:List Nat}{cl:List (Str×Addr)}{C:Addr}{fp:List Addr}{s:Shared}{H:Hp}{xe:Value->Shared->Prop}:(X.comp scope own ix cl C fp s H xe).K=X.K:=rfl
def selC(k:Nat)(ix:List Nat)(σ:St):St:=Uk k none++ix.map (fun i=>(σ[i]?).join)
section
variable{X:Cx}{pins:List (Addr×Obj)}{σ:St}{H H4:Hp}{s s4:Shared}{dsc scope:Scope}{own:List Str}{ix:List Nat}{cl:List (Str×Addr)}{C:Addr}{fp:List Addr}{xe:Value->Shared->Prop}
theorem comp_fp(I:Inv X pins σ H s)(hf:∀b∈fp,FpOk X pins H b){b:Addr}(hb:b∈fp):b∉frs X.stack:=fun hs=>by
 obtain⟨_,f1,f2,_⟩:=hf b hb;rcases kh.mp (I.stkSub b hs) with e|e
 ·exact f1 e
 ·exact f2 e
theorem Inv.comp(I:Inv X pins σ H s)(hd:X.env.scope=dsc)(S:CompScope dsc X.N scope own ix)(cs:∀n c,cl.lookup n=some c->X.env.cells.lookup n=some c)(ch:∀n,(n,uK)∈scope.names->∃c,cl.lookup n=some c)
  (hf:∀b∈fp,FpOk X pins H b)(ho:∀b∈fp,∃o,s.heap.get? b=some o)(I4:Inv X pins σ H4 s4)(un:Un (frs X.stack) fp H H4 s.heap s4.heap)(hC:s.heap.objs.size<=C)(hn:∃m,s4.heap.Ns C m)(hC0:H4 C=none):
  Inv (X.comp scope own ix cl C fp s H xe) [] (selC own.length ix σ) H4 s4:=by
 have kfree:∀x,scope.names.lookup x=some .free->(compEnvC scope cl C X.env).kindOf x=some .cell∨(compEnvC scope cl C X.env).kindOf x=some .free:=fun x h=>by
  have e:(compEnvC scope cl C X.env).kindOf x=_:=zdh X.env x scope.names;rw[e,h,uM]
  split
  ·exact .inl rfl
  ·exact .inr rfl
 have kback:∀x,((compEnvC scope cl C X.env).kindOf x=some .cell∨(compEnvC scope cl C X.env).kindOf x=some .free)->scope.names.lookup x=some .free:=fun x h=>by
  have e:(compEnvC scope cl C X.env).kindOf x=_:=zdh X.env x scope.names;rw[e] at h
  cases q:scope.names.lookup x with
  |none=>rw[q] at h;rcases h with h|h<;>cases h
  |some k=>
   have nc:=S.nocell _ (pe q);rw[q,uM] at h
   cases k<;>first|rfl|exact absurd rfl nc|(rcases h with h|h<;>cases h)
 refine⟨⟨I.ok.mod,S.kind,I.ok.glob,I.ok.blt,hC,fun x y c h1 h2=>I.ok.inj x y c (cs x c h1) (cs y c h2),fun x hx=>ch x (pe (kback x hx)),fun x c h=>(nomatch h),I.ok.hd,I.ok.frames,.inl rfl,fun b hb=>⟨fun z=>?_,fun x c e=>(hf b hb).2.2.2.2.1 x c (cs x c e)⟩,
  I.bs,kz I.ok.bsz I.sz,fun b o e hb=>?_,fun b hb=>comp_fp I hf hb,I.stack,I.stkFree⟩,I4.os.trans I.os.symm,I4.bare,un,?_,fun x c e=>I4.cell x c (cs x c e),hC0,fun x c e=>I4.freeC x c (cs x c e),fun p hp=>(nomatch hp),I4.hok,?_⟩
 ·obtain⟨o,e⟩:=ho b hb;have z':b=C:=z;exact absurd (ko (kT e) (by rw[z'];exact hC)) (QX _)
 ·rcases(hf b hb).2.2.2.1 with z|z
  ·exact I.ok.noex b o e z
  ·exact absurd (ko (kT e) (kz I.ok.bsz z)) (QX _)
 ·obtain⟨m,hm⟩:=hn;refine⟨m,hm,fun i x v e1 e2 _=>?_⟩;have e1':(own++ix.map (fun i=>X.N.getD i ""))[i]?=some x:=e1;unfold selC at e2
  by_cases hi:i<own.length
  ·rw[uY (by rw[UB];exact hi),jy,if_pos hi] at e2
   cases e2
  ·rw[uV (by rw[UB];omega),UB,ke] at e2
   rw[uV (by omega),ke] at e1'
   cases q:ix[i-own.length]? with
   |none=>rw[q] at e2;cases e2
   |some j=>
    rw[q] at e1' e2;rw[uM,QB] at e1' e2;obtain⟨hj,hfr⟩:=S.ix j (kg q);rw[e1'] at hfr;have eN:X.N[j]?=some x:=by
     rw[kL hj,←e1',kB,kL hj];rfl
    have es:σ[j]?=some (some v):=by
     cases w:σ[j]? with
     |none=>rw[w] at e2;cases e2
     |some o=>rw[w] at e2;exact congrArg some e2
    have kd:=S.free _ (pe hfr) rfl;rw[←hd] at kd;obtain⟨m4,hm4,hl⟩:=I4.loc;obtain⟨u,r,l⟩:=hl j x v eN es (.inr kd);refine⟨u,r,.inr ⟨kfree x hfr,?_⟩⟩;rcases l with⟨k,_⟩|⟨_,c,ec,cell⟩
    ·have k':X.env.scope.names.lookup x=some .local:=k;rcases kd with z|z<;>(rw[k'] at z;cases z)
    ·obtain⟨c',ec'⟩:=ch x (pe hfr);have z:=cs x c' ec';rw[ec] at z
     cases z;exact⟨c,ec',cell⟩
 ·show(selC own.length ix σ).length=(own++ix.map (fun i=>X.N.getD i "")).length
  unfold selC;rw[kK,kK,UB,kN,kN]
theorem Inv.outOf{pins':List (Addr×Obj)}{σ':St}{H':Hp}{s':Shared}(I:Inv X pins σ H s)(hf:∀b∈fp,FpOk X pins H b)(J:Inv (X.comp scope own ix cl C fp s H xe) pins' σ' H' s'):Inv X pins σ H' s':=
 I.call' J.os J.base J.hok J.bare fun b hb=>by
  obtain⟨_,f1,_,f3,f4,f5⟩:=hf b hb;exact⟨f3,f1,f4,f5⟩
end
abbrev testsOf(ifs:List Expr)(env:Env):Sem Bool:=forIn ifs true fun c r=>if r=true then do let ok ←isTrue c env (eval c env);pure (BO ok) else pure (BO r)
def PIf(X:Cx)(ifs:List Expr)(t:TT):Prop:=
 ∀(pins:List (Addr×Obj))(s:Shared)(σ:St)(H:Hp)(Q:Bool->Hp->Prop),Inv X pins σ H s->t σ H Q->wpAny (model X.prog X.w) X.A (testsOf ifs X.env) (TP X pins σ Q) X.xe s
def tYes:TT:=fun _ H Q=>Q true H
theorem zfn{X:Cx}:PIf X [] tYes:=fun _ _ _ H _ I h=>wpAny_tests_nil ⟨H,I,h⟩
theorem zhm{X:Cx}{c:Expr}{t:TT}(h:PT X c t):PIf X [c] t:=fun pins s σ H Q I q=>wpAny_tests_one (h pins s σ H Q I q)
section
variable{prog:Program}{w:World}{A:Around}{R:Result->Shared->Prop}{s:Shared}
abbrev nb(prog:Program)(w:World)(A:Around)(env:Env)(R:Result->Shared->Prop):Value->Shared->Prop:=notedBy (model prog w) A env fun e s'=>R (.error e) s'
theorem comp_loop{elt target iter:Expr}{ifs:List Expr}{scope:Scope}{pos:Pos}{it acc:Value}{env:Env}(I:Nat->Shared->Prop)
  (turn:∀n s,I n s->wpAny (model prog w) A (pyNext it) (fun r s₁=>(r=none/\R (.ok .next) s₁)∨∃v,r=some v/\
   wpAny (model prog w) A (letOwnedTupleGo target it v) (fun _ s₂=>wpAny (model prog w) A (assign target env v) (fun _ s₃=>wpAny (model prog w) A (testsOf ifs env) (fun ok s₄=>
    if ok=true then wpAny (model prog w) A (eval elt env) (fun x s₅=>wpAny (model prog w) A (call (.builtin "list.append") [acc,x]) (fun _ s₆=>∃m,m<n/\I m s₆) (nb prog w A env R) s₅) (nb prog w A env R) s₄
    else ∃m,m<n/\I m s₄) (nb prog w A env R) s₃) (nb prog w A env R) s₂) (nb prog w A env R) s₁) (nb prog w A env R) s)
  (n:Nat) (h:I n s):codeAny (model prog w) A (.compLoop (.ListComp elt [⟨target,iter,ifs,0⟩] scope pos) 0 it acc env) R s:=by
 refine codeAny_loop rfl I (fun n s hI=>?_) n h;refine wpAny_noted ?_;have e:=compTurn_list elt target iter ifs scope pos it acc env;show wpAny (model prog w) A (compTurn (.ListComp elt [⟨target,iter,ifs,0⟩] scope pos) 0 it acc env) _ _ s;rw[e];refine kA (vf (kA (thn (turn n s hI) fun r s₁ h₁=>?_)));rcases h₁ with⟨rfl,h₁⟩|⟨v,rfl,h₁⟩
 ·exact kM h₁
 ·refine kA (thn h₁ fun _ s₂ h₂=>kA (thn h₂ fun _ s₃ h₃=>kA (thn h₃ fun ok s₄ h₄=>?_)))
  cases ok with
  |false=>exact kM ⟨rfl,h₄⟩
  |true=>
   refine kA (kA (thn h₄ fun x s₅ h₅=>kA (thn h₅ fun _ s₆ h₆=>?_)));exact kM (kM ⟨rfl,h₆⟩)
end
def tComp(k:Nat)(ix:List Nat)(wi:TI)(g:TG)(ti:TT)(te:TE):TE:=fun σ H Q=>wi σ H fun J H1=>∀D,H1 D=none->∃W:Nat->Nat->Hp->Prop,(∃m,W 0 m (upd H1 D (.lst [])))/\∀i m H2,W i m H2->
 (J.stop i H2/\Q (.ref D) H2)∨(J.go i H2/\∀x H3,J.yld i H2 x H3->g x (selC k ix σ) H3 fun σ4 H4=>ti σ4 H4 fun b H5=>if b=true then te σ4 H5 fun y H6=>∃ys,H6 D=some (.lst ys)/\ys.length<sizeLine/\∃m',m'<m/\W (i+1) m' (upd H6 D (.lst (ys++[y])))
  else ∃m',m'<m/\W (i+1) m' H5)
section
variable{X:Cx}{pins:List (Addr×Obj)}{σ:St}{H:Hp}{s:Shared}{dsc scope:Scope}{own:List Str}{ix:List Nat}{elt tg iter:Expr}{ifs:List Expr}{pos:Pos}{wi:TI}{g:TG}{ti:TT}{te:TE}
def CompBody(X:Cx)(scope:Scope)(own:List Str)(ix:List Nat)(tg:Expr)(ifs:List Expr)(elt:Expr)(g:TG)(ti:TT)(te:TE):Prop:=
 ∀cl C fp s H xe,PG (X.comp scope own ix cl C fp s H xe) tg g/\PIf (X.comp scope own ix cl C fp s H xe) ifs ti/\PE (X.comp scope own ix cl C fp s H xe) elt te
theorem zj4{use:Option (Value->Sem Unit)}{RQ:Value->Shared->Prop}{Q:VK}{p0:Pos}(hc:X.calm=true)(hd:X.env.scope=dsc)(S:CompScope dsc X.N scope own ix)(hi:PI X tg iter wi)(hb:CompBody X scope own ix tg ifs elt g ti te)
  (hs:∀x,foldedSetIterable iter X.env x=pure x)(I:Inv X pins σ H s)(h:tComp own.length ix wi g ti te σ H Q)
  (fin:∀D C H' s',Inv X pins σ H' s'->FpOk X pins H' C->(∃m,s'.heap.Ns C m)->Q (.ref D) H'->compPost (model X.prog X.w) X.A X.xe use RQ (.ref D) C (.ok .next) s'):
  wpAny (model X.prog X.w) X.A (comprehension (.ListComp elt [⟨tg,iter,ifs,0⟩] scope pos) scope X.env p0 (newList []) false (eval iter X.env) use) RQ X.xe s:=by
 obtain⟨cl,hcl,cs,ch⟩:=closure_of (scope:=scope) (env:=X.env) fun n hn=>I.ok.has n (by
  have z:=S.free _ hn rfl;rw[←hd] at z;exact z)
 refine wpAny_comprehension_free rfl hs hcl S.kind S.names (thn (hi pins s σ H _ I h) fun v s1 h1=>thn h1 fun itv s2 h2=>?_);obtain⟨it,fp,tn,J,H2,e,I2,T,st2,f2,W⟩:=h2;subst e;have hD0:H2 s2.heap.objs.size=none:=I2.fresh;obtain⟨W,⟨m0,w0⟩,turn⟩:=W _ hD0;have I3:=I2.lnew (ys:=[]) (its:=[]) (t':=s2.toks) .nil (pI _);refine Qn (vk S.nocell (by intro y hy;cases hy) (fun h₁ hns₁ hsb₁=>?_) S.kind)
 dsimp only at hns₁ hsb₁⊢;generalize hH3:s2.heap.push {cls:=.type "list",dict:=none,data:=.seq ([]:List Value).toArray}=g3 at hns₁ hsb₁⊢;have hC:g3.objs.size=s2.heap.objs.size+1:=by rw[←hH3,US]
 have old3:∀b o,g3.get? b=some o->h₁.get? b=some o:=fun b o e=>hsb₁.extBut b o (pD (kT e)) (kF _ e);have old:∀b o,s2.heap.get? b=some o->h₁.get? b=some o:=fun b o e=>old3 b o (by rw[←hH3];exact kF _ e)
 have I4:Inv X pins σ (upd H2 s2.heap.objs.size (.lst [])) {s2 with heap:=h₁,toks:=s2.toks+0}:=I3.kept (t':=s2.toks+0) fun b o e=>old3 b o (by rw[←hH3];exact e)
 have fpo:∀b∈fp,∃o,s2.heap.get? b=some o:=fun b hb=>let⟨o,e,_⟩:=T.obj _ _ st2 b hb;⟨o,e⟩;have hC0:upd H2 s2.heap.objs.size (.lst []) g3.objs.size=none:=by
  rw[za6 (by rw[hC];exact Nat.succ_ne_self _)]
  exact I2.hok.fresh (by rw[hC];exact Qt _)
 have hCs:s2.heap.objs.size<=g3.objs.size:=by rw[hC];exact Qt _
 have into:∀{H':Hp}{s':Shared}{xe:Value->Shared->Prop},Inv X pins σ H' s'->Un (frs X.stack) fp H2 H' s2.heap s'.heap->(∃m,s'.heap.Ns g3.objs.size m)->H' g3.objs.size=none->Inv (X.comp scope own ix cl g3.objs.size fp s2 H2 xe) [] (selC own.length ix σ) H' s':=
  fun I' un hn h0=>I2.comp hd S cs ch f2 fpo I' un hCs hn h0
 have stat:∀{H':Hp}{xe:Value->Shared->Prop}{σ':St}{s':Shared},Inv (X.comp scope own ix cl g3.objs.size fp s2 H2 xe) [] σ' H' s'->(∀b∈fp,H' b=none)->∀b∈fp,FpOk (X.comp scope own ix cl g3.objs.size fp s2 H2 xe) [] H' b:=fun{H' xe σ' s'} K hn b hb=>
  ⟨hn b hb,(K.ok.exf b hb).1,K.ok.exfs b hb,.inl hb,(K.ok.exf b hb).2,fun p hp=>nomatch hp⟩
 have loop:∀s₃:Shared,s₃={s2 with heap:=h₁,toks:=s2.toks+0}->
   codeAny (model X.prog X.w) X.A (.compLoop (.ListComp elt [⟨tg,iter,ifs,0⟩] scope pos) 0 (.ref it) (.ref s2.heap.objs.size) (compEnvC scope cl g3.objs.size X.env)) (compPost (model X.prog X.w) X.A X.xe use RQ (.ref s2.heap.objs.size) g3.objs.size) s₃:=by
  rintro s₃ rfl;generalize hxe:nb X.prog X.w X.A (compEnvC scope cl g3.objs.size X.env) (compPost (model X.prog X.w) X.A X.xe use RQ (.ref s2.heap.objs.size) g3.objs.size)=xe;obtain⟨hg,hif,hel⟩:=hb cl g3.objs.size fp s2 H2 xe;refine comp_loop (fun n s'=>∃i H',Inv (X.comp scope own ix cl g3.objs.size fp s2 H2 xe) [] (selC own.length ix σ) H' s'/\tn i s'.heap/\(∀b∈fp,H' b=none)/\W i n H') ?_ m0
   ⟨0,_,into I4 (Un.laid old (kI _) hD0) ⟨_,hns₁⟩ hC0,T.keep _ _ _ st2 fun b hb o e=>old b o e,fun b hb=>?_,w0⟩
  ·rintro n s3 ⟨i,H3,K3,st3,fr3,w3⟩;rw[hxe];rcases turn i n H3 w3 with⟨stop,qn⟩|⟨go,step⟩
   ·refine thn (T.done (X.comp scope own ix cl g3.objs.size fp s2 H2 xe) rfl rfl rfl hc i [] s3 _ H3 xe K3 (stat K3 fr3) st3 stop) fun r s4⟨hr,K4⟩=>.inl ⟨hr,?_⟩;obtain⟨m,hm,_⟩:=K4.loc;exact fin _ _ H3 s4 (I2.outOf f2 K4) (I2.fpOk hCs K4.free) ⟨m,hm⟩ qn
   ·refine thn (T.item (X.comp scope own ix cl g3.objs.size fp s2 H2 xe) rfl rfl rfl hc i [] s3 _ H3 xe K3 (stat K3 fr3) st3 go) fun r s4⟨u,hr,h4⟩=>.inr ⟨u,hr,?_⟩;refine thn h4 fun _ s5⟨x,H5,K5,r5,y5,st5,fr5⟩=>?_;have K5':=K5.pinned (stat K5 fr5) (T.obj _ _ st5);refine thn (hg _ s5 _ H5 x u _ K5' r5 (step x H5 y5)) fun _ s6⟨σ6,H6,K6,q6⟩=>?_;refine thn (hif _ s6 σ6 H6 _ K6 q6) fun b s7⟨H7,K7,q7⟩=>?_;have again:∀{σ8:St}{H8:Hp}{s8:Shared},Inv (X.comp scope own ix cl g3.objs.size fp s2 H2 xe) ([]++pinsAt fp s5.heap) σ8 H8 s8->(∃m',m'<n/\W (i+1) m' H8)->∃m,m<n/\∃i H',Inv (X.comp scope own ix cl g3.objs.size fp s2 H2 xe) [] (selC own.length ix σ) H' s8/\tn i s8.heap/\(∀b∈fp,H' b=none)/\W i m H':=fun{σ8 H8 s8} K8⟨m',hm,w8⟩=>by
     obtain⟨m,hm8,_⟩:=K8.loc;refine⟨m',hm,i+1,H8,into (I2.outOf f2 K8) K8.base ⟨m,hm8⟩ K8.free,T.keep _ _ _ st5 fun b hb o e=>(K8.pin (b,o) (kJ _ (kJ _ (zem hb e)))).1,fun b hb=>?_,w8⟩;obtain⟨o,e,d⟩:=T.obj _ _ st5 b hb;exact(K8.pin (b,o) (kJ _ (kJ _ (zem hb e)))).2.1
    cases b with
    |false=>exact again K7 q7
    |true=>
     refine thn (hel _ s7 σ6 H7 _ K7 q7) fun v s8⟨y,H8,K8,r8,ys,e8,z8,q8⟩=>?_;refine thn (zcg (X:=X.comp scope own ix cl g3.objs.size fp s2 H2 xe) _ s8 σ6 H8 (.ref s2.heap.objs.size) [y] (.ref s2.heap.objs.size) [v] (fun _ H'=>∃m',m'<n/\W (i+1) m' H') K8 rfl (.cons r8 .nil) ⟨_,ys,y,rfl,rfl,e8,z8,q8⟩) ?_;rintro u9 s9 ⟨v9,H9,K9,r9,q9⟩;exact again K9 q9
  ·have z:=(f2 b hb).1;obtain⟨o,e⟩:=fpo b hb;rw[za6 (pD (kT e))];exact z
 exact codeAny_compStart_list (loop _ rfl) (T.self _ 0 _ _ _ (T.keep _ _ _ st2 fun b hb o e=>old b o e) (loop _ rfl))
theorem zgi{N:List Str}(hc:X.calm=true)(hd:X.env.scope=dsc)(hN:X.N=N)(S':CompScope dsc N scope own ix)(hi:PI X tg iter wi)(hb:CompBody X scope own ix tg ifs elt g ti te)
  (hs:∀x,foldedSetIterable iter X.env x=pure x:=by intro _;rfl):PE X (.ListComp elt [⟨tg,iter,ifs,0⟩] scope pos) (tComp own.length ix wi g ti te):=by
 have S:CompScope dsc X.N scope own ix:=by rw[hN];exact S'
 intro pins s σ H Q I h;rw[eval_ListComp];refine zj4 (use:=none) hc hd S hi hb hs I h fun D C H' s' I' f' hn q=>?_;obtain⟨m,hm⟩:=hn;obtain⟨f0,f1,f2,f3,f4,f5⟩:=f';exact⟨m,hm,fun h' sb=>⟨.ref D,H',I'.turned (t':=s'.toks) (fun b o hb e=>(sb.2 b hb).trans e) f0 f1 f3 f4 f5,rfl,q⟩⟩
theorem zfo{i:Nat}{x:Str}{N:List Str}{pos' pos1:Pos}(hN:X.N.Nodup)(hx0:X.N[i]?=some x)(hx:Loc X.env.scope x)(hc:X.calm=true)(hd:X.env.scope=dsc)(hN':X.N=N)(S':CompScope dsc N scope own ix)(hi:PI X tg iter wi)(hb:CompBody X scope own ix tg ifs elt g ti te)
  (hsw:swapsWith (.ListComp elt [⟨tg,iter,ifs,0⟩] scope pos) (some (.Name x pos')) pos1.line X.env=pure true:=by rfl)(hf:X.fn x=true∨X.env.scope.names.lookup x=some .local:=by first|exact .inl rfl|exact .inr rfl|assumption)
  (hs:∀x,foldedSetIterable iter X.env x=pure x:=by intro _;rfl):PS X (.Assign [.Name x pos'] (.ListComp elt [⟨tg,iter,ifs,0⟩] scope pos) pos1) (tAsg (tComp own.length ix wi g ti te) (gName i)):=by
 have S:CompScope dsc X.N scope own ix:=by rw[hN'];exact S'
 intro pins s σ H D I h;rw[exec_Assign_Name_used _ _ _ _ hsw]
 have main:=zj4 (p0:=iter.pos) (pos:=pos) (use:=some (assign (.Name x pos') X.env)) (RQ:=fun _ s'=>SP X pins D .next s') hc hd S hi hb hs I h fun l C H' s' I' f' hn q=>by
  obtain⟨m,o,es,ep,ho,hdt,hr⟩:=hn;obtain⟨f0,f1,f2,f3,f4,f5⟩:=f';have Ip:Inv X (pins++[(C,o)]) σ H' s':=I'.pins_of fun p hp=>(kf.mp hp).elim (fun z=>I'.pin p (kJ _ z)) fun z=>by
   have e:p=(C,o):=by simpa using z
   subst e;exact⟨ho,f0,f1,f2,fun v z=>by rw[hdt] at z;cases z⟩
  refine AY (zfg (v:=.ref l) Ip hN hx0 hx rfl (fun s2 I2=>?_) hf);have pc:=I2.pin (C,o) (kJ _ (kJ _ (by simp)))
  refine⟨m,⟨o,es,ep,pc.1,hdt,hr⟩,fun h' sb=>⟨_,H',I2.unpinned.turned (t':=s2.toks) (fun b o hb e=>(sb.2 b hb).trans e) pc.2.1 f1 f3 f4 f5,q⟩⟩
 refine kA (vf (kA ?_));exact kA (thn main fun _ s' hq=>kM (kM hq))
end
def CW(n:Nat)(Pv:Nat->List V->Hp->Prop):Nat->Nat->Hp->Prop:=fun i m H=>m=n-i/\i<=n/\∃ys,Pv i ys H
abbrev CPut(n:Nat)(Pv:Nat->List V->Hp->Prop)(D:Addr)(i:Nat)(y:V)(H:Hp):Prop:=∃ys,H D=some (.lst ys)/\ys.length<sizeLine/\∃m',m'<n-i/\CW n Pv (i+1) m' (upd H D (.lst (ys++[y])))
abbrev CSkip(n:Nat)(Pv:Nat->List V->Hp->Prop)(i:Nat)(H:Hp):Prop:=∃m',m'<n-i/\CW n Pv (i+1) m' H
theorem cw_put{n i:Nat}{Pv:Nat->List V->Hp->Prop}{D:Addr}{y:V}{ys:List V}{H:Hp}(hi:i<n)(hD:H D=some (.lst ys))(hz:ys.length<sizeLine)(p:Pv (i+1) (ys++[y]) (upd H D (.lst (ys++[y])))):CPut n Pv D i y H:=
 ⟨ys,hD,hz,n-(i+1),by omega,rfl,hi,_,p⟩
theorem cw_skip{n i:Nat}{Pv:Nat->List V->Hp->Prop}{ys:List V}{H:Hp}(hi:i<n)(p:Pv (i+1) ys H):CSkip n Pv i H:=⟨n-(i+1),by omega,rfl,hi,_,p⟩
def CompW(J:It)(D:Addr)(g:TG)(ti:TT)(te:TE)(σ':St)(H:Hp)(Q:VK):Prop:=
 ∃W:Nat->Nat->Hp->Prop,(∃m,W 0 m (upd H D (.lst [])))/\∀i m H2,W i m H2->
  (J.stop i H2/\Q (.ref D) H2)∨(J.go i H2/\∀x H3,J.yld i H2 x H3->g x σ' H3 fun σ4 H4=>ti σ4 H4 fun b H5=>if b=true then te σ4 H5 fun y H6=>∃ys,H6 D=some (.lst ys)/\ys.length<sizeLine/\∃m',m'<m/\W (i+1) m' (upd H6 D (.lst (ys++[y])))
   else ∃m',m'<m/\W (i+1) m' H5)
theorem zax{k:Nat}{ix:List Nat}{wi:TI}{g:TG}{ti:TT}{te:TE}{σ:St}{H:Hp}{Q:VK}(h:wi σ H fun J H1=>∀D,H1 D=none->CompW J D g ti te (selC k ix σ) H1 Q):tComp k ix wi g ti te σ H Q:=h
theorem zl7{J:It}{D:Addr}{g:TG}{ti:TT}{te:TE}{σ':St}{H:Hp}{Q:VK}(n:Nat)(Pv:Nat->List V->Hp->Prop)(h0:Pv 0 [] (upd H D (.lst [])))(hgo:∀i ys H,i<n->Pv i ys H->J.go i H)(hst:∀ys H,Pv n ys H->J.stop n H)
  (hs:∀i ys H x H3,i<n->Pv i ys H->J.yld i H x H3->g x σ' H3 fun σ4 H4=>ti σ4 H4 fun b H5=>if b=true then te σ4 H5 fun y H6=>CPut n Pv D i y H6 else CSkip n Pv i H5)
  (hd:∀ys H,Pv n ys H->Q (.ref D) H):CompW J D g ti te σ' H Q:=by
 refine⟨CW n Pv,⟨n,rfl,pI _,[],h0⟩,?_⟩;rintro i m H2 ⟨rfl,hi,ys,p⟩
 by_cases hlt:i<n
 ·exact .inr ⟨hgo i ys H2 hlt p,fun x H3 y=>hs i ys H2 x H3 hlt p y⟩
 ·have e:i=n:=by omega
  subst e;exact .inl ⟨hst ys H2 p,hd ys H2 p⟩
theorem zau{K:kC}{a D:Addr}{xs:List V}{g:TG}{ti:TT}{te:TE}{σ':St}{H:Hp}{Q:VK}(Pv:Nat->List V->Hp->Prop)(h0:Pv 0 [] (upd H D (.lst [])))(hl:∀i ys H,Pv i ys H->SqL K H a xs)
  (hs:∀i ys H x,i<xs.length->xs[i]?=some x->Pv i ys H->g x σ' H fun σ4 H4=>ti σ4 H4 fun b H5=>if b=true then te σ4 H5 fun y H6=>CPut xs.length Pv D i y H6 else CSkip xs.length Pv i H5)
  (hd:∀ys H,Pv xs.length ys H->Q (.ref D) H):CompW (Itl K a) D g ti te σ' H Q:=by
 refine zl7 xs.length Pv h0 (fun i ys H hi p=>⟨xs,xs[i],hl i ys H p,by simp[hi]⟩) (fun ys H p=>⟨xs,hl _ ys H p,kI _⟩) (fun i ys H x H3 hi p y=>?_) hd
 obtain⟨e,y⟩:=y;subst e;exact hs i ys _ x hi (y xs (hl i ys _ p)) p
theorem zfp{D:Addr}{lo:Int}{n:Nat}{g:TG}{ti:TT}{te:TE}{σ':St}{H:Hp}{Q:VK}(Pv:Nat->List V->Hp->Prop)(h0:Pv 0 [] (upd H D (.lst [])))
  (hs:∀i ys H,i<n->Pv i ys H->g (.int (lo+i)) σ' H fun σ4 H4=>ti σ4 H4 fun b H5=>if b=true then te σ4 H5 fun y H6=>CPut n Pv D i y H6 else CSkip n Pv i H5)
  (hd:∀ys H,Pv n ys H->Q (.ref D) H):CompW (Itr lo n) D g ti te σ' H Q:=by
 refine zl7 n Pv h0 (fun i ys H hi p=>hi) (fun ys H p=>kI _) (fun i ys H x H3 hi p y=>?_) hd;obtain⟨e,y⟩:=y;subst e y;exact hs i ys _ hi p
mutual
def RdD(K:kC)(H:Hp):PyData->V->Prop
 |.none,v=>v=.non
 |.bool b,v=>v=.bl b
 |.int i,v=>v=.int i
 |.str x,v=>v=.str x
 |.list ds,v=>∃p xs,v=.ref p/\SqL K H p xs/\RdDs K H ds xs
 |.tuple ds,v=>∃p xs,v=.ref p/\SqT K H p xs/\RdDs K H ds xs
 |.dict _,_=>False
def RdDs(K:kC)(H:Hp):List PyData->List V->Prop
 |[],xs=>xs=[]
 |d::ds,xs=>∃x r,xs=x::r/\RdD K H d x/\RdDs K H ds r
end
section
variable{X:Cx}{pins:List (Addr×Obj)}{σ:St}{H:Hp}{s:Shared}
mutual
theorem zd0(I:Inv X pins σ H s):∀(d:PyData)(v:V)(u:Value),RdD X.K H d v->RelV v u->∃as,Reads s.heap u d as
 |.none,v,u,h,r=>by
  rw[RdD] at h;subst h;cases r;exact⟨_,.none⟩
 |.bool b,v,u,h,r=>by
  rw[RdD] at h;subst h;cases r;exact⟨_,.bool b⟩
 |.int i,v,u,h,r=>by
  rw[RdD] at h;subst h;obtain⟨t,rfl⟩:=r;exact⟨_,.int i t⟩
 |.str x,v,u,h,r=>by
  rw[RdD] at h;subst h;obtain⟨t,rfl⟩:=r;exact⟨_,.str x t⟩
 |.list ds,v,u,h,r=>by
  rw[RdD] at h;obtain⟨p,xs,rfl,hq,hs⟩:=h
  cases r;obtain⟨its,rv,pl,hz⟩:=I.list hq;obtain⟨o,ho,hc,n,hd⟩:=pl.isList;obtain⟨as,ra⟩:=zgp I ds xs its hs rv;exact⟨_,reads_list_at ho hc hd (by simpa using ra)⟩
 |.tuple ds,v,u,h,r=>by
  rw[RdD] at h;obtain⟨p,xs,rfl,hq,hs⟩:=h
  cases r;obtain⟨its,rv,pl,hz⟩:=I.tuple hq;obtain⟨o,ho,hc,n,hd⟩:=pl;obtain⟨as,ra⟩:=zgp I ds xs its hs rv;exact⟨_,reads_tuple_at ho hc hd (by simpa using ra)⟩
 |.dict kvs,v,u,h,r=>by
  rw[RdD] at h;exact h.elim
theorem zgp(I:Inv X pins σ H s):∀(ds:List PyData)(xs:List V)(us:List Value),RdDs X.K H ds xs->Vals xs us->∃as,ReadsAll s.heap us ds as
 |[],xs,us,h,r=>by
  rw[RdDs] at h;subst h;cases r;exact⟨_,.nil⟩
 |d::ds,xs,us,h,r=>by
  rw[RdDs] at h;obtain⟨x,xr,rfl,hx,hr⟩:=h
  cases r with
  |cons r1 r2=>
   obtain⟨as,ra⟩:=zd0 I d _ _ hx r1;obtain⟨bs,rb⟩:=zgp I ds _ _ hr r2;exact⟨_,.cons ra rb⟩
end
end
def rEqD(K:kC):R2:=fun x y H Q=>∃d e,RdD K H d x/\RdD K H e y/\uv d=true/\uv e=true/\Q (.bl (pj d e)) H
def rNeD(K:kC):R2:=fun x y H Q=>∃d e,RdD K H d x/\RdD K H e y/\uv d=true/\uv e=true/\Q (.bl (!PyData.eqv d e)) H
theorem hu64{A:Around}{k:Nat}(hr:Room k A):A.units+64<cLine:=by have:=hr.un;omega
section
variable{X:Cx}
theorem ziq(hu:X.A.units+64<cLine):OpR X (compareOp .Eq) (rEqD X.K):=by
 intro pins s σ H x y v u Q I rx ry h;obtain⟨d,e,hd,he,sd,se,q⟩:=h;obtain⟨as,ra⟩:=zd0 I d x v hd rx;obtain⟨bs,rb⟩:=zd0 I e y u he ry;exact eq_dataH ra rb sd se hu ⟨.bl (pj d e),H,I,rfl,q⟩
theorem zha(hu:X.A.units+64<cLine):OpR X (compareOp .NotEq) (rNeD X.K):=by
 intro pins s σ H x y v u Q I rx ry h;obtain⟨d,e,hd,he,sd,se,q⟩:=h;obtain⟨as,ra⟩:=zd0 I d x v hd rx;obtain⟨bs,rb⟩:=zd0 I e y u he ry;exact ne_dataH ra rb sd se hu ⟨.bl (!PyData.eqv d e),H,I,rfl,q⟩
theorem op_sub_bb:OpR X (binaryOp .Sub) (fun x y H Q=>∃i k,x=.bl i/\y=.bl k/\Q (.int (b2i i-b2i k)) H):=by
 intro pins s σ H x y v u Q I rx ry h;obtain⟨i,k,rfl,rfl,q⟩:=h
 cases rx
 cases ry;exact sub_bool ⟨.int (b2i i-b2i k),H,I.tok _,⟨_,rfl⟩,q⟩
end
def dPt(x y w:Int):PyData:=.tuple [.int x,.int y,.int w]
theorem rd_pt{K:kC}{H:Hp}{p:Addr}{x y w:Int}(h:SqT K H p [.int x,.int y,.int w]):RdD K H (dPt x y w) (.ref p):=by
 unfold dPt;rw[RdD];exact⟨p,_,rfl,h,by simp[RdDs,RdD]⟩
theorem zbc(x y w:Int):uv (dPt x y w)=true:=by
 simp[dPt,uv,ug,pN,ud,uF]
theorem zey(x y w x' y' w':Int):pj (dPt x y w) (dPt x' y' w')=decide (x=x'/\y=y'/\w=w'):=by
 simp only[dPt,pj,pU,Bt]
 by_cases h1:x=x'<;>by_cases h2:y=y'<;>by_cases h3:w=w'<;>simp[h1,h2,h3]
section
variable{X:Cx}
theorem IxR.imp{r r':R2}(h:IxR X r)(i:∀x y H Q,r' x y H Q->r x y H Q):IxR X r':=fun value slice pins s σ H x y v u Q I rx ry q hs=>h value slice pins s σ H x y v u Q I rx ry (i x y H Q q) hs
theorem CallR.imp{f:Value}{r r':List V->Hp->VK->Prop}(h:CallR X f r)(i:∀xs H Q,r' xs H Q->r xs H Q):CallR X f r':=fun pins s σ H xs us Q I rv q=>h pins s σ H xs us Q I rv (i xs H Q q)
def rIxTH:R2:=fun x y H Q=>∃p xs i v,x=.ref p/\y=.int i/\H p=some (.tup xs)/\atI xs i=some v/\Q v H
def rIxLH:R2:=fun x y H Q=>∃p xs i v,x=.ref p/\y=.int i/\H p=some (.lst xs)/\atI xs i=some v/\Q v H
theorem za0:IxR X rIxTH:=ix_tup.imp fun x y H Q⟨p,xs,i,v,e1,e2,h,e3,q⟩=>⟨p,xs,i,v,e1,e2,.of h,e3,q⟩
theorem zaa:IxR X rIxLH:=zf3.imp fun x y H Q⟨p,xs,i,v,e1,e2,h,e3,q⟩=>⟨p,xs,i,v,e1,e2,.of h,e3,q⟩
def rLenH:List V->Hp->VK->Prop:=fun xs H Q=>∃p ys,xs=[.ref p]/\(H p=some (.lst ys)∨H p=some (.tup ys))/\Q (.int ys.length) H
theorem zbw:CallR X (.builtin "len") rLenH:=ze7.imp fun xs H Q⟨p,ys,e,h,q⟩=>⟨p,ys,e,h.imp .of .of,q⟩
def tyF(H:Hp)(x:V):Option String:=match x with
 |.non=>some "NoneType"
 |.bl _=>some "bool"
 |.int _=>some "int"
 |.str _=>some "str"
 |.ref p=>match H p with
  |some (.lst _)=>some "list"
  |some (.tup _)=>some "tuple"
  |_=>none
 |_=>none
theorem tyF_tyN{K:kC}{H:Hp}{x:V}{T:String}(h:tyF H x=some T):tyN K H x T:=by
 cases x with
 |non=>exact(pJ h).symm
 |bl b=>exact(pJ h).symm
 |int i=>exact(pJ h).symm
 |str z=>exact(pJ h).symm
 |ref p=>
  unfold tyF at h;dsimp only at h
  cases q:H p with
  |none=>rw[q] at h;cases h
  |some o=>
   rw[q] at h
   cases o with
   |lst xs=>exact .inl ⟨(pJ h).symm,xs,.of q⟩
   |tup xs=>exact .inr (.inl ⟨(pJ h).symm,xs,.of q⟩)
   |_=>cases h
 |_=>cases h
def rIsiF(T:String):List V->Hp->VK->Prop:=fun xs H Q=>∃x Tx,xs=[x,.ty T]/\tyF H x=some Tx/\Q (.bl (isiB Tx T)) H
theorem isiF{T:String}(h:CallR X (.builtin "isinstance") (rIsi X.K T)):CallR X (.builtin "isinstance") (rIsiF T):=h.imp fun xs H Q⟨x,Tx,e,t,q⟩=>⟨x,Tx,e,tyF_tyN t,q⟩
end
theorem zld{H:Hp}{p:Addr}{xs:List V}(h:H p=some (.lst xs)):tyF H (.ref p)=some "list":=by unfold tyF;dsimp only;rw[h]
theorem zki{H:Hp}{p:Addr}{xs:List V}(h:H p=some (.tup xs)):tyF H (.ref p)=some "tuple":=by unfold tyF;dsimp only;rw[h]
theorem tyF_non{H:Hp}:tyF H .non=some "NoneType":=rfl
theorem tyF_bl{H:Hp}{b:Bool}:tyF H (.bl b)=some "bool":=rfl
theorem tyF_int{H:Hp}{i:Int}:tyF H (.int i)=some "int":=rfl
theorem tyF_str{H:Hp}{z:Str}:tyF H (.str z)=some "str":=rfl
theorem at0{α:Type}{x:α}{r:List α}:atI (x::r) 0=some x:=zaq (j:=0) rfl
theorem at1{α:Type}{x y:α}{r:List α}:atI (x::y::r) 1=some y:=zaq (j:=1) rfl
theorem at2{α:Type}{x y z:α}{r:List α}:atI (x::y::z::r) 2=some z:=zaq (j:=2) rfl
theorem at3{α:Type}{x y z t:α}{r:List α}:atI (x::y::z::t::r) 3=some t:=zaq (j:=3) rfl
theorem at4{α:Type}{x y z t u:α}{r:List α}:atI (x::y::z::t::u::r) 4=some u:=zaq (j:=4) rfl
theorem zar{H H':Hp}{D:Addr}{o:HO}(g:Same H H')(h:H D=none):Same H (upd H' D o):=fun b u q=>by
 rw[za6 (za8 q h)];exact g b u q
section
variable{X:Cx}
theorem SlR.imp{r r':V->Option Int->Option Int->Hp->VK->Prop}(h:SlR X r)(i:∀x lo hi H Q,r' x lo hi H Q->r x lo hi H Q):SlR X r':=fun pins s σ H x v vl vu lo hi sl Q I rx hs pl pu q=>h pins s σ H x v vl vu lo hi sl Q I rx hs pl pu (i x lo hi H Q q)
def rSlH:V->Option Int->Option Int->Hp->VK->Prop:=fun x lo hi H Q=>∃a xs,x=.ref a/\H a=some (.lst xs)/\∀p,H p=none->Q (.ref p) (upd H p (.lst (cutV xs lo hi)))
theorem zek:SlR X rSlH:=sl_list.imp fun x lo hi H Q⟨a,xs,e,h,q⟩=>⟨a,xs,e,.of h,q⟩
def rListH:List V->Hp->VK->Prop:=fun xs H Q=>∃p ys,xs=[.ref p]/\(H p=some (.lst ys)∨H p=some (.tup ys))/\∀l,H l=none->Q (.ref l) (upd H l (.lst ys))
theorem zeg:CallR X (.type "list") rListH:=call_list_of.imp fun xs H Q⟨p,ys,e,h,q⟩=>⟨p,ys,e,h.imp .of .of,q⟩
theorem ze3{K:kC}{H:Hp}{p:Addr}{xs:List V}(h:H p=some (.lst xs)):tyV K "list" (.ref p) H:=.inl ⟨rfl,xs,.of h⟩
theorem zmd:bootBuiltins "min"=some (.builtin "min"):=by decide+kernel
theorem zm4:bootBuiltins "max"=some (.builtin "max"):=by decide+kernel
end
def ForW(J:It)(g:TG)(tb:TS)(D:Ends)(σ:St)(H:Hp):Prop:=∃W:Nat->Nat->St->Hp->Prop,(∃m,W 0 m σ H)/\∀i m σ H,W i m σ H->
 (J.stop i H/\D.nx σ H)∨(J.go i H/\∃N:St->Hp->Prop,(∀σ' H',N σ' H'->∃m',m'<m/\W (i+1) m' σ' H')/\∀x H',J.yld i H x H'->g x σ H' fun σ2 H2=>tb {D with nx:=N,ct:=N,bk:=D.nx} σ2 H2)
theorem zbz{wi:TI}{g:TG}{tb:TS}{D:Ends}{σ:St}{H:Hp}(h:wi σ H fun J H1=>ForW J g tb D σ H1):tFor wi g tb D σ H:=h
section
variable{X:Cx}{pos:Pos}
def gTupH(n:Nat)(t:TGs):TG:=fun v σ H Q=>∃a xs,v=.ref a/\H a=some (.tup xs)/\xs.length=n/\t xs σ H Q
theorem zkb{es:List Expr}{k:Nat}{t:TGs}{n:Nat}(hc:X.calm=true)(h:PGs X es t)(hn:(assignEach es X.env).length=n:=by rfl)(hst:(assignEach es X.env).findIdx? (·.1)=none:=by rfl):PG X (.Tuple es k pos) (gTupH n t):=
 fun pins s σ H v u Q I r hw=>zl9 hc h hn hst pins s σ H v u Q I r (by
  obtain⟨a,xs,e,q,l,z⟩:=hw;exact⟨a,xs,e,.of q,l,z⟩)
end
section
variable{prog:Program}{w:World}{A:Around}{E:Value->Shared->Prop}{s:Shared}
theorem zh0{c t:Addr}{i:Nat}{its:Array Value}{v:Value}{R:Value->Shared->Prop}(hi:s.heap.IsTupleIter c t i)(ht:s.heap.IsTuple t its)(hv:its[i]?=some v)
  (hR:∀g,g.IsTupleIter c t (i+1)->jD c s.heap g->R v {s with heap:=g}):wpAny (model prog w) A (uZ (.ref c)) R E s:=by
 obtain⟨o,ho,hc,hd⟩:=id hi;obtain⟨o2,ho2,_,n2,hd2⟩:=ht;unfold uZ;refine kA (QQ (name:=pK "__next__") hi.typeIs Qx (Qu Qx hi.typeIs jE ?_ (vt _)));show wpAny _ _ (field (.ref c) 0>>=_) _ _ s;refine kA (Qj ho hd (x:=.ref t) rfl ?_);show wpAny _ _ (if(ut t==pT)=true then _ else _) _ _ s;rw[if_neg (show ¬((ut t==pT)=true) from pF)];show wpAny _ _ (field (.ref c) 1>>=_) _ _ s;refine kA (Qj ho hd (x:=.int i 0) rfl ?_);show wpAny _ _ (seqItems? (.ref t)>>=_) _ _ s;refine kA (uk ho2 hd2 ?_);simp only[UK,hv];refine kA (jL ho hd (by simp) (kM ⟨v,rfl,kM (hR _ ⟨_,uj _ ho (gf (vG hd _)),(Ag ..).trans hc,?_⟩ (Uu ..))⟩));rw[vG hd];simp[rawInt]
theorem nextT_end{c t:Addr}{i:Nat}{its:Array Value}{R:Value->Shared->Prop}(hh:A.handled=none)(hi:s.heap.IsTupleIter c t i)(ht:s.heap.IsTuple t its)(hv:its[i]?=none)
  (hE:∀g e,CP c s.heap g->(∃o,g.get? e=some o/\o.cls=.type "StopIteration")->E (.ref e) {s with heap:=g}):wpAny (model prog w) A (uZ (.ref c)) R E s:=by
 obtain⟨o,ho,hc,hd⟩:=id hi;obtain⟨o2,ho2,_,n2,hd2⟩:=ht;unfold uZ;refine kA (QQ (name:=pK "__next__") hi.typeIs Qx (Qu Qx hi.typeIs jE ?_ (vt _)));show wpAny _ _ (field (.ref c) 0>>=_) _ _ s;refine kA (Qj ho hd (x:=.ref t) rfl ?_);show wpAny _ _ (if(ut t==pT)=true then _ else _) _ _ s;rw[if_neg (show ¬((ut t==pT)=true) from pF)];show wpAny _ _ (field (.ref c) 1>>=_) _ _ s;refine kA (Qj ho hd (x:=.int i 0) rfl ?_);show wpAny _ _ (seqItems? (.ref t)>>=_) _ _ s;refine kA (uk ho2 hd2 ?_);simp only[UK,hv];refine kA (Qa (kA (jL ho hd (by simp) ?_)));show wpAny _ _ (newExc (.type "StopIteration") []>>=_) _ _ _
 refine kA ?_;simp only[newExc,newTuple];refine kA (Qn ?_ (by size_fits))
 refine kA (m:=firstArgMember _ _) (BK (a:=pT) (by first|rfl|(simp only[firstArgMember];rfl)) ?_);refine Qn ?_ (by size_fits)
 simp only[raiseNew];refine kA (wpAny_handled ?_);first|rw[show A.in1.handled=none from hh]|rw[hh]
 refine kA (kM (wpAny_throw ?_));exact hE _ _ (((Uu ..).extBut.push _).push _) ⟨_,kY _ rfl,rfl⟩
theorem zipT_next{z p q i1 i2 l1 l2:Addr}{k1 k2:Nat}{xs ys:Array Value}{x y a b:Value}{R:Option Value->Shared->Prop}(D:Bj z p q i1 i2 l1 l2)(hz:IsZip s.heap z p q .none)(hp:IsPair s.heap p (.ref i1) (.ref i2))(hq:IsPair s.heap q a b)
  (h1:s.heap.IsTupleIter i1 l1 k1)(h2:s.heap.IsTupleIter i2 l2 k2)(t1:s.heap.IsTuple l1 xs)(t2:s.heap.IsTuple l2 ys)(hx:xs[k1]?=some x)(hy:ys[k2]?=some y)
  (hR:∀g,IsZip g z p q (rawInt s.heap.objs.size)->IsPair g q x y->g.IsTupleIter i1 l1 (k1+1)->g.IsTupleIter i2 l2 (k2+1)->IsPair g s.heap.objs.size x y->g.objs.size=s.heap.objs.size+1->
   (∀c o,c≠z->c≠q->c≠i1->c≠i2->s.heap.get? c=some o->g.get? c=some o)->R (some (.ref s.heap.objs.size)) {s with heap:=g}):wpAny (model prog w) A (pyNext (.ref z)) R E s:=by
 have hT:s.TypeIs (.ref z) "zip":=⟨_,hz,rfl⟩;unfold pyNext;refine kA (Uh (QQ (name:=pK "__next__") hT vv (Qu vv hT Az ?_ (Ah _))));show wpAny _ _ (field (.ref z) 2>>=_) _ _ s;refine kA (Qj hz rfl (x:=.bool false) rfl ?_);show wpAny _ _ (field (.ref z) 3>>=_) _ _ s;refine kA (Qj hz rfl (x:=.ref p) rfl (kA (uk hp rfl ?_)));show wpAny _ _ (QJ (.ref z)>>=_) _ _ s;refine kA ?_;unfold QJ;refine kA (Qj hz rfl (x:=.none) rfl (kM ?_));simp only[if_true];refine kA (Qa (kA (Qj hz rfl (x:=.ref q) rfl (kA (UY hz (by simp) fun g1 z1 b1=>?_)))))
 replace z1:IsZip g1 z p q .ellipsis:=z1
 refine kA ?_;simp only[hU,BP,vC,jM];refine kA (kA (AL ?_));show wpAny _ _ (uZ (.ref i1)>>=_) _ _ _;refine kA (zh0 (h1.extBut b1.extBut D.i1z) (t1.extBut b1.extBut D.l1z) hx fun g2 j1 b2=>kM ?_);have q2:IsPair g2 q a b:=b2.extBut _ _ D.TOi1 (b1.extBut _ _ D.TOz hq);refine kA (uk q2 rfl (kA (gu q2 fun g3 q3 b3=>?_)));replace q3:IsPair g3 q x b:=q3;refine kA (UV (kM (kA (kA (AL ?_)))));show wpAny _ _ (uZ (.ref i2)>>=_) _ _ _;refine kA (zh0 (((h2.extBut b1.extBut D.i2z).extBut b2.extBut D.i12.symm).extBut b3.extBut D.TOi2.symm) (((t2.extBut b1.extBut D.l2z).extBut b2.extBut D.l2i1).extBut b3.extBut D.l2TO) hy fun g4 j2 b4=>kM ?_);have q4:IsPair g4 q x b:=b4.extBut _ _ D.TOi2 q3;refine kA (uk q4 rfl (kA (gu q4 fun g5 q5 b5=>?_)));replace q5:IsPair g5 q x y:=q5;refine kA (UV (kM (kM (kA (uk q5 rfl (kA (gv ?_)))))));have sz:g5.objs.size=s.heap.objs.size:=by rw[b5.1,b4.1,b3.1,b2.1,b1.1]
 have z5:IsZip g5 z p q .ellipsis:=b5.extBut _ _ D.TOz.symm (b4.extBut _ _ D.i2z.symm (b3.extBut _ _ D.TOz.symm (b2.extBut _ _ D.i1z.symm z1)));have k5:∀c o,c≠z->c≠q->c≠i1->c≠i2->s.heap.get? c=some o->g5.get? c=some o:=fun c o c1 c2 c3 c4 e=>b5.extBut _ _ c2 (b4.extBut _ _ c4 (b3.extBut _ _ c2 (b2.extBut _ _ c3 (b1.extBut _ _ c1 e))));have u1:g5.IsTupleIter i1 l1 (k1+1):=((j1.extBut b3.extBut D.TOi1.symm).extBut b4.extBut D.i12).extBut b5.extBut D.TOi1.symm;have u2:g5.IsTupleIter i2 l2 (k2+1):=j2.extBut b5.extBut D.TOi2.symm;have zl:z<g5.objs.size:=kT z5;show wpAny _ _ (Uv (.ref z) (.ref g5.objs.size)>>=_) _ _ _;refine kA ?_;unfold Uv;have z6:IsZip (g5.push {cls:=.type "tuple",data:=.seq #[x,y]}) z p q .ellipsis:=kF _ z5;refine kA (UY z6 (by simp) fun g7 z7 b7=>?_);replace z7:IsZip g7 z p q (rawInt g5.objs.size):=z7
 refine UY z7 (by simp) fun g8 z8 b8=>?_;replace z8:IsZip g8 z p q (rawInt g5.objs.size):=z8
 have up:∀c o,c≠z->g5.get? c=some o->g8.get? c=some o:=fun c o c1 e=>b8.extBut _ _ c1 (b7.extBut _ _ c1 (kF _ e));have w8:IsPair g8 g5.objs.size x y:=b8.extBut _ _ (vO zl) (b7.extBut _ _ (vO zl) (kY _ rfl));have s8:g8.objs.size=g5.objs.size+1:=by rw[b8.1,b7.1,US]
 rw[sz] at z8 w8 s8;refine kM ⟨_,rfl,kM ?_⟩;show R (some (.ref g5.objs.size)) _;rw[sz];exact hR g8 z8 (up _ _ D.TOz q5) (u1.at fun o e=>up _ o D.i1z e) (u2.at fun o e=>up _ o D.i2z e) w8 s8 fun c o c1 c2 c3 c4 e=>up c o c1 (k5 c o c1 c2 c3 c4 e)
theorem zipT_end{z p q i1 i2 l1 l2:Addr}{k1:Nat}{xs:Array Value}{a b:Value}{R:Option Value->Shared->Prop}(hh:A.handled=none)(D:Bj z p q i1 i2 l1 l2)(hz:IsZip s.heap z p q .none)(hp:IsPair s.heap p (.ref i1) (.ref i2))(hq:IsPair s.heap q a b)
  (h1:s.heap.IsTupleIter i1 l1 k1)(t1:s.heap.IsTuple l1 xs)(hx:xs[k1]?=none)
  (hR:∀g,(∀c o,c≠z->c≠q->c≠i1->c≠i2->s.heap.get? c=some o->g.get? c=some o)->R none {s with heap:=g}):wpAny (model prog w) A (pyNext (.ref z)) R E s:=by
 have hT:s.TypeIs (.ref z) "zip":=⟨_,hz,rfl⟩;unfold pyNext;refine kA (Uh (QQ (name:=pK "__next__") hT vv (Qu vv hT Az ?_ (Ah _))));show wpAny _ _ (field (.ref z) 2>>=_) _ _ s;refine kA (Qj hz rfl (x:=.bool false) rfl ?_);show wpAny _ _ (field (.ref z) 3>>=_) _ _ s;refine kA (Qj hz rfl (x:=.ref p) rfl (kA (uk hp rfl ?_)));show wpAny _ _ (QJ (.ref z)>>=_) _ _ s;refine kA ?_;unfold QJ;refine kA (Qj hz rfl (x:=.none) rfl (kM ?_));simp only[if_true];refine kA (Qa (kA (Qj hz rfl (x:=.ref q) rfl (kA (UY hz (by simp) fun g1 z1 b1=>?_)))))
 replace z1:IsZip g1 z p q .ellipsis:=z1
 refine kA ?_;simp only[hU,BP,vC,jM];refine kA (kA (AL ?_));show wpAny _ _ (uZ (.ref i1)>>=_) _ _ _
 refine kA (nextT_end (by first|exact hh|(show A.in1.handled=none;exact hh)) (h1.extBut b1.extBut D.i1z) (t1.extBut b1.extBut D.l1z) hx fun g2 e b2 he=>?_)
 obtain⟨oe,hoe,ce⟩:=he;have z2:IsZip g2 z p q .ellipsis:=b2 _ _ D.i1z.symm z1;have ez:e≠z:=fun y=>by subst y;rw[z2] at hoe;cases hoe;simp at ce
 refine UY z2 (by simp) fun g3 _ b3=>kA (hV (T:="StopIteration") (b:=true) ⟨oe,b3.extBut _ _ ez hoe,ce⟩ isSubtype_stop (kM (hR g3 fun c o c1 _ c3 _ y=>b3.extBut _ _ c1 (b2 _ _ c3 (b1.extBut _ _ c1 y)))))
end
def zh1(h:Heap)(l:Addr):Heap:=h.push {cls:=.type "tuple_iterator",data:=.fields #[.ref l,.int 0 0]}
def zh2(h:Heap)(l m:Addr):Heap:=(zh1 h l).push {cls:=.type "tuple_iterator",data:=.fields #[.ref m,.int 0 0]}
def zh3(h:Heap)(l m:Addr):Heap:=(zh2 h l m).push {cls:=.type "tuple",data:=.seq #[.ref h.objs.size,.ref (zh1 h l).objs.size]}
def zh4(h:Heap)(l m:Addr):Heap:=(zh3 h l m).push {cls:=.type "tuple",data:=.seq #[.none,.none]}
def zh5(h:Heap)(l m:Addr):Heap:=(zh4 h l m).push {cls:=.type "zip",data:=.fields #[.none,.bool false,.bool false,.ref (zh2 h l m).objs.size,.ref (zh3 h l m).objs.size]}
theorem zipT_new(l m:Addr)(xs ys:Array Value):Meets (Builtin.«zip.__new__» ⟨[.type "zip",.ref l,.ref m],[]⟩) (fun _ R s=>s.heap.IsTuple l xs/\s.heap.IsTuple m ys/\R (.ok (.ret (.ref (zh4 s.heap l m).objs.size))) {s with heap:=zh5 s.heap l m}):=
 .of_wp fun prog w A R s h=>by
  obtain⟨hp,g,d,tk,os⟩:=s;obtain⟨hl1,hl2,h⟩:=h;have hsub:=sub_zip;have L1:CF (CQ ⟨hp,g,d,tk,os⟩) l xs:=hl1;have L2:CF (CQ ⟨hp.push {cls:=.type "tuple_iterator",data:=.fields #[.ref l,.int 0 0]},g,d,tk,os⟩) m ys:=Heap.IsTuple.push hl2 _
  wp_walk using jK L1,jK L2
  exact⟨_,rfl,h⟩
section
variable{prog:Program}{w:World}{A:Around}{E:Value->Shared->Prop}{s:Shared}
theorem call_zipT{l m:Addr}{xs ys:Array Value}{R:Value->Shared->Prop}(t1:s.heap.IsTuple l xs)(t2:s.heap.IsTuple m ys)
  (h:∀g,IsZip g (s.heap.objs.size+4) (s.heap.objs.size+2) (s.heap.objs.size+3) .none->IsPair g (s.heap.objs.size+2) (.ref s.heap.objs.size) (.ref (s.heap.objs.size+1))->IsPair g (s.heap.objs.size+3) .none .none->
   g.IsTupleIter s.heap.objs.size l 0->g.IsTupleIter (s.heap.objs.size+1) m 0->(∀c o,s.heap.get? c=some o->g.get? c=some o)->R (.ref (s.heap.objs.size+4)) {s with heap:=g}):wpAny (model prog w) A (call (.type "zip") [.ref l,.ref m]) R E s:=by
 refine callType_new F.called_zip (by decide) (F.typeCall_zip_2 _ _) (F.newCall_zip_2 _ _) (fun obj=>F.args_object_init_3 obj _ _) F.entry_zip_new (zipT_new l m xs ys) ⟨t1,t2,?_⟩
 have s1:(zh1 s.heap l).objs.size=s.heap.objs.size+1:=US ..;have s2:(zh2 s.heap l m).objs.size=s.heap.objs.size+2:=by unfold zh2;rw[US,s1]
 have s3:(zh3 s.heap l m).objs.size=s.heap.objs.size+3:=by unfold zh3;rw[US,s2]
 have s4:(zh4 s.heap l m).objs.size=s.heap.objs.size+4:=by unfold zh4;rw[US,s3]
 have up:∀{c o},(zh4 s.heap l m).get? c=some o->(zh5 s.heap l m).get? c=some o:=fun e=>kF _ e;have up3:∀{c o},(zh3 s.heap l m).get? c=some o->(zh5 s.heap l m).get? c=some o:=fun e=>up (kF _ e);have up2:∀{c o},(zh2 s.heap l m).get? c=some o->(zh5 s.heap l m).get? c=some o:=fun e=>up3 (kF _ e);have up1:∀{c o},(zh1 s.heap l).get? c=some o->(zh5 s.heap l m).get? c=some o:=fun e=>up2 (kF _ e);have e5:(zh5 s.heap l m).get? (zh4 s.heap l m).objs.size=some {cls:=.type "zip",data:=.fields #[.none,.bool false,.bool false,.ref (zh2 s.heap l m).objs.size,.ref (zh3 s.heap l m).objs.size]}:=kY _ rfl;have e4:(zh5 s.heap l m).get? (zh3 s.heap l m).objs.size=some {cls:=.type "tuple",data:=.seq #[.none,.none]}:=up (kY _ rfl);have e3:(zh5 s.heap l m).get? (zh2 s.heap l m).objs.size=some {cls:=.type "tuple",data:=.seq #[.ref s.heap.objs.size,.ref (zh1 s.heap l).objs.size]}:=up3 (kY _ rfl);have e2:(zh5 s.heap l m).get? (zh1 s.heap l).objs.size=some {cls:=.type "tuple_iterator",data:=.fields #[.ref m,.int 0 0]}:=up2 (kY _ rfl);have e1:(zh5 s.heap l m).get? s.heap.objs.size=some {cls:=.type "tuple_iterator",data:=.fields #[.ref l,.int 0 0]}:=up1 (kY _ rfl);show _/\_;rw[s2,s3,s4] at e5;rw[s1,s2] at e3;rw[s3] at e4;rw[s1] at e2;rw[s4];exact⟨⟨_,e5,rfl⟩,h _ e5 e3 e4 ⟨_,e1,rfl,rfl⟩ ⟨_,e2,rfl,rfl⟩ fun c o x=>up1 (kF _ x)⟩
end
def Ity(K:kC)(l1 l2:Addr):It:=
 ⟨fun i H=>∃xs ys x y,SqT K H l1 xs/\SqT K H l2 ys/\xs[i]?=some x/\ys[i]?=some y,
  fun i H v H'=>∃T x y,H T=none/\v=.ref T/\H'=upd H T (.tup [x,y])/\(∀xs,SqT K H l1 xs->xs[i]?=some x)/\(∀ys,SqT K H l2 ys->ys[i]?=some y),
  fun i H=>∃xs,SqT K H l1 xs/\xs.length<=i⟩
def ZipTt(z p q i1 i2 l1 l2:Addr)(i:Nat)(h:Heap):Prop:=∃a b,IsZip h z p q .none/\IsPair h p (.ref i1) (.ref i2)/\IsPair h q a b/\h.IsTupleIter i1 l1 i/\h.IsTupleIter i2 l2 i
theorem Inv.tup_inj{X:Cx}{pins:List (Addr×Obj)}{σ:St}{H:Hp}{s:Shared}{a:Addr}{xs ys:List V}(I:Inv X pins σ H s)(h1:SqT X.K H a xs)(h2:SqT X.K H a ys):xs=ys:=I.tuple_inj h1 h2
theorem turn_zipT{P:Program}{w:World}{K:kC}{elts:List Expr}{x1:Nat}{pos:Pos}{z p q i1 i2 l1 l2:Addr}(D:Bj z p q i1 i2 l1 l2):
  Turn P w K (.Tuple elts x1 pos) (Ity K l1 l2) [z,p,q,i1,i2] z (ZipTt z p q i1 i2 l1 l2) where
 mem:=by simp
 obj:=fun i h st b hb=>by
  obtain⟨a,b',hz,hp,hq,h1,h2⟩:=st;simp only[kh,pP,or_false] at hb;rcases hb with rfl|rfl|rfl|rfl|rfl
  ·exact⟨_,hz,fun v r=>by cases r⟩
  ·exact⟨_,hp,fun v r=>by cases r⟩
  ·exact⟨_,hq,fun v r=>by cases r⟩
  ·obtain⟨o,e,c,d⟩:=h1;exact⟨o,e,fun v r=>by rw[d] at r;cases r⟩
  ·obtain⟨o,e,c,d⟩:=h2;exact⟨o,e,fun v r=>by rw[d] at r;cases r⟩
 keep:=fun i h h' st k=>by
  obtain⟨a,b',hz,hp,hq,h1,h2⟩:=st;exact⟨a,b',k z (by simp) _ hz,k p (by simp) _ hp,k q (by simp) _ hq,h1.at fun o e=>k i1 (by simp) o e,h2.at fun o e=>k i2 (by simp) o e⟩
 item:=by
  intro X hP hw hK hc i pins s σ H E I hf st hg;subst hP hw hK;obtain⟨xs,ys,x,y,hq1,hq2,hx,hy⟩:=hg;obtain⟨a,b',hz,hp,hq,h1,h2⟩:=st;obtain⟨its1,rv1,p1,_⟩:=I.tuple hq1;obtain⟨its2,rv2,p2,_⟩:=I.tuple hq2;obtain⟨u1,hu1,ru1⟩:=rv1.get hx;obtain⟨u2,hu2,ru2⟩:=rv2.get hy;refine zipT_next D hz hp hq h1 h2 p1 p2 (x:=u1) (y:=u2) (by simpa using hu1) (by simpa using hu2) fun g1 z1 t1 j1 j2 pr sz kk=>⟨_,rfl,?_⟩
  refine jY z1 fun g2 z2 sb=>?_;have lt:∀b∈[z,p,q,i1,i2],b≠s.heap.objs.size:=fun b hb e=>by
   have:∃o,s.heap.get? b=some o:=by
    simp only[kh,pP,or_false] at hb;rcases hb with rfl|rfl|rfl|rfl|rfl
    ·exact⟨_,hz⟩
    ·exact⟨_,hp⟩
    ·exact⟨_,hq⟩
    ·obtain⟨o,e,_⟩:=h1;exact⟨o,e⟩
    ·obtain⟨o,e,_⟩:=h2;exact⟨o,e⟩
   obtain⟨o,r⟩:=this;exact absurd (kT r) (by rw[e];exact QX _)
  have nz:∀{b:Addr},b≠z->∀{o},g1.get? b=some o->g2.get? b=some o:=fun{b} hb{o} e=>(sb.2 b hb).trans e;have zT:s.heap.objs.size≠z:=(lt z (by simp)).symm
  have hnT:H s.heap.objs.size=none:=I.hok.fresh (kI _);have new:ObjOk X.prog X.w (upd H s.heap.objs.size (.tup [x,y])) g2 s.heap.objs.size (.tup [x,y]):=⟨by show 2<=sizeLine;decide,[u1,u2],.cons ru1 (.cons ru2 .nil),⟨_,nz zT pr,rfl,_,rfl⟩⟩
  have I1:=Inv.turnedNew (h':=g2) (t':=s.toks) (ch:=[z,p,q,i1,i2]) I hf (fun b o hb e=>nz (by simp at hb;exact hb.1) (kk b o (by simp at hb;exact hb.1) (by simp at hb;exact hb.2.2.1) (by simp at hb;exact hb.2.2.2.1) (by simp at hb;exact hb.2.2.2.2) e)) (kI _) new
  refine⟨.ref s.heap.objs.size,_,I1,rfl,⟨_,x,y,hnT,rfl,rfl,fun zs hy'=>by rw[I.tup_inj hy' hq1];exact hx,fun zs hy'=>by rw[I.tup_inj hy' hq2];exact hy⟩,⟨u1,u2,z2,?_,?_,?_,?_⟩,fun b hb=>by rw[za6 (lt b hb)];exact(hf b hb).1⟩
  ·exact nz D.TIz (kk p _ D.TIz D.TITO D.TIi1 D.TIi2 hp)
  ·exact nz D.TOz t1
  ·exact j1.at fun o e=>nz D.i1z e
  ·exact j2.at fun o e=>nz D.i2z e
 done:=by
  intro X hP hw hK hc i pins s σ H E I hf st hg;subst hP hw hK;obtain⟨xs,hq1,hl⟩:=hg;obtain⟨a,b',hz,hp,hq,h1,h2⟩:=st;obtain⟨its1,rv1,p1,_⟩:=I.tuple hq1;have e1:=rv1.length;refine zipT_end (I.ok.hd hc) D hz hp hq h1 p1 (by simp;omega) fun g1 kk=>⟨rfl,?_⟩
  exact I.turnedL (t':=s.toks) (ch:=[z,p,q,i1,i2]) hf (fun b o hb e=>kk b o (by simp at hb;exact hb.1) (by simp at hb;exact hb.2.2.1) (by simp at hb;exact hb.2.2.2.1) (by simp at hb;exact hb.2.2.2.2) e)
 self:=fun _ _ _ _ _ st h=>by
  obtain⟨a,b',hz,_⟩:=st;exact vc hz h
section
variable{X:Cx}
def iZipU(K:kC)(ta:TA):TI:=fun σ H R=>ta σ H fun vs H1=>∃l1 l2 xs ys,vs=[.ref l1,.ref l2]/\H1 l1=some (.tup xs)/\H1 l2=some (.tup ys)/\R (Ity K l1 l2) H1
theorem pi_zipT{a b:Expr}{ta:TA}{p pos tpos:Pos}{elts:List Expr}{x1:Nat}(hg:Gl X "zip")(hm:X.mg "zip"=none)(ha:PA X [a,b] ta)(hs:pX [a,b] X.env=[(false,eval a X.env),(false,eval b X.env)]:=by rfl)
  (hs2:pX [b] X.env=[(false,eval b X.env)]:=by rfl):PI X (.Tuple elts x1 tpos) (.Call (.Name "zip" p) [a,b] [] pos) (iZipU X.K ta):=by
 intro pins s σ H R I h;refine Call_ (ze2 I hg hm zly (uS (thn (ha pos pins s σ H _ I h) fun us s1⟨vs,H1,I1,r1,q1⟩=>?_) (by rw[hs,hs2]) (by rw[hs2];rfl)))
 obtain⟨l1,l2,xs,ys,e,e1,e2,r⟩:=q1;subst e;obtain⟨u,w',rfl,ru,rw'⟩:=vals2 r1
 cases ru
 cases rw';obtain⟨its1,rv1,p1,_⟩:=I1.tuple (.of e1);obtain⟨its2,rv2,p2,_⟩:=I1.tuple (.of e2);have lt:∀{t:Addr}{its:Array Value},s1.heap.IsTuple t its->t<s1.heap.objs.size:=fun h=>by obtain⟨o,ho,_⟩:=h;exact kT ho
 refine call_zipT p1 p2 fun g hz hp hq hi1 hi2 kk=>vc hz ?_;have I2:Inv X pins σ H1 {s1 with heap:=g}:=I1.kept (t':=s1.toks) kk;refine⟨_,_,_,_,H1,rfl,I2,turn_zipT (zipApart_new (n:=s1.heap.objs.size) (lt p1) (lt p2)),⟨_,_,hz,hp,hq,hi1,hi2⟩,fun b hb=>?_,r⟩;have hb':s1.heap.objs.size<=b:=by
  simp only[kh,pP,or_false] at hb;rcases hb with rfl|rfl|rfl|rfl|rfl<;>omega
 exact I1.fpOk hb' (I1.hok.fresh hb')
end
theorem forW_zipT{K:kC}{l1 l2:Addr}{xs ys:List V}{g:TG}{tb:TS}{D:Ends}{σ:St}{H:Hp}(Pv:Nat->St->Hp->Prop)(h0:Pv 0 σ H)(hl:∀i σ H,Pv i σ H->H l1=some (.tup xs)/\H l2=some (.tup ys))(he:xs.length=ys.length)
  (hs:∀i x y T σ H,xs[i]?=some x->ys[i]?=some y->Pv i σ H->H T=none->g (.ref T) σ (upd H T (.tup [x,y])) fun σ2 H2=>tb {D with nx:=Pv (i+1),ct:=Pv (i+1),bk:=D.nx} σ2 H2)(hd:∀σ H,Pv xs.length σ H->D.nx σ H):
  ∃W:Nat->Nat->St->Hp->Prop,(∃m,W 0 m σ H)/\∀i m σ H,W i m σ H->
   ((Ity K l1 l2).stop i H/\D.nx σ H)∨((Ity K l1 l2).go i H/\∃N:St->Hp->Prop,(∀σ' H',N σ' H'->∃m',m'<m/\W (i+1) m' σ' H')/\∀x H',(Ity K l1 l2).yld i H x H'->g x σ H' fun σ2 H2=>tb {D with nx:=N,ct:=N,bk:=D.nx} σ2 H2):=by
 refine⟨fun i m σ H=>m=xs.length-i/\i<=xs.length/\Pv i σ H,⟨xs.length,by simp,pI _,h0⟩,?_⟩
 rintro i m σ H ⟨rfl,hi,p⟩;obtain⟨q1,q2⟩:=hl i σ H p
 by_cases hlt:i<xs.length
 ·refine .inr ⟨⟨xs,ys,xs[i],ys[i],.of q1,.of q2,by simp[hlt],by simp[he▸hlt]⟩,Pv (i+1),fun σ' H' p'=>⟨xs.length-(i+1),by omega,rfl,hlt,p'⟩,fun v H' y=>?_⟩
  obtain⟨T,x,y,hT,rfl,rfl,y1,y2⟩:=y;exact hs i x y T σ H (y1 xs (.of q1)) (y2 ys (.of q2)) p hT
 ·have e:i=xs.length:=by omega
  subst e;exact .inl ⟨⟨xs,.of q1,kI _⟩,hd σ H p⟩
open PySem.Builtin PySem.Builtin.Str
open PySem.W (KasT kas_asc kas_desc kas_rev kas_tail3 kas_descPart kas_count kas_place kas_bin kas_sort kas_ask kas_item)
def ansT{α:Type}(ans:Nat->Nat->Bool):KasT α->α
 |.ret a=>a
 |.ask i j k=>ansT ans (k (ans i j))
def Asks{α:Type}(n:Nat)(R:α->Prop):KasT α->Prop
 |.ret a=>R a
 |.ask i j k=>i<n/\j<n/\∀b,Asks n R (k b)
theorem Asks.bind{α β:Type}{n:Nat}{R:α->Prop}{S:β->Prop}{f:α->KasT β}:∀{t:KasT α},Asks n R t->(∀a,R a->Asks n S (f a))->Asks n S (t.bind f)
 |.ret a,h,k=>k a h
 |.ask i j g,h,k=>⟨h.1,h.2.1,fun b=>Asks.bind (h.2.2 b) k⟩
theorem Asks.ends{α:Type}{n:Nat}{R:α->Prop}{ans:Nat->Nat->Bool}:∀{t:KasT α},Asks n R t->R (ansT ans t)
 |.ret _,h=>h
 |.ask i j g,h=>Asks.ends (n:=n) (t:=g (ans i j)) (h.2.2 (ans i j))
theorem Asks.wp{α:Type}{n:Nat}{R:α->Prop}{ans:Nat->Nat->Bool}{cmp:Nat->Nat->(Bool->Shared->Prop)->Shared->Prop}{s:Shared}{Q:α->Shared->Prop}(hc:∀i j C,i<n->j<n->C (ans i j) s->cmp i j C s):
  ∀{t:KasT α},Asks n R t->Q (ansT ans t) s->t.kasWp cmp Q s
 |.ret _,_,q=>q
 |.ask i j g,h,q=>hc i j _ h.1 h.2.1 (Asks.wp (n:=n) (t:=g (ans i j)) hc (h.2.2 (ans i j)) q)
def Ord(n:Nat)(p:Array Nat):Prop:=p.toList.Perm (uP n)
theorem Ord.get{n:Nat}{p:Array Nat}(h:Ord n p)(hn:0<n)(i:Nat):p.getD i 0<n:=by
 by_cases hi:i<p.size
 ·have e:p.getD i 0=p[i]:=by simp[UZ,hi]
  rw[e];exact QF.mp (h.mem_iff.mp (by simp))
 ·have e:p.getD i 0=0:=by simp[UZ,hi]
  rw[e];exact hn
theorem Ord.of{n:Nat}{p q:Array Nat}(h:Ord n p)(e:q.Perm p):Ord n q:=(jN.mp e).trans h
theorem Ord.rev{n:Nat}{p:Array Nat}(h:Ord n p)(i j:Nat):Ord n (kas_rev p i j):=h.of (UM _ _ _ _)
theorem zhe{n:Nat}{p:Array Nat}(h:Ord n p)(hn:0<n):∀(f m:Nat),Asks n (fun _=>True) (kas_asc p f m)
 |0,_=>trivial
 |f+1,m=>⟨h.get hn _,h.get hn _,fun b=>by
  cases b with
  |true=>dsimp only;rw[if_pos rfl];trivial
  |false=>dsimp only;rw[if_neg (by decide)];exact zhe h hn f (m+1)⟩
theorem zfm{n:Nat}(hn:0<n):∀(f:Nat){p:Array Nat}(m q:Nat),Ord n p->Asks n (fun r=>Ord n r.1) (kas_desc f p m q)
 |0,_,_,_,h=>h
 |f+1,p,m,q,h=>⟨h.get hn _,h.get hn _,fun b=>by
  cases b with
  |true=>
   dsimp only;rw[if_pos rfl]
   by_cases z:q>0
   ·rw[if_pos z];exact zfm hn f _ _ (h.rev _ _)
   ·rw[if_neg z];exact zfm hn f _ _ h
  |false=>
   dsimp only;rw[if_neg (by decide)]
   refine⟨h.get hn _,h.get hn _,fun d=>?_⟩
   cases d with
   |true=>dsimp only;rw[if_pos rfl];exact h
   |false=>dsimp only;rw[if_neg (by decide)];exact zfm hn f _ _ h⟩
theorem zhc{n a b:Nat}{p:Array Nat}(hn:0<n)(h:Ord n p):Asks n (fun r=>Ord n r.2) (kas_tail3 a b p):=
 Asks.bind (zhe (h.rev _ _) hn _ _) fun _ _=>h.rev _ _
theorem zf5{n a b:Nat}{p:Array Nat}(hn:0<n)(h:Ord n p):Asks n (fun r=>Ord n r.2) (kas_descPart a b p):=
 Asks.bind (zfm hn _ _ _ h) fun r hr=>by
  by_cases z:r.2.2>0
  ·rw[if_pos z];exact zhc hn (hr.rev _ _)
  ·rw[if_neg z];exact zhc hn hr
theorem zh7{n b:Nat}{p:Array Nat}(hn:0<n)(h:Ord n p):Asks n (fun r=>Ord n r.2) (kas_count b p):=
 Asks.bind (zhe h hn _ _) fun m _=>by
  by_cases z:(m==b)=true
  ·rw[if_pos z];exact h
  ·rw[if_neg z]
   by_cases y:m>1
   ·rw[if_pos y];refine⟨h.get hn _,h.get hn _,fun c=>?_⟩
    cases c with
    |true=>dsimp only;rw[if_pos rfl];exact h
    |false=>dsimp only;rw[if_neg (by decide)];exact zf5 hn (h.rev _ _)
   ·rw[if_neg y];exact zf5 hn h
theorem zfq{n:Nat}{p:Array Nat}(hn:0<n)(h:Ord n p)(k:Nat):∀(f l r:Nat),Asks n (fun _=>True) (kas_place p k f l r)
 |0,_,_=>trivial
 |f+1,l,r=>by
  unfold kas_place
  by_cases z:l≥r
  ·rw[if_pos z];trivial
  ·rw[if_neg z];refine⟨h.get hn _,h.get hn _,fun c=>?_⟩
   cases c with
   |true=>dsimp only;rw[if_pos rfl];exact zfq hn h k f _ _
   |false=>dsimp only;rw[if_neg (by decide)];exact zfq hn h k f _ _
theorem zjd{n:Nat}(hn:0<n):∀(f:Nat){p:Array Nat}(k:Nat),Ord n p->Asks n (Ord n) (kas_bin f p k)
 |0,_,_,h=>h
 |f+1,p,k,h=>Asks.bind (zfq hn h k _ _ _) fun l _=>zjd hn f (k+1) (h.of (BL _ _ _))
theorem zin{n:Nat}(hn:0<n):Asks n (Ord n) (kas_sort n):=
 Asks.bind (zh7 hn (by unfold Ord;simp)) fun r hr=>by
  by_cases z:r.1<n
  ·rw[if_pos z];exact zjd hn _ _ hr
  ·rw[if_neg z];exact hr
def Keeps(g h:Heap):Prop:=∀b o,g.get? b=some o->h.get? b=some o
theorem Keeps.push{g h:Heap}(k:Keeps g h)(o:Obj):Keeps g (h.push o):=fun b x e=>kF _ (k b x e)
theorem Keeps.upd{g h:Heap}{a:Addr}{f:Obj->Obj}(k:Keeps g h)(ha:g.objs.size<=a):Keeps g (h.update a f):=fun b x e=>by
 rw[pO _ _ _ _ (pD (ko (kT e) ha))];exact k b x e
theorem range_getD(vs:List Value):((uP vs.length).map fun i=>vs.getD i pT)=vs:=by
 refine List.ext_getElem (by simp) fun i h1 h2=>?_
 have hi:i<vs.length:=h2
 simp[hi]
open PySem.W (KasT kas_sort kas_ask)
def TupI(h:Heap)(v:Value)(ns:List Int):Prop:=∃(a:Addr)(its:Array Value)(n:Nat)(dd:Option Addr)(sl:Array (Option Value)),v=.ref a/\h.get? a=some {cls:=.type "tuple",dict:=dd,data:=.seq its n,slots:=sl}/\IntsAre its.toList ns
def TupP(h:Heap)(v:Value)(ns ms:List Int):Prop:=∃(a:Addr)(x y:Value)(n:Nat)(dd:Option Addr)(sl:Array (Option Value)),v=.ref a/\h.get? a=some {cls:=.type "tuple",dict:=dd,data:=.seq #[x,y] n,slots:=sl}/\TupI h x ns/\TupI h y ms
open PySem.W (KatTups) in
theorem ktups{h:Heap}:∀vs:List Value,(∀v,v∈vs->∃a b,a≠[]/\TupP h v a b)->∃fs,fs.length=vs.length/\KatTups h vs fs/\∀f,f∈fs->∃ns,TupI h f ns
 |[],_=>⟨[],rfl,.nil,fun f hf=>by cases hf⟩
 |v::vs,hv=>by
  obtain⟨fs,l,t,r⟩:=ktups vs fun u hu=>hv u (pB _ hu);obtain⟨a,b,ne,p,x,y,n,dd,sl,rfl,o,i,j⟩:=hv v (ku ..);refine⟨x::fs,by simp[l],.cons o rfl rfl rfl t,fun f hf=>?_⟩
  rcases kh.mp hf with rfl|hf
  ·exact⟨_,i⟩
  ·exact r f hf
theorem zhy:∀{xs:List V}{us:List Value},Vals xs us->∀i,i<xs.length->RelV (xs.getD i .non) (us.getD i pT)
 |_,_,.nil,i,h=>by cases h
 |_,_,.cons r t,0,_=>r
 |_,_,.cons r t,i+1,h=>zhy t i (Nat.lt_of_succ_lt_succ h)
theorem zjj{f:Nat->V}{g:Nat->Value}:∀l:List Nat,(∀i,i∈l->RelV (f i) (g i))->Vals (l.map f) (l.map g)
 |[],_=>.nil
 |i::l,h=>.cons (h i (ku ..)) (zjj l fun j hj=>h j (pB _ hj))
section
variable{X:Cx}{pins:List (Addr×Obj)}{σ:St}{H:Hp}{s:Shared}
theorem tupI_of(I:Inv X pins σ H s){a:Addr}{ns:List Int}(h:H a=some (.tup (ns.map V.int))):TupI s.heap (.ref a) ns:=by
 obtain⟨its,r,⟨⟨cls,dd,data,sl⟩,ho,hc,n,hd⟩,_⟩:=I.tuple (.of h)
 simp only at hc hd
 subst hc hd;exact⟨a,_,n,dd,sl,rfl,ho,zdq r⟩
theorem zg7:bootBuiltins "sorted"=some (.builtin "sorted"):=by decide+kernel
theorem hu100{A:Around}{k:Nat}(hr:Room k A):A.units+100<cLine:=by have:=hr.un;omega
end
structure OnlyT(ts:List Addr)(H:Hp):Prop where
 only:∀b,H b=none∨(∃o xs,H b=some (.frz o (.lst xs)))∨(b∈ts/\H b=some (.tbl #[]))
 tabs:∀b,b∈ts->H b=some (.tbl #[])
theorem law_callT{P:Program}{w:World}{K:kC}{mg mb:Str->Option Value}{CX:CXT}{k:Nat}{fa a:Addr}{fd:FuncData}{x:Str}{sp:Sp}{s₁:Shared}{vs:List Value}{ns:List Int}{ts:List Addr}
  (KX:K.In s₁.heap)(hns:s₁.heap.Ns mainGlobals mg)(hb:s₁.heap.Ns builtinsNs mb)(hbb:∀x:Str,x≠"__name__"->mb x=bootBuiltins x)(hlim:s₁.heap.NoLimit)(hg:s₁.gens=#[])
  (ha:s₁.heap.get? a=some {cls:=.type "list",data:=.seq vs.toArray})(hi:IntsAre vs ns)(hl:ns.length<=sizeLine)(hr:Room k callerA)
  (hT:∀b,b∈ts->s₁.heap.get? b=some (PySem.W.tabObj #[])/\K.lookup b=none/\isCodeTable s₁.heap b)
  (hbm:∃bm ob,mg "__builtins__"=some (.ref bm)/\bm≠builtinsNs/\s₁.heap.get? bm=some ob/\ob.cls=.type "module"/\ob.dict=some builtinsNs/\ob.data=.plain)
  (F:∀base:Heap,K.In base->base.Ns mainGlobals mg->(∀b,b∈ts->base.BuiltinsAt mg b)->FnOk P w K mg base CX k fa fd [x] sp) (hbind:∀(s:Shared)(u:Value),Ac s fd ⟨[u],[]⟩ [(x,u)])
  (hsp:∀H:Hp,OnlyT ts H->SqL K H a (ns.map V.int)->sp [.ref a] H (fun v _=>v=.bl true) fun _ _ _=>False)
  (hCX:∀H e s',CX [] H s₁ (fun _ _ _=>False) e s'->False):
  codeAny (model P w) callerA (.call (.ref fa) ⟨[.ref a],[]⟩) (fun r s'=>r=.ok (.ret (.bool true))/\OldK s₁.heap s'.heap/\s'.os=s₁.os/\jd s'.gens) s₁:=by
 have rv:=zgh hi;have lenV:=hi.length;have naT:a∉ts:=fun z=>by
  have e:=(hT a z).1;rw[ha] at e
  cases e
 have core:∀H:Hp,OnlyT ts H->SqL K H a (ns.map V.int)->HOk P w H s₁.heap->(∀b,H b≠none->b=a∨b∈ts)->(H a≠none->K.lookup a=none)->
   codeAny (model P w) callerA (.call (.ref fa) ⟨[.ref a],[]⟩) (fun r s'=>r=.ok (.ret (.bool true))/\OldK s₁.heap s'.heap/\s'.os=s₁.os/\jd s'.gens) s₁:=by
  intro H hO hS hok hA hK;have base_of:∀{b:Addr}{o:Obj},s₁.heap.get? b=some o->H b=none->(hidT s₁.heap H).get? b=some o:=fun e n=>hidT_get e n;have noD:∀{b:Addr}{o:Obj},s₁.heap.get? b=some o->o.cls≠.none->o.cls≠.type "list"->H b=none:=fun{b o} e d1 d2=>by
   cases q:H b with
   |none=>rfl
   |some u=>
    rcases hA b (by rw[q];simp) with e'|e'
    ·subst e';rw[ha] at e;cases e;exact absurd rfl d2
    ·rw[(hT b e').1] at e;cases e;exact absurd rfl d1
  have noA:∀{b:Addr}{o:Obj}{es:Array DictEntry}{ep:Nat},s₁.heap.get? b=some o->o.data=.dict es ep->H b=none:=fun{b o es ep} e d=>by
   cases q:H b with
   |none=>rfl
   |some u=>
    rcases hA b (by rw[q];simp) with e'|e'
    ·subst e';rw[ha] at e;cases e;have d':CS vs.toArray _=Data.dict es ep:=d
     cases d'
    ·rw[(hT b e').1] at e;cases e;have d':BI #[]=Data.dict es ep:=d
     cases d'
  have nsK:∀{b:Addr}{m:Str->Option Value},s₁.heap.Ns b m->(hidT s₁.heap H).Ns b m:=fun{b m}⟨o,es,ep,e,d,r⟩=>⟨o,es,ep,base_of e (noA e d),d,r⟩;have hKb:K.In (hidT s₁.heap H):=fun b o e=>base_of (KX b o e) (by
   cases q:H b with
   |none=>rfl
   |some u=>
    rcases hA b (by rw[q];simp) with e'|e'
    ·subst e';rw[hK (by rw[q];simp)] at e;cases e
    ·rw[(hT b e').2.1] at e;cases e)
  have hM:Mod K mg (hidT s₁.heap H):=⟨hKb,nsK hns,⟨mb,nsK hb,hbb⟩,let⟨mc,h1,h2⟩:=hlim;⟨mc,nsK h1,h2⟩⟩;have hB:∀b,b∈ts->(hidT s₁.heap H).BuiltinsAt mg b:=fun b hb'=>by
   obtain⟨bm,ob,b1,b2,b3,b4,b5,b6⟩:=hbm;refine⟨bm,ob,b1,b2,fun q=>?_,fun q=>?_,base_of b3 (noD b3 (by rw[b4];simp) (by rw[b4];simp)),b4,b5,b6⟩
   ·obtain⟨o,es,ep,e,d,_⟩:=hns;rw[←q,b3] at e;cases e;rw[b6] at d;cases d
   ·rw[q,(hT b hb').1] at b3;cases b3;cases b4
  have e0:Env0 P w K mg (hidT s₁.heap H) callerA [] s₁ H:=⟨rfl,hM,fun b o e=>of_hidT e,Qq (hidT_size _ _),trivial,fun b hb=>absurd (show b∈([]:List Addr) from hb) (by simp),hok,.of_eq hg⟩
  refine vP ((F _ hKb (nsK hns) hB).run callerA [] s₁ H ⟨[.ref a],[]⟩ [.ref a] [.ref a] _ _ hr e0 (hbind s₁ (.ref a)) (.cons rfl .nil) (hsp H hO hS)) fun r s' h=>?_
  cases r with
  |error e=>exact(hCX H e s' h).elim
  |ok fl=>
   cases fl with
   |next=>exact ui h
   |brk=>exact ui h
   |cont=>exact ui h
   |ret u=>
    obtain⟨v,H',os,bare,un,hok',r',q⟩:=h;have q':v=.bl true:=q;subst q';obtain rfl:u=Ca true:=r';have at':∀b o,s₁.heap.get? b=some o->asItWas s₁.heap s'.heap b o:=fun b o e=>by
     cases q:H b with
     |none=>exact .inl (un.keep b o e q (by intro z;exact absurd (show b∈([]:List Addr) from z) (by simp)) (by simp))
     |some u=>
      rcases hO.only b with z|⟨ob,xs,z⟩|⟨hbt,z⟩
      ·rw[q] at z;cases z
      ·have z2:=un.frzs b ob _ z;obtain⟨e1,_⟩:=hok b _ z;obtain⟨e2,_⟩:=hok' b _ z2;rw[e] at e1;cases e1;exact .inl e2
      ·obtain⟨more,z2⟩:=un.tbls b _ z;have e2:s'.heap.get? b=some {cls:=.none,data:=.fields (#[]++more)}:=hok' b _ z2;have e1:=(hT b hbt).1;rw[e] at e1;cases e1;exact .inr (.inl ⟨(hT b hbt).2.2,rfl,#[],more,rfl,e2⟩)
    exact⟨rfl,⟨at',fun b o e=>un.there b o e (by simp)⟩,os,bare⟩
 cases hk:K.lookup a with
 |some o=>
  have e:=KX a o hk;rw[ha] at e
  cases e;refine core (fun b=>if b∈ts then some (.tbl #[]) else none) ⟨fun b=>?_,fun b hb'=>if_pos hb'⟩ (.inr ⟨_,vs.toArray,_,hk,rfl,rfl,rfl,by rw[kZ,lenV];exact hl,by simpa using rv⟩) (fun b u z=>?_) (fun b z=>?_) fun z=>absurd (if_neg naT) z
  ·by_cases hbt:b∈ts
   ·exact .inr (.inr ⟨hbt,if_pos hbt⟩)
   ·exact .inl (if_neg hbt)
  ·by_cases hbt:b∈ts
   ·have z':=(if_pos hbt).symm.trans z
    cases z';exact(hT b hbt).1
   ·have z':=(if_neg hbt).symm.trans z
    cases z'
  ·by_cases hbt:b∈ts
   ·exact .inr hbt
   ·exact absurd (if_neg hbt) z
 |none=>
  refine core (fun b=>if b=a then some (.frz {cls:=.type "list",data:=.seq vs.toArray} (.lst (ns.map V.int))) else if b∈ts then some (.tbl #[]) else none) ⟨fun b=>?_,fun b hb'=>?_⟩ (.inl (.inr ⟨{cls:=.type "list",data:=.seq vs.toArray},if_pos rfl⟩)) (fun b u z=>?_) (fun b z=>?_) fun _=>hk
  ·by_cases hb:b=a
   ·exact .inr (.inl ⟨_,_,if_pos hb⟩)
   ·by_cases hbt:b∈ts
    ·exact .inr (.inr ⟨hbt,(if_neg hb).trans (if_pos hbt)⟩)
    ·exact .inl ((if_neg hb).trans (if_neg hbt))
  ·have hb:¬b=a:=fun z=>naT (z▸hb');exact(if_neg hb).trans (if_pos hb')
  ·by_cases hb:b=a
   ·have z':=(if_pos hb).symm.trans z
    cases z';subst hb;exact⟨ha,by rw[kN];exact hl,vs,_,rv,ha⟩
   ·by_cases hbt:b∈ts
    ·have z':=((if_neg hb).trans (if_pos hbt)).symm.trans z
     cases z';exact(hT b hbt).1
    ·have z':=((if_neg hb).trans (if_neg hbt)).symm.trans z
     cases z'
  ·by_cases hb:b=a
   ·exact .inl hb
   ·by_cases hbt:b∈ts
    ·exact .inr hbt
    ·exact absurd ((if_neg hb).trans (if_neg hbt)) z
theorem walk_ofT{l:gW}{n k:Nat}{q:Program}{loose:List Str}{XP:(Str->Option Value)->Heap->Prop}{YP:World->Heap->Prop}{d:DefRec}{K:Params->kC}{CX:World->CXT}{sp:World->List Addr->Sp}{x:Str}{ds:List Str}
  (hn:l.most=some n)(hn2:n<=sizeLine)(hdf:d.params.defaults=[])(hr:Room k callerA)
  (hY:∀(w:World)(h:Heap),YP w h->(K w.params).In h)
  (hD:∀y,y∈ds->∃e,(recsOf q).find? (fun e=>e.name==y)=some e)
  (F:∀(w:World)(mg:Str->Option Value)(fa:Addr)(h:Heap),(K w.params).In h->h.Ns mainGlobals mg->mg d.name=some (.ref fa)->
   ∃(fd:FuncData)(ts:List Addr),(∀b,b∈ts->(K w.params).lookup b=none/\∃y c,y∈ds/\vg (K w.params) y=some (c,b))/\(∀(s:Shared)(u:Value),Ac s fd ⟨[u],[]⟩ [(x,u)])/\
    ∀base:Heap,(K w.params).In base->base.Ns mainGlobals mg->(∀b,b∈ts->base.BuiltinsAt mg b)->FnOk l.prog w (K w.params) mg base (CX w) k fa fd [x] (sp w ts))
  (hsp:∀(w:World)(H:Hp)(a:Addr)(ns:List Int)(ts:List Addr),ns.length<=n->OnlyT ts H->SqL (K w.params) H a (ns.map V.int)->sp w ts [.ref a] H (fun v _=>v=.bl true) fun _ _ _=>False)
  (hCX:∀(w:World)(H:Hp)(s:Shared)(e:Value)(s':Shared),CX w [] H s (fun _ _ _=>False) e s'->False):
  Bu q loose XP YP l.row.toRowW d [] (fun f vs=>Bi f vs):=by
 refine Att.attach_call hn hdf fun w s₀ s₁ mg mb fa o pm cd doc a vs ns G Y ho hd hcd hmg hobj hints hlen hg=>?_;have KX:=hY w _ Y;obtain⟨fd,ts,ht,hb,hF⟩:=F w mg fa _ KX G.T.g hmg;refine law_callT (ts:=ts) KX G.T.g G.T.b G.T.builtins G.T.nolimit hg hobj hints (kz hlen hn2) hr (fun b hb'=>?_) G.T.bmain hF hb (fun H hO hS=>hsp w H a ns ts hlen hO hS) fun H e s'=>hCX w H s₁ e s';obtain⟨hk,y,c,hy,e⟩:=ht b hb';obtain⟨r,hr'⟩:=hD y hy;obtain⟨C,hP⟩:=PySem.W.tab_of G.T KX hr' e;exact⟨hP,hk,(C.tab hP).isCodeTable⟩
open PySem.W (kla_fn kla_obj envX tabObj CodeHd)
structure LamScope(x y:Str)(sc:Scope):Prop where
 kind:sc.kind=.function
 co:sc.isCoroutine=false
 gen:sc.isGenerator=false
 par:sc.names.lookup x=some .local
 cap:sc.names.lookup y=some .free
 nocell:∀z,z∈sc.names->z.2≠.cell
 free:∀z,z∈sc.names->z.2=.free->z.1=y
def cxLam(P:Program)(w:World)(K:kC)(mg:Str->Option Value)(base:Heap)(x y:Str)(qual:Str)(sc:Scope)(f:Addr)(cd:Value)(c:Addr)(A:Around)(outer:List Env)(s:Shared)(H:Hp):Cx where
 prog:=P
 w:=w
 K:=K
 mg:=mg
 base:=base
 A:=A.deeper (envX qual sc s.heap.objs.size f cd [(y,c)])
 N:=[x,y]
 s₀:=s
 H₀:=H
 env:=envX qual sc s.heap.objs.size f cd [(y,c)]
 outer:=outer
 stack:=envX qual sc s.heap.objs.size f cd [(y,c)]::outer
 ex:=[]
 calm:=true
 fn:=fun _=>false
 pn:=[]
 xe:=fun _ _=>False
theorem zej{y z:Str}{c d:Addr}(h:([(y,c)]:List (Str×Addr)).lookup z=some d):z=y/\d=c:=by
 rw[pz] at h
 by_cases e:z=y
 ·subst e;rw[beq_self_eq_true] at h
  cases h;exact⟨rfl,rfl⟩
 ·rw[beq_eq_false_iff_ne.mpr e] at h
  cases h
theorem zgd(y:Str)(c:Addr):([(y,c)]:List (Str×Addr)).lookup y=some c:=by rw[pz,beq_self_eq_true]
theorem inv_lam{P:Program}{w:World}{K:kC}{mg:Str->Option Value}{base:Heap}{x y qual:Str}{sc:Scope}{f c:Addr}{cd:Value}{A:Around}{outer:List Env}{s:Shared}{H:Hp}{u uy:Value}{v vy:V}{h₁:Heap}{tk:Nat}
  (S:LamScope x y sc)(hd:A.handled=none)(e0:Env0 P w K mg base A outer s H)(ru:RelV v u)(ry:RelV vy uy)(hc:s.heap.IsCell c (some uy))(hcn:H c=none)
  (hns:h₁.Ns s.heap.objs.size (fun z=>([(x,u)]:List (Str×Value)).reverse.lookup z))(hk:∀b o,s.heap.get? b=some o->h₁.get? b=some o):
  Inv (cxLam P w K mg base x y qual sc f cd c A outer s H) [] [some v,some vy] H {s with heap:=h₁,toks:=tk}:=by
 have noA:∀b:Addr,b∉(cxLam P w K mg base x y qual sc f cd c A outer s H).ex:=fun b z=>absurd (show b∈([]:List Addr) from z) (by simp)
 refine⟨⟨e0.mod,S.kind,rfl,rfl,kI _,fun y1 z1 d h1 h2=>?_,fun z hz=>?_,fun z d hf _=>?_,fun _=>hd,vj e0.frames,.inr ⟨rfl,rfl⟩,fun b z=>absurd z (noA b),e0.bs,e0.bsz,fun b _ _=>noA b,fun b z=>absurd z (noA b),e0.funs,e0.frf⟩,
  rfl,e0.bare,Un.kept hk,⟨_,hns,fun i z v' h1 h2 h3=>?_⟩,fun z d h=>?_,e0.hok.fresh (kI _),fun z d h=>?_,fun p hp=>absurd (show p∈([]:List (Addr×Obj)) from hp) (by simp),e0.hok.kept hk,rfl⟩
 ·exact(zej h1).1.trans (zej h2).1.symm
 ·have hz:sc.names.lookup z=some .cell∨sc.names.lookup z=some .free:=hz;rcases hz with hz|hz
  ·exact absurd rfl (S.nocell _ (pe hz))
  ·have e:=S.free _ (pe hz) rfl;have e:z=y:=e;subst e;exact⟨c,zgd _ _⟩
 ·cases hf
 ·match i,h1,h2 with
  |0,h1,h2=>
   cases h1
   cases h2;refine⟨u,ru,.inl ⟨S.par,?_⟩⟩;show([(x,u)]:List (Str×Value)).reverse.lookup x=some u
   simp
  |1,h1,h2=>
   cases h1
   cases h2;obtain⟨o,ho,hd'⟩:=hc;exact⟨uy,ry,.inr ⟨.inr S.cap,c,zgd _ _,o,hk _ _ ho,hd'⟩⟩
 ·obtain⟨_,rfl⟩:=zej h;obtain⟨o,ho,hd'⟩:=hc;exact⟨_,o,hk _ _ ho,hd'⟩
 ·obtain⟨_,rfl⟩:=zej h;exact hcn
section
variable{X:Cx}{pins:List (Addr×Obj)}{σ:St}{H:Hp}{s:Shared}
theorem lam_run{A:Around}{k:Nat}{x y name qual:Str}{params:Arguments}{body:Expr}{sc:Scope}{fa c c':Addr}{pm ctv u uy:Value}{v vy:V}{te:TE}{Q:VK}(I:Inv X pins σ H s)
  (e0:Env0 X.prog X.w X.K X.mg X.base A X.stack s H)(hr:Room k A)(S:LamScope x y sc)(ho:s.heap.get? fa=some (kla_obj name qual params body sc [(y,c)] pm c' ctv))(hcd:s.heap.CodeRec (.ref c') qual)
  (hb:bindArgs (kla_fn name qual params body sc [(y,c)] pm (.ref c') ctv) ⟨[u],[]⟩=pure [(x,u)])(ru:RelV v u)(ry:RelV vy uy)(hc:s.heap.IsCell c (some uy))(hcn:H c=none)
  (hbody:PE (cxLam X.prog X.w X.K X.mg X.base x y qual sc fa (.ref c') c A X.stack s H) body te)(q:te [some v,some vy] H Q):
  wpAny (model X.prog X.w) A (call (.ref fa) [u]) (EP X pins σ Q) (fun _ _=>False) s:=by
 refine Bf (vP (R:=CR CX0 X.stack X.prog X.w H s Q E0) ?_ fun r s' hq=>?_)
 ·refine gx hr.depth ho rfl S.co S.gen rfl hcd ?_;rw[hb];refine kM (vk S.nocell (fun z hz=>?_) (fun h₁ hns hsb=>⟨I.nolimit.fresh _ hsb,?_⟩) S.kind)
  ·rw[kr] at hz;rw[hz];exact S.par
  ·show codeAny _ _ (.expr body (envX qual sc s.heap.objs.size fa (.ref c') [(y,c)])) _ _
   have kp:∀d u,s.heap.get? d=some u->h₁.get? d=some u:=fun d u z=>hsb.extBut d u (pD (kT z)) (kF _ z);have J:=inv_lam (tk:=s.toks+1) (f:=fa) (qual:=qual) (cd:=.ref c') S hr.hd e0 ru ry hc hcn hns kp;refine gy (uL (hbody [] _ _ H Q J q) (fun r s' hs=>?_) fun e s' hs=>hs.elim);obtain⟨v',H',J',r',q'⟩:=hs;exact⟨v',H',J'.os,J'.bare,J'.base,J'.hok,r',q'⟩
 ·cases r with
  |error e=>exact hq.elim
  |ok fl=>
   cases fl with
   |ret u=>exact I.after hq
   |next=>exact ui hq
   |brk=>exact ui hq
   |cont=>exact ui hq
end
open PySem.W (kla_fn kla_obj envX tabObj CodeHd)
def codeX(c:Addr)(q:Str):HO:=.ext fun h=>h.CodeRec (.ref c) q
def LamTab(H:Hp)(P:Addr)(pos:Pos)(q:Str):Prop:=∃ps,H P=some (.tbl ps)/\TriplesOk ps.toList/\(codeAmong pos ps.toList=none∨∃c,codeAmong pos ps.toList=some (.ref c)/\H c=some (codeX c q))
def SameT(P:Addr)(H H':Hp):Prop:=∀b o,b≠P->H b=some o->H' b=some o
theorem SameT.refl(P:Addr)(H:Hp):SameT P H H:=fun _ _ _ h=>h
theorem LamTab.same{H H':Hp}{P:Addr}{pos:Pos}{q:Str}(h:LamTab H P pos q)(g:Same H H'):LamTab H' P pos q:=by
 obtain⟨ps,e,t,z⟩:=h;refine⟨ps,g _ _ e,t,?_⟩;rcases z with z|⟨c,z,y⟩
 ·exact .inl z
 ·exact .inr ⟨c,z,g _ _ y⟩
section
variable{X:Cx}{pins:List (Addr×Obj)}{σ:St}{H:Hp}{s:Shared}
theorem zj7{params:Arguments}{body:Expr}{sc:Scope}{pos:Pos}{c0 P:Addr}{clos:List (Str×Addr)}{Q:Value->Shared->Prop}(I:Inv X pins σ H s)(hcode:X.env.code=.ref c0)(C:CodeHd X.base c0 P)(hB:X.base.BuiltinsAt X.mg P)
  (hcl:closureFor sc X.env=pure clos)(hdef:defaultsOf params X.env=([],[]))(ht:LamTab H P pos (X.env.qual++"<lambda>"))
  (q:∀(fa c':Addr)(ctv:Value)(H':Hp)(s':Shared),Inv X pins σ H' s'->SameT P H H'->LamTab H' P pos (X.env.qual++"<lambda>")->s'.heap.get? fa=some (kla_obj "<lambda>" (X.env.qual++"<lambda>") params body sc clos ((X.mg "__name__").getD .none) c' ctv)->
   H' c'=some (codeX c' (X.env.qual++"<lambda>"))->FpOk X pins H' fa->Q (.ref fa) s'):
  wpAny (model X.prog X.w) X.A (eval (.Lambda params body sc pos) X.env) Q X.xe s:=by
 obtain⟨ps,hP,tr,alt⟩:=ht;have hPh:s.heap.get? P=some (tabObj ps):=I.hok P _ hP;have kb:=I.bk;have hg:s.heap.Ns mainGlobals X.mg:=I.ok.mod.glob.keeps kb;have Cs:=C.keeps kb;have Bs:s.heap.BuiltinsAt X.mg P:=by
  obtain⟨bm,o,b1,b2,b3,b4,b5,b6⟩:=hB;exact⟨bm,o,b1,b2,b3,b4,kb _ _ b5,b6⟩
 have neG:mainGlobals≠P:=fun z=>by
  obtain⟨o,es,ep,e,hd,_⟩:=hg;rw[z,hPh] at e;cases e;cases hd
 refine PySem.W.kla_eval hdef ?_;rcases alt with hn|⟨c',hf,hc'⟩
 ·refine PySem.W.kla_makeFunction hcl I.ok.glob hg hcode Cs hPh tr hn neG Bs fun c' ctv h' tk hx hge hlt hrec htb=>?_;have neC:∀b u,H b=some u->b≠c':=fun b u e z=>by
   rw[z,I.hok.fresh hge] at e;cases e
  have nP:∀b,H b=none->b≠P:=fun b n z=>by rw[z,hP] at n;cases n
  have cP:c'≠P:=fun z=>by rw[←z,I.hok.fresh hge] at hP;cases hP
  have keep:∀b o,b≠P->s.heap.get? b=some o->(h'.push (kla_obj "<lambda>" (X.env.qual++"<lambda>") params body sc clos ((X.mg "__name__").getD .none) c' ctv)).get? b=some o:=fun b o n e=>kF _ (hx b o n e);have hP':=kF (kla_obj "<lambda>" (X.env.qual++"<lambda>") params body sc clos ((X.mg "__name__").getD .none) c' ctv) htb;have upP:∀b u,b≠P->H b=some u->upd (upd H P (.tbl (ps++#[rawInt pos.line,rawInt pos.col,.ref c']))) c' (codeX c' (X.env.qual++"<lambda>")) b=some u:=fun b u n e=>by rw[za6 (neC b u e),za6 n];exact e
  have up0:upd (upd H P (.tbl (ps++#[rawInt pos.line,rawInt pos.col,.ref c']))) c' (codeX c' (X.env.qual++"<lambda>")) P=some (.tbl (ps++#[rawInt pos.line,rawInt pos.col,.ref c'])):=by rw[za6 cP.symm,upd_same]
  have J:Inv X pins σ (upd (upd H P (.tbl (ps++#[rawInt pos.line,rawInt pos.col,.ref c']))) c' (codeX c' (X.env.qual++"<lambda>"))) {s with heap:=h'.push (kla_obj "<lambda>" (X.env.qual++"<lambda>") params body sc clos ((X.mg "__name__").getD .none) c' ctv),toks:=tk}:=by
   refine I.step (g':=s.gens) (d':=s.drawn) (ch:=[]) (fun _ z=>nomatch z) (fun b o _ _ _ e n=>keep b o (nP b n) e) (fun b o _ _ _ e n=>⟨o.slots,keep b o (nP b n) e⟩) (fun b o _ e n=>?_) (fun b o _ e=>?_) (fun b xs e=>?_) (fun b o u e=>?_) (fun b qs e=>?_) (fun m hm=>?_) (fun b u e=>?_) I.bare
   ·rw[za6 (pD (ko (kT e) hge)),za6 (nP b n)];exact n
   ·by_cases z:b=P
    ·exact⟨_,z▸hP'⟩
    ·exact⟨o,keep b o z e⟩
   ·exact upP b _ (fun z=>by rw[z,hP] at e;cases e) e
   ·exact upP b _ (fun z=>by rw[z,hP] at e;cases e) e
   ·by_cases z:b=P
    ·subst z;rw[hP] at e
     cases e;exact⟨_,up0⟩
    ·exact⟨#[],by rw[upP b _ z e];simp⟩
   ·obtain⟨o,es,ep,ho,r⟩:=hm;exact⟨o,es,ep,keep _ o (nP _ I.free) ho,r⟩
   ·by_cases z:b=c'
    ·subst z;rw[upd_same] at e
     cases e;have hr2:=hrec.push (kla_obj "<lambda>" (X.env.qual++"<lambda>") params body sc clos ((X.mg "__name__").getD .none) b ctv);obtain⟨c2,oc,vs,t,e2,hoc,hd,hv⟩:=id hr2
     cases e2;refine⟨hr2,⟨oc,hoc⟩,fun h1 h2 ph k=>?_⟩;obtain⟨c3,oc3,vs3,t3,e3,hoc3,hd3,hv3⟩:=ph
     cases e3;exact⟨_,oc3,vs3,t3,rfl,k _ hoc3,hd3,hv3⟩
    ·rw[za6 z] at e
     by_cases y:b=P
     ·subst y;rw[upd_same] at e
      cases e;exact hP'
     ·rw[za6 y] at e;refine(I.hok b u e).stay (fun d v hd hv=>keep d v ?_ hv) (fun d hd=>?_) fun d xs hd=>?_
      ·rcases hd with rfl|hd
       ·exact y
       ·intro z';rw[z',hP] at hd;cases hd
      ·exact upP d _ (fun z'=>by rw[z',hP] at hd;cases hd) hd
      ·exact upP d _ (fun z'=>by rw[z',hP] at hd;cases hd) hd
  refine q h'.objs.size c' ctv _ _ J (fun b o n e=>upP b o n e) ⟨_,up0,?_,.inr ⟨c',?_,upd_same⟩⟩ (kY _ rfl) upd_same ?_
  ·rw[kj];exact TriplesOk_snoc _ _ _ _ tr
  ·rw[kj];exact codeAmong_snoc _ tr hn
  ·have hsz:s.heap.objs.size<=h'.objs.size:=kz hge (uI hlt);have nf:upd (upd H P (.tbl (ps++#[rawInt pos.line,rawInt pos.col,.ref c']))) c' (codeX c' (X.env.qual++"<lambda>")) h'.objs.size=none:=by
    rw[za6 (vO hlt),za6]
    ·exact I.hok.fresh hsz
    ·intro z;rw[←z,I.hok.fresh hsz] at hP
     cases hP
   exact I.fpOk hsz nf
 ·have hrec:s.heap.CodeRec (.ref c') (X.env.qual++"<lambda>"):=(I.hok c' _ hc').1;refine PySem.W.kla_makeFunctionHit hcl I.ok.glob hg hcode Cs hPh tr hf Bs fun ctv h' tk hk hsz=>?_;have J:Inv X pins σ H {s with heap:=h'.push {cls:=.type "function",data:=.func (kla_fn "<lambda>" (X.env.qual++"<lambda>") params body sc clos ((X.mg "__name__").getD .none) (.ref c') ctv)},toks:=tk}:=I.kept fun b o e=>kF _ (hk b o e);exact q h'.objs.size c' ctv H _ J (.refl P H) ⟨ps,hP,tr,.inr ⟨c',hf,hc'⟩⟩ (kY _ rfl) hc' (I.fpOk hsz (I.hok.fresh hsz))
end
open PySem.W (KasT kas_sort kas_ask kas_item)
section
variable{prog:Program}{w:World}{A:Around}{E:Value->Shared->Prop}{s:Shared}{vs ks:List Value}{g:Heap}{a kS:Addr}{e e1:Nat}{f:Value}
def KeyFin(prog:Program)(w:World)(A:Around)(a kS:Addr)(e1:Nat)(vs ks:List Value)(P:Qv->Shared->Prop)(s:Shared):Prop:=
 s.heap.get? a=some (seqObj "list" #[] e1)/\∃(κ:SortKind)(ans:Nat->Nat->Bool),
  (2<=vs.length->∀Q':SortKind->Shared->Prop,Q' κ s->wpAny (model prog w) A (keyKind' ks.toArray) Q' (fun _ _=>False) s)/\
  (2<=vs.length->∀i j C,i<vs.length->j<vs.length->C (ans i j) s->kas_ask prog w A κ ks i j C s)/\
  ∀p:Array Nat,Ord vs.length p->(2<=vs.length->p=ansT ans (kas_sort vs.length))->P (.done (.ret .none)) {s with heap:=(s.heap.update kS (kq fun _=>(#[]:Array Value))).update a (kq fun _=>ue (p.toList.map fun i=>vs.getD i pT))}
theorem zgy{st:SortSt}{p:Array Nat}{P:Qv->Shared->Prop}(hs:(arrOf st).map (·.2)=ue (p.toList.map fun i=>vs.getD i pT))(hf:failedOf st=none)(hz:p.size=vs.length)(h64:vs.length<64)(hkl:ks.length<64)(nak:a≠kS)
  (hk:s.heap.get? kS=some (seqObj "list" ks.toArray e))(ha:s.heap.get? a=some (seqObj "list" #[] e1))
  (q:P (.done (.ret .none)) {s with heap:=(s.heap.update kS (kq fun _=>(#[]:Array Value))).update a (kq fun _=>ue (p.toList.map fun i=>vs.getD i pT))}):
  wpAny (model prog w) A (Bk a false e1 (.ref kS) st) P E s:=by
 have ha2:(s.heap.update kS (kq fun _=>(#[]:Array Value))).get? a=some (seqObj "list" #[] e1):=by rw[pO _ _ _ _ nak];exact ha
 have hsz:(ue (p.toList.map fun i=>vs.getD i pT)).size=vs.length:=by simp[hz]
 unfold Bk;dsimp only;rw[hs];refine kA (UP hk rfl ?_ (by rw[kZ,je];omega) (pI _))
 refine kA (UV ?_);refine kA (gz ha2 rfl ?_);refine kA (UP ha2 rfl ?_ (pI _) (by simp only[pR,if_false];rw[hsz,je];omega))
 rw[hf];simp only[bne_self_eq_false,pR,if_false];exact kM q
theorem keyed_end{P:Qv->Shared->Prop}(hl:ks.length=vs.length)(h64:vs.length<64)(nak:a≠kS)(hk:s.heap.get? kS=some (seqObj "list" ks.toArray e))(h:KeyFin prog w A a kS e1 vs ks P s):
  wpAny (model prog w) A (CG a false vs.toArray e1 (.ref kS) ks.toArray) P E s:=by
 obtain⟨ha,κ,ans,hkind,hask,q⟩:=h;have z0:vs.toArray.size=vs.length:=rfl;unfold CG;dsimp only;simp only[pR,if_false]
 by_cases h2:vs.length<2
 ·rw[z0,if_pos h2,if_pos h2,CC];rw[BQ];refine kA (kM ?_);refine zgy (p:=ue (uP vs.length)) ?_ rfl (by simp) h64 (by omega) nak hk ha (q _ (by unfold Ord;simp) fun z=>absurd h2 (Nat.not_lt.mpr z))
  show(ks.toArray.zip vs.toArray).map (·.2)=_
  rw[show(ue (uP vs.length)).toList=uP vs.length from rfl,range_getD]
  apply vd.mp
  simp[List.map_snd_zip,hl]
 ·have h2':2<=vs.length:=by omega
  rw[z0,if_neg h2,if_neg h2];refine kA (uL (hkind h2' (fun κ' s'=>κ'=κ/\s'=s) ⟨rfl,rfl⟩) (fun κ' s' hs=>?_) fun _ _ z=>z.elim);obtain⟨rfl,rfl⟩:=hs;have run:=Asks.wp (R:=Ord vs.length) (Q:=fun p s''=>s''=s'/\Ord vs.length p/\p=ansT ans (kas_sort vs.length)) (fun i j C hi hj=>hask h2' i j C hi hj) (zin (by omega)) ⟨rfl,Asks.ends (zin (by omega)),rfl⟩
  refine kA (uL (PySem.W.kat_run (E:=E) (ks:=ks) (vs:=vs) (Q:=fun st s''=>∃p:Array Nat,p.size=vs.length/\arrOf st=p.map (kas_item (ks.toArray.zip vs.toArray))/\failedOf st=none/\s''=s'/\Ord vs.length p/\p=ansT ans (kas_sort vs.length)) hl h2' h64 (fun p st s'' b1 b2 b3 b4=>⟨p,b1,b2,b3,b4⟩) run) ?_ fun _ _ z=>z);rintro⟨⟨⟩,st⟩ s'' ⟨p,hp,har,hf,rfl,or,ep⟩;exact zgy (PySem.W.kat_snds hl har) hf hp h64 (by omega) nak hk ha (q p or fun _=>ep)
structure KeyRun(prog:Program)(w:World)(A:Around)(a kS:Addr)(e1:Nat)(f:Value)(vs:List Value)(P:Qv->Shared->Prop)(J:Nat->List Value->Nat->Shared->Prop):Prop where
 store:∀i ks e s,J i ks e s->s.heap.get? kS=some (seqObj "list" ks.toArray e)/\ks.length=i
 turn:∀i x ks e s,vs[i]?=some x->J i ks e s->wpAny (model prog w) A (call f [x]) (fun k s'=>s'.heap.get? kS=some (seqObj "list" ks.toArray e)/\
  ∀c,(s'.heap.update kS (kq (·.push k))).get? kS=some (seqObj "list" (ks++[k]).toArray c)->J (i+1) (ks++[k]) c {s' with heap:=s'.heap.update kS (kq (·.push k))}) (fun _ _=>False) s
 fin:∀ks e s,J vs.length ks e s->KeyFin prog w A a kS e1 vs ks P s
theorem zgw{P:Qv->Shared->Prop}{J:Nat->List Value->Nat->Shared->Prop}{body:Value->PUnit->Sem (ForInStep PUnit)}(R:KeyRun prog w A a kS e1 f vs P J)
  (hb:∀i x ks e(s:Shared),vs[i]?=some x->J i ks e s->wpAny (model prog w) A (body x ⟨⟩) (fun r s'=>r=.yield ⟨⟩/\∃k c,J (i+1) (ks++[k]) c s') E s):
  ∀(r:List Value)(i:Nat)(ks:List Value)(e:Nat)(s:Shared),i<=vs.length->vs.drop i=r->J i ks e s->wpAny (model prog w) A (forIn r Cb body) (fun _ s'=>∃ks e,J vs.length ks e s') E s
 |[],i,ks,e,s,hi,hr,h=>by
  rw[jM];have e0:i=vs.length:=BR hi (AA.mp hr);subst e0;exact kM ⟨ks,e,h⟩
 |x::r,i,ks,e,s,hi,hr,h=>by
  rw[vC];have hx:vs[i]?=some x:=by
   have z:=congrArg (fun l=>l[0]?) hr
   simpa[Qe] using z
  have hr2:vs.drop (i+1)=r:=by
   have z:=congrArg (List.drop 1) hr
   simpa[Qk,gI] using z
  refine kA (uL (hb i x ks e s hx h) (fun q s' hq=>?_) fun _ _ z=>z);obtain⟨rfl,k,c,h2⟩:=hq;exact zgw R hb r (i+1) (ks++[k]) c s' (kG.mp hx).1 hr2 h2
theorem keyed_rest{P:Qv->Shared->Prop}{J:Nat->List Value->Nat->Shared->Prop}(R:KeyRun prog w A a kS e1 f vs P J)(h64:vs.length<64)(nak:a≠kS)(h0:J 0 [] 0 s):
  wpAny (model prog w) A (Bl a f false vs.toArray e1 (.ref kS)) P E s:=by
 unfold Bl;refine kA (Qa ?_);rw[AR];refine kA (uL (zgw R (fun i x ks e s' hx hJ=>?_) vs 0 [] 0 s (pI _) UT h0) (fun _ s' hd=>?_) fun _ _ z=>z)
 ·have hi:=(kG.mp hx).1;have hl:=(R.store i ks e s' hJ).2;refine kA (Uh (uL (R.turn i x ks e s' hx hJ) (fun k s'' hk=>?_) fun _ _ hF=>hF.elim));obtain⟨hk1,hk2⟩:=hk;have pk:(ue ks).push k=ue (ks++[k]):=by rw[Ai]
  obtain⟨c2,hc2⟩:∃c2,(s''.heap.update kS (kq (·.push k))).get? kS=some (seqObj "list" (ue (ks++[k])) c2):=⟨_,by rw[←pk];exact Qp hk1 (·.push k)⟩
  try dsimp only
  refine kA (UP hk1 rfl ?_ (by rw[kZ,je];omega) (kz (Qq (BS ..)) (by rw[kZ,je];omega)))
  exact kM ⟨rfl,k,c2,hk2 c2 hc2⟩
 ·obtain⟨ks,e,hJ⟩:=hd;obtain⟨hk,hl⟩:=R.store _ _ _ _ hJ
  try dsimp only
  refine kA (gJ hk rfl ?_);exact keyed_end hl h64 nak hk (R.fin ks e s' hJ)
theorem keyed_tree{n:Nat}{P:Qv->Shared->Prop}(hg:Keeps g s.heap)(ga:g.objs.size<=a)(ho:s.heap.get? a=some (seqObj "list" vs.toArray n))(h64:vs.length<64)
  (h:∀kS e1 h',Keeps g h'->a<kS->h'.get? a=some (seqObj "list" #[] e1)->h'.get? kS=some (seqObj "list" #[] 0)->∃J,KeyRun prog w A a kS e1 f vs P J/\J 0 [] 0 {s with heap:=h'}):
  wpAny (model prog w) A (Bm a f false) P E s:=by
 have zl:vs.length<=sizeLine:=kz (uI h64) (by decide)
 have k1:Keeps g (s.heap.update a (kq fun _=>(#[]:Array Value))):=hg.upd ga;obtain⟨c1,o1⟩:∃c1,(s.heap.update a (kq fun _=>(#[]:Array Value))).get? a=some (seqObj "list" #[] c1):=⟨_,Qp ho _⟩;have k3:=(k1.push (seqObj "tuple" vs.toArray 0)).push (seqObj "list" #[] 0);have o3:=kF (seqObj "list" #[] 0) (kF (seqObj "tuple" vs.toArray 0) o1);have lt:a<((s.heap.update a (kq fun _=>(#[]:Array Value))).push (seqObj "tuple" vs.toArray 0)).objs.size:=kT (kF _ o1);obtain⟨J,R,h0⟩:=h _ c1 _ k3 lt o3 (kY _ rfl);unfold Bm;refine kA (gJ ho rfl (kA (UP ho rfl (kA (gz o1 rfl (kA (gv (kA (Uy (QY ?_) (pI _))) zl)))) zl (pI _))));exact keyed_rest (s:={s with heap:=((s.heap.update a (kq fun _=>(#[]:Array Value))).push (seqObj "tuple" vs.toArray 0)).push (seqObj "list" #[] 0)}) R h64 (pD lt) h0
end
open PySem.W (kla_fn kla_obj envX tabObj CodeHd KasT kas_sort kas_ask)
def ltK(a b:Int×Int):Bool:=if a.1=b.1 then(if a.2=b.2 then false else decide (a.2<b.2)) else decide (a.1<b.1)
section
variable{prog:Program}{w:World}{A:Around}{E:Value->Shared->Prop}{s:Shared}{C:Bool->Shared->Prop}
theorem eq_ii{a b:Int}{t u:Tok}(hu:A.units+64<cLine)(q:C (decide (a=b)) s):wpAny (model prog w) A (eqBool (.int a t) (.int b u)) C E s:=by
 refine PySem.SeqAt.eqBoolOverData prog w A E s _ _ (.int a) (.int b) _ _ C (.int a t) (.int b u) rfl rfl ?_ ?_
 ·have:ud (.int a)<=1:=by simp[ud]
  have:=BT (ud (.int a)) (ud (.int b));omega
 ·simp only[pj]
  by_cases h:a=b
  ·rw[decide_eq_true h] at q
   simpa[h] using q
  ·rw[decide_eq_false h] at q;have:(a==b)=false:=beq_eq_false_iff_ne.mpr h;rw[this];exact q
theorem lt_pairI{x y:Value}{a b:Int×Int}(hx:TupI s.heap x [a.1,a.2])(hy:TupI s.heap y [b.1,b.2])(hu:A.units+64<cLine)(q:C (ltK a b) s):wpAny (model prog w) A (keyLt' (tuples' true) x y) C E s:=by
 obtain⟨p,its,n,dd,sl,rfl,o,i⟩:=hx;obtain⟨p',its',n',dd',sl',rfl,o',i'⟩:=hy;obtain⟨u1,u2,e,t1,t2⟩:∃u1 u2,its.toList=[u1,u2]/\(∃t,u1=.int a.1 t)/\∃t,u2=.int a.2 t:=by
  revert i
  generalize its.toList=l;intro i
  cases i with
  |cons k t r=>
   cases r with
   |cons k2 t2 r2=>
    cases r2;exact⟨_,_,rfl,⟨_,rfl⟩,⟨_,rfl⟩⟩
 obtain⟨u1',u2',e',t1',t2'⟩:∃u1 u2,its'.toList=[u1,u2]/\(∃t,u1=.int b.1 t)/\∃t,u2=.int b.2 t:=by
  revert i'
  generalize its'.toList=l;intro i
  cases i with
  |cons k t r=>
   cases r with
   |cons k2 t2 r2=>
    cases r2;exact⟨_,_,rfl,⟨_,rfl⟩,⟨_,rfl⟩⟩
 obtain⟨t1,rfl⟩:=t1;obtain⟨t2,rfl⟩:=t2;obtain⟨t1',rfl⟩:=t1';obtain⟨t2',rfl⟩:=t2';have z:its.size=2:=by rw[←kO,e];rfl
 have z':its'.size=2:=by rw[←kO,e'];rfl
 refine PySem.W.kat_lt o rfl o' rfl ?_;rw[e,e',z,z',decide_eq_false (by omega)]
 unfold ltK at q;refine BA (eq_ii hu ?_)
 by_cases c:a.1=b.1
 ·rw[if_pos c] at q;rw[decide_eq_true c];refine BU (BA (eq_ii hu ?_))
  by_cases c2:a.2=b.2
  ·rw[if_pos c2] at q;rw[decide_eq_true c2];exact BU (PySem.W.kat_nil q)
  ·rw[if_neg c2] at q;rw[decide_eq_false c2];exact Bn (PySem.W.kat_one _ _ (PyProof.Rows.lt_int q))
 ·rw[if_neg c] at q;rw[decide_eq_false c];exact Bn (oneLt_int q)
end
open PySem.W (KatTups) in
theorem ktupsI{h:Heap}:∀vs:List Value,(∀v,v∈vs->∃a:Int×Int,TupI h v [a.1,a.2])->∃fs,fs.length=vs.length/\KatTups h vs fs/\∀f,f∈fs->∃n t,f=.int n t
 |[],_=>⟨[],rfl,.nil,fun f hf=>by cases hf⟩
 |v::vs,hv=>by
  obtain⟨fs,l,t,r⟩:=ktupsI vs fun u hu=>hv u (pB _ hu);obtain⟨a,p,its,n,dd,sl,rfl,o,i⟩:=hv v (ku ..);obtain⟨u1,t1,e⟩:∃u1 t,its[0]?=some u1/\u1=.int a.1 t:=by
   rw[←pY]
   revert i
   generalize its.toList=l;intro i
   cases i with
   |cons k t r=>exact⟨_,t,rfl,rfl⟩
  refine⟨u1::fs,by simp[l],.cons o rfl rfl e.1 t,fun f hf=>?_⟩
  rcases kh.mp hf with rfl|hf
  ·exact⟨_,t1,e.2⟩
  ·exact r f hf
theorem kind_ints{M:Model}{A:Around}{E:Value->Shared->Prop}{s:Shared}{vs:List Value}{Q:SortKind->Shared->Prop}(hn:0<vs.length)(hv:∀v,v∈vs->∃a:Int×Int,TupI s.heap v [a.1,a.2])(q:Q (tuples' true) s):wpAny M A (keyKind' vs.toArray) Q E s:=by
 obtain⟨fs,l,t,r⟩:=ktupsI vs hv;refine PySem.W.kat_kind (T:=.type "int") t (by omega) (fun f hf=>?_) (by decide) ?_
 ·obtain⟨n,t,rfl⟩:=r f hf;exact .now
 ·rw[show(UO "int"!=UO "tuple")=true from by decide]
  exact q
section
variable{X:Cx}{pins:List (Addr×Obj)}{σ:St}{H:Hp}{s:Shared}
theorem Inv.track{D:Addr}{h':Heap}{xs:List V}{its:List Value}{n:Nat}{t':Nat}(I:Inv X pins σ H s)(hf:FpOk X pins H D)(k:∀b o,b≠D->s.heap.get? b=some o->h'.get? b=some o)
  (hz:xs.length<=sizeLine)(r:Vals xs its)(ho:h'.get? D=some {cls:=.type "list",data:=.seq its.toArray n}):Inv X pins σ (upd H D (.lst xs)) {s with heap:=h',toks:=t'}:=by
 obtain⟨f0,f1,f2,f3,f4,f5⟩:=hf;have nD:∀b u,H b=some u->b≠D:=fun b u e z=>by rw[z,f0] at e;cases e
 refine I.step (g':=s.gens) (d':=s.drawn) (ch:=[D]) (fun b hb=>?_) (fun b o _ _ hc e _=>k b o (fun z=>hc (by simp[z])) e) (fun b o _ _ hc e _=>⟨o.slots,k b o (fun z=>hc (by simp[z])) e⟩) (fun b o hc _ n=>by rw[za6 fun z=>hc (by simp[z])];exact n)
  (fun b o hc e=>⟨o,k b o (fun z=>hc (by simp[z])) e⟩) (fun b xs e=>by rw[za6 (nD b _ e)];exact e) (fun b o u e=>by rw[za6 (nD b _ e)];exact e) (fun b ps e=>⟨#[],by rw[za6 (nD b _ e),e];simp⟩) (fun m hm=>?_) (fun b u e=>?_) I.bare
 ·have e:b=D:=by simpa using hb
  subst e;exact⟨f3,f1,f4,f5⟩
 ·obtain⟨o,es,ep,ho,r⟩:=hm;exact⟨o,es,ep,k _ o f1.symm ho,r⟩
 ·by_cases z:b=D
  ·subst z;rw[upd_same] at e
   cases e;exact⟨hz,its,n,r,ho⟩
  ·rw[za6 z] at e;refine(I.hok b u e).stay (fun c v hc q=>k c v ?_ q) (fun c q=>by rw[za6 (nD c _ q)];exact q) fun c xs q=>by rw[za6 (nD c _ q)];exact q
   rcases hc with rfl|hc
   ·exact z
   ·exact nD c _ hc
theorem zk4{y:Str}{c:Addr}{i:Nat}{vy:V}(I:Inv X pins σ H s)(hN:X.N[i]?=some y)(hσ:σ[i]?=some (some vy))(hk:X.env.scope.names.lookup y=some .cell)(hc:X.env.cells.lookup y=some c):∃u,RelV vy u/\s.heap.IsCell c (some u):=by
 obtain⟨m,hn,hl⟩:=I.loc;obtain⟨u,r,l⟩:=hl i y vy hN hσ (.inr (.inl hk));refine⟨u,r,?_⟩;rcases l with⟨l,_⟩|⟨_,c',e,z⟩
 ·have l:X.env.scope.names.lookup y=some .local:=l;rw[hk] at l
  cases l
 ·rw[hc] at e
  cases e;exact z
end
open PySem.W (kla_fn kla_obj envX tabObj CodeHd KasT kas_sort kas_ask)
def KOk(H:Hp)(zs:List V)(kp:Nat->Int×Int):Prop:=∀i,i<zs.length->∃q,zs[i]?=some (.ref q)/\H q=some (.tup [.int (kp i).1,.int (kp i).2])
abbrev KPT:=Hp->List V->(Nat->Nat->Bool)->Prop
def KeyKP(X:Cx)(KP:KPT):Prop:=∀(pins:List (Addr×Obj))(σ:St)(H:Hp)(s:Shared)(zs:List V)(ks:List Value)(ans:Nat->Nat->Bool),Inv X pins σ H s->Vals zs ks->KP H zs ans->∃κ:SortKind,
 (2<=ks.length->∀Q':SortKind->Shared->Prop,Q' κ s->wpAny (model X.prog X.w) X.A.in1.in1 (keyKind' ks.toArray) Q' (fun _ _=>False) s)/\(2<=ks.length->∀i j C,i<ks.length->j<ks.length->C (ans i j) s->kas_ask X.prog X.w X.A.in1.in1 κ ks i j C s)
def KPp:KPT:=fun H zs ans=>∃kp,KOk H zs kp/\ans=fun i j=>ltK (kp i) (kp j)
section
variable{X:Cx}{pins:List (Addr×Obj)}{σ:St}{H:Hp}{s:Shared}
theorem vals_get?{xs:List V}{us:List Value}(r:Vals xs us){i:Nat}{u:Value}(h:us[i]?=some u):∃v,xs[i]?=some v/\RelV v u:=by
 have hi:i<us.length:=(kG.mp h).1;have hx:i<xs.length:=by rw[r.length];exact hi
 refine⟨xs[i],kL hx,?_⟩;have z:=zhy r i hx;have e1:xs.getD i .non=xs[i]:=by simp[hx]
 have e2:us.getD i pT=u:=by rw[kB,h];rfl
 rw[e1,e2] at z;exact z
theorem zfk:∀{xs:List V}{us:List Value}{v:V}{u:Value},Vals xs us->RelV v u->Vals (xs++[v]) (us++[u])
 |_,_,_,_,.nil,r=>.cons r .nil
 |_,_,_,_,.cons a t,r=>.cons a (zfk t r)
theorem keyKP_pairs(hu:X.A.units+66<cLine):KeyKP X KPp:=by
 intro pins σ H s zs ks ans I r h;obtain⟨kp,ok,rfl⟩:=h;have len:=r.length;have tup:∀i,i<ks.length->TupI s.heap (ks.getD i pT) [(kp i).1,(kp i).2]:=fun i hi=>by
  obtain⟨a,ea,ha⟩:=ok i (by omega)
  have z:=zhy r i (by omega)
  rw[kB,ea] at z;have z:RelV (.ref a) (ks.getD i pT):=z
  have e:ks.getD i pT=.ref a:=by cases h:ks.getD i pT<;>rw[h] at z<;>first|(cases z;rfl)|cases z
  rw[e];exact tupI_of I (ns:=[(kp i).1,(kp i).2]) ha
 refine⟨tuples' true,fun h2 Q' q'=>kind_ints (by omega) (fun v hv=>?_) q',fun h2 i j C hi hj cc=>lt_pairI (tup i hi) (tup j hj) (by show X.A.units+1+1+64<_;omega) cc⟩
 obtain⟨i,hi,e⟩:=po.mp hv;refine⟨kp i,?_⟩;have t:=tup i hi;have e':ks.getD i pT=v:=by simp[hi,e]
 rw[e'] at t;exact t
end
open PySem.W (kla_fn kla_obj envX tabObj CodeHd KasT kas_sort kas_ask)
section
variable{κ:Type}[DecidableEq κ]
def valV(kvs:List (κ×V))(k:κ):Option V:=(kvs.find? fun kv=>decide (kv.1=k)).map (·.2)
def putK(kvs:List (κ×V))(k:κ)(v:V):List (κ×V):=
 if(kvs.any fun kv=>decide (kv.1=k))=true then kvs.map (fun kv=>if kv.1=k then(kv.1,v) else kv) else kvs++[(k,v)]
theorem zcj{p:κ×V}{r:List (κ×V)}{k:κ}(e:p.1=k):valV (p::r) k=some p.2:=by simp[valV,Ue,e]
theorem zck{p:κ×V}{r:List (κ×V)}{k:κ}(e:¬p.1=k):valV (p::r) k=valV r k:=by simp[valV,Ue,e]
theorem zdf(k:κ):∀kvs:List (κ×V),(kvs.any fun kv=>decide (kv.1=k))=(valV kvs k).isSome
 |[]=>rfl
 |p::r=>by
  rw[vh]
  by_cases e:p.1=k
  ·simp only[zcj e,decide_eq_true e,Bool.true_or,Option.isSome_some]
  ·rw[zck e,decide_eq_false e,Bool.false_or];exact zdf k r
theorem zj3(k j:κ)(y:V):∀kvs:List (κ×V),valV (kvs.map fun kv=>if kv.1=k then(kv.1,y) else kv) j=(valV kvs j).map fun x=>if j=k then y else x
 |[]=>rfl
 |p::r=>by
  have ih:=zj3 k j y r;rw[pE]
  by_cases h:p.1=k
  ·rw[if_pos h]
   by_cases e:p.1=j
   ·rw[zcj (p:=(p.1,y)) e,zcj e,uM,if_pos (e.symm.trans h)]
   ·rw[zck (p:=(p.1,y)) e,zck e,ih]
  ·rw[if_neg h]
   by_cases e:p.1=j
   ·rw[zcj (p:=p) e,zcj e,uM,if_neg (fun z=>h (e.trans z))]
   ·rw[zck (p:=p) e,zck e,ih]
theorem zil(k j:κ)(y:V):∀kvs:List (κ×V),valV kvs k=none->valV (kvs++[(k,y)]) j=if j=k then some y else valV kvs j
 |[],_=>by
  by_cases e:k=j
  ·rw[if_pos e.symm];exact zcj (p:=(k,y)) e
  ·rw[if_neg (fun z=>e z.symm)];exact zck (p:=(k,y)) e
 |p::r,hn=>by
  rw[Up];have hk:¬p.1=k:=fun z=>by rw[zcj z] at hn;cases hn
  rw[zck hk] at hn;have ih:=zil k j y r hn
  by_cases e:p.1=j
  ·rw[zcj e,zcj e,if_neg (fun z=>hk (e.trans z))]
  ·rw[zck e,zck e,ih]
theorem zel(kvs:List (κ×V))(k j:κ)(y:V):valV (putK kvs k y) j=if j=k then some y else valV kvs j:=by
 unfold putK
 by_cases a:(kvs.any fun kv=>decide (kv.1=k))=true
 ·rw[if_pos a,zj3];rw[zdf] at a
  by_cases e:j=k
  ·obtain⟨x,hx⟩:=jl.mp a;rw[if_pos e,e,hx,uM,if_pos rfl]
  ·rw[if_neg e]
   cases valV kvs j with
   |none=>rfl
   |some x=>rw[uM,if_neg e]
 ·rw[if_neg a];refine zil k j y kvs ?_;rw[zdf] at a
  cases q:valV kvs k with
  |none=>rfl
  |some x=>rw[q] at a;exact(a rfl).elim
theorem zcq(kvs:List (κ×V))(k:κ)(v:V):(putK kvs k v).length<=kvs.length+1:=by
 unfold putK
 split
 ·rw[kN];omega
 ·rw[kK,pQ,vD];omega
theorem zg1{kvs:List (κ×V)}{k:κ}(v:V)(h:valV kvs k=none):putK kvs k v=kvs++[(k,v)]:=by
 unfold putK;rw[zdf,h];exact if_neg (by decide)
theorem RelO.isSome_eq{o:Option V}{u:Option Value}(r:RelO o u):o.isSome=u.isSome:=by
 cases o with
 |none=>cases u with
  |none=>rfl
  |some _=>exact(show False from r).elim
 |some _=>cases u with
  |none=>exact(show False from r).elim
  |some _=>rfl
theorem KV.val{kvs:List (κ×V)}{vs:List (κ×Value)}(r:KV kvs vs)(k:κ):RelO (valV kvs k) (valueAt vs k):=by
 unfold KV at r
 induction r with
 |nil=>exact AS
 |@cons p q ps qs h t ih=>
  obtain⟨h1,h2⟩:=h
  by_cases e:p.1=k
  ·have e':q.1=k:=h1.symm.trans e;have b:valueAt (q::qs) k=some q.2:=by simp[valueAt,Ue,e']
   rw[zcj e,b];exact h2
  ·have e':¬q.1=k:=fun z=>e (h1.trans z);have b:valueAt (q::qs) k=valueAt qs k:=by simp[valueAt,Ue,e']
   rw[zck e,b];exact ih
theorem KV.any{kvs:List (κ×V)}{vs:List (κ×Value)}(r:KV kvs vs)(k:κ):(kvs.any fun kv=>decide (kv.1=k))=vs.any fun kv=>decide (kv.1=k):=by
 unfold KV at r
 induction r with
 |nil=>rfl
 |cons h t ih=>rw[vh,vh,ih,h.1]
theorem KV.repl{kvs:List (κ×V)}{vs:List (κ×Value)}(r:KV kvs vs)(k:κ){y:V}{u:Value}(ry:RelV y u):
  KV (kvs.map fun kv=>if kv.1=k then(kv.1,y) else kv) (vs.map fun kv=>if kv.1=k then(kv.1,u) else kv):=by
 unfold KV at r⊢
 induction r with
 |nil=>exact .nil
 |@cons p q ps qs h t ih=>
  rw[pE,pE];refine .cons ?_ ih;obtain⟨h1,h2⟩:=h
  by_cases e:p.1=k
  ·rw[if_pos e,if_pos (h1.symm.trans e)];exact⟨h1,ry⟩
  ·rw[if_neg e,if_neg (fun z=>e (h1.trans z))];exact⟨h1,h2⟩
theorem KV.put{kvs:List (κ×V)}{vs:List (κ×Value)}(r:KV kvs vs)(k:κ){y:V}{u:Value}(ry:RelV y u):KV (putK kvs k y) (stored vs k u):=by
 unfold putK stored;rw[r.any k]
 by_cases e:(vs.any fun kv=>decide (kv.1=k))=true
 ·rw[if_pos e,if_pos e];exact r.repl k ry
 ·rw[if_neg e,if_neg e];exact CT r ⟨rfl,ry⟩
theorem KV.length{kvs:List (κ×V)}{vs:List (κ×Value)}(r:KV kvs vs):kvs.length=vs.length:=jk r
end
theorem kV_is{P:Program}{w:World}{k:Key}{u:Value}(r:RelV (kV k) u):(mixKind P w).is k u=true:=by
 cases k with
 |inl i=>obtain⟨t,e⟩:=(show ∃t,u=Au i t from r);subst e;exact mixKind_int P w i t
 |inr x=>obtain⟨t,e⟩:=(show ∃t,u=CB x t from r);subst e;exact mixKind_str P w x t
theorem zi5{P:Program}{w:World}:∀{ks:List Key}{us:List Value},Vals (ks.map kV) us->ItemsAre (mixKind P w) ks us
 |[],_,r=>by rw[Qg] at r;cases r;exact .nil
 |k::ks,_,r=>by
  rw[pE] at r
  cases r with
  |cons h t=>exact .cons (kV_is h) (zi5 t)
abbrev KT(H:Hp):List (List Key×V)->List (List Key×Addr×Value)->Prop:=Av fun p q=>p.1=q.1/\H q.2.1=some (.tup (p.1.map kV))/\RelV p.2 q.2.2
theorem KT.val{H:Hp}{kvs:List (List Key×V)}{xs:List (List Key×Addr×Value)}(r:KT H kvs xs)(k:List Key):RelO (valV kvs k) ((atKey xs k).map (·.2)):=by
 induction r with
 |nil=>exact AS
 |@cons p q ps qs h t ih=>
  obtain⟨h1,_,h2⟩:=h
  by_cases e:p.1=k
  ·have e':q.1=k:=h1.symm.trans e;have b:atKey (q::qs) k=some q.2:=by simp[atKey,Ue,e']
   rw[zcj e,b];exact h2
  ·have e':¬q.1=k:=fun z=>e (h1.trans z);have b:atKey (q::qs) k=atKey qs k:=by simp[atKey,Ue,e']
   rw[zck e,b];exact ih
theorem KT.repl{H:Hp}{kvs:List (List Key×V)}{xs:List (List Key×Addr×Value)}(r:KT H kvs xs)(k:List Key){y:V}{u:Value}(ry:RelV y u):
  KT H (kvs.map fun kv=>if kv.1=k then(kv.1,y) else kv) (xs.map (putAt k u)):=by
 induction r with
 |nil=>exact .nil
 |@cons p q ps qs h t ih=>
  rw[pE,pE];refine .cons ?_ ih;obtain⟨h1,h2,h3⟩:=h;unfold putAt
  by_cases e:p.1=k
  ·rw[if_pos e,if_pos (h1.symm.trans e)];exact⟨h1,h2,ry⟩
  ·rw[if_neg e,if_neg (fun z=>e (h1.trans z))];exact⟨h1,h2,h3⟩
theorem KT.put{H:Hp}{kvs:List (List Key×V)}{xs:List (List Key×Addr×Value)}(r:KT H kvs xs)(k:List Key){b:Addr}{y:V}{u:Value}(hb:H b=some (.tup (k.map kV)))(ry:RelV y u):
  KT H (putK kvs k y) (storedH xs k b u):=by
 have e:(kvs.any fun kv=>decide (kv.1=k))=(atKey xs k).isSome:=by
  rw[zdf,(r.val k).isSome_eq,Aj]
 unfold putK storedH;rw[e]
 by_cases q:(atKey xs k).isSome=true
 ·rw[if_pos q,if_pos q];exact r.repl k ry
 ·rw[if_neg q,if_neg q];exact CT r ⟨rfl,hb,ry⟩
theorem KT.keeps{H H':Hp}{kvs:List (List Key×V)}{xs:List (List Key×Addr×Value)}(r:KT H kvs xs)(ht:∀b ys,H b=some (.tup ys)->H' b=some (.tup ys)):KT H' kvs xs:=
 Paired.mapP r fun _ _ z=>⟨z.1,ht _ _ z.2.1,z.2.2⟩
section
variable{P:Program}{w:World}{H:Hp}{h:Heap}{a:Addr}
theorem rd_of{u:HO}(ok:HOk P w H h)(e:Rd H a u):ObjOk P w H h a u:=e.ok ok
theorem dk_rd{kvs:List (Key×V)}(ok:HOk P w H h)(e:Rd H a (.dK kvs)):kvs.length<=sizeLine/\(a==sysModules)=false/\∃vs,KV kvs vs/\h.DictOf (mixKind P w) a vs:=
 show ObjOk P w H h a (.dK kvs) from rd_of ok e
theorem dk_of{kvs:List (Key×V)}(ok:HOk P w H h)(e:H a=some (.dK kvs)):kvs.length<=sizeLine/\(a==sysModules)=false/\∃vs,KV kvs vs/\h.DictOf (mixKind P w) a vs:=dk_rd ok (.inl e)
theorem zjb{ks:List Key}(ok:HOk P w H h)(e:H a=some (.tup (ks.map kV))):(tupleKind (mixKind P w)).is h ks a:=by
 obtain⟨_,its,r,o,h1,h2,n,h3⟩:=(show ObjOk P w H h a (.tup (ks.map kV)) from ok a _ e);exact⟨o,its.toArray,n,h1,h2,h3,by simpa using zi5 r⟩
theorem dt_rd{kvs:List (List Key×V)}(ok:HOk P w H h)(e:Rd H a (.dT kvs)):kvs.length<=sizeLine/\(a==sysModules)=false/\
  ∃xs,KT H kvs xs/\h.DictOfH (tupleKind (mixKind P w)) a xs:=by
 obtain⟨z,y,xs,r,o,es,ep,h1,h2,h3,h4,h5⟩:=(show ObjOk P w H h a (.dT kvs) from rd_of ok e);refine⟨z,y,xs,r,o,es,ep,h1,h2,h3,h4,fun x hx=>?_,h5⟩;have all:∀{l:List (List Key×V)}{m:List (List Key×Addr×Value)},KT H l m->∀x∈m,(tupleKind (mixKind P w)).is h x.1 x.2.1:=by
  intro l m q
  induction q with
  |nil=>intro x hx;exact nomatch hx
  |@cons p q ps qs hq t ih=>
   intro x hx;rcases kh.mp hx with e|hx
   ·subst e;exact zjb ok (by rw[←hq.1];exact hq.2.1)
   ·exact ih x hx
 exact all r x hx
theorem dt_of{kvs:List (List Key×V)}(ok:HOk P w H h)(e:H a=some (.dT kvs)):kvs.length<=sizeLine/\(a==sysModules)=false/\
  ∃xs,KT H kvs xs/\h.DictOfH (tupleKind (mixKind P w)) a xs:=dt_rd ok (.inl e)
end
def DGet(H:Hp)(a:Addr)(y:V)(r:Option V):Prop:=
 (∃kvs k,Rd H a (.dK kvs)/\y=kV k/\r=valV kvs k)∨∃kvs k b,Rd H a (.dT kvs)/\y=.ref b/\H b=some (.tup (k.map kV))/\r=valV kvs k
def DPut(H:Hp)(a:Addr)(y v:V)(H':Hp):Prop:=
 (∃kvs k,H a=some (.dK kvs)/\y=kV k/\kvs.length<sizeLine/\H'=upd H a (.dK (putK kvs k v)))∨
 ∃kvs k b,H a=some (.dT kvs)/\y=.ref b/\H b=some (.tup (k.map kV))/\kvs.length<sizeLine/\H'=upd H a (.dT (putK kvs k v))
theorem DGet.t{H:Hp}{a b:Addr}{kvs:List (List Key×V)}{k:List Key}(e:H a=some (.dT kvs))(eb:H b=some (.tup (k.map kV))):DGet H a (.ref b) (valV kvs k):=.inr ⟨kvs,k,b,.inl e,rfl,eb,rfl⟩
theorem DPut.k{H:Hp}{a:Addr}{kvs:List (Key×V)}{k:Key}{v:V}(e:H a=some (.dK kvs))(hl:kvs.length<sizeLine):DPut H a (kV k) v (upd H a (.dK (putK kvs k v))):=.inl ⟨kvs,k,e,rfl,hl,rfl⟩
theorem DPut.t{H:Hp}{a b:Addr}{kvs:List (List Key×V)}{k:List Key}{v:V}(e:H a=some (.dT kvs))(eb:H b=some (.tup (k.map kV)))(hl:kvs.length<sizeLine):
  DPut H a (.ref b) v (upd H a (.dT (putK kvs k v))):=.inr ⟨kvs,k,b,e,rfl,eb,hl,rfl⟩
section
variable{X:Cx}{pins:List (Addr×Obj)}{σ:St}{H:Hp}{s:Shared}{a:Addr}{y v:V}{u r:Value}{o:Option V}{A:Around}{E:Value->Shared->Prop}
theorem Inv.big(I:Inv X pins σ H s):sysModules<s.heap.objs.size:=by
 have h:mainGlobals<s.heap.objs.size:=(I.mod.glob.keeps I.bk).lt;exact Ak (by decide) h
theorem d_getItem{Q:Value->Shared->Prop}(hu:A.units+1<cLine)(I:Inv X pins σ H s)(g:DGet H a y (some v))(ry:RelV y u)(h:∀w' s',Inv X pins σ H s'->RelV v w'->Q w' s'):
  wpAny (model X.prog X.w) A (getItem (.ref a) u) Q E s:=by
 rcases g with⟨kvs,k,e,ey,l⟩|⟨kvs,k,b,e,ey,eb,l⟩
 ·subst ey;obtain⟨z,hd,vs,rel,dd⟩:=dk_rd I.hok e;obtain⟨w',hw,rw'⟩:=RelO.some_of (v:=v) (o:=valueAt vs k) (by rw[l];exact rel.val k)
  exact wpAny_getItem_of (kV_is ry) dd.mapOf hw (h w' _ (I.tok _) rw')
 ·subst ey
  cases(show u=ut b from ry);obtain⟨z,hd,xs,rel,dd⟩:=dt_rd I.hok e;obtain⟨w',hw,rw'⟩:=RelO.some_of (v:=v) (o:=(atKey xs k).map (·.2)) (by rw[l];exact rel.val k)
  obtain⟨p,hp,hp2⟩:=Qr.mp hw;refine wpAny_getItem_heap (jO hu) (zjb I.hok eb) dd hp ?_;rw[hp2];exact h w' _ (I.tok _) rw'
theorem d_notIn{Q:Value->Shared->Prop}(hu:A.units+1<cLine)(I:Inv X pins σ H s)(g:DGet H a y o)(ry:RelV y u)(h:∀s',Inv X pins σ H s'->Q (.bool (!o.isSome)) s'):
  wpAny (model X.prog X.w) A (compareOp .NotIn u (.ref a)) Q E s:=by
 rcases g with⟨kvs,k,e,ey,l⟩|⟨kvs,k,b,e,ey,eb,l⟩
 ·subst ey;obtain⟨z,hd,vs,rel,dd⟩:=dk_rd I.hok e;refine wpAny_notIn_of (kV_is ry) hd dd.mapOf ?_;rw[←(rel.val k).isSome_eq,←l];exact h _ (I.tok _)
 ·subst ey
  cases(show u=ut b from ry);obtain⟨z,hd,xs,rel,dd⟩:=dt_rd I.hok e;refine wpAny_notIn_heap (jO hu) (zjb I.hok eb) hd dd ?_;have q:=(rel.val k).isSome_eq;rw[Aj] at q;rw[←q,←l];exact h _ (I.tok _)
theorem zkq{h':Heap}{t':Nat}{ob:HO}(I:Inv X pins σ H s)(mu:Mut (H a))(hs:jD a s.heap h')(he:∃q,h'.get? a=some q)(new:ObjOk X.prog X.w (upd H a ob) h' a ob):
  Inv X pins σ (upd H a ob) {s with heap:=h',toks:=t'}:=
 I.write (x:=a) (e:=a) mu (.inl rfl) (fun b q hb z=>(hs.2 b hb).trans z) he new
theorem dk_new{P:Program}{w:World}{H':Hp}{h':Heap}{kvs:List (Key×V)}{vs:List (Key×Value)}(z:kvs.length<=sizeLine)(hd:(a==sysModules)=false)(rel:KV kvs vs)(dd:h'.DictOf (mixKind P w) a vs):
  ObjOk P w H' h' a (.dK kvs):=⟨z,hd,vs,rel,dd⟩
theorem d_setItem{H':Hp}{Q:Unit->Shared->Prop}(hu:A.units+1<cLine)(I:Inv X pins σ H s)(g:DPut H a y v H')(ry:RelV y u)(rv:RelV v r)(h:∀s',Inv X pins σ H' s'->Q () s'):
  wpAny (model X.prog X.w) A (setItem (.ref a) u r) Q E s:=by
 rcases g with⟨kvs,k,e,ey,l,eH⟩|⟨kvs,k,b,e,ey,eb,l,eH⟩
 ·subst ey eH;obtain⟨z,hd,vs,rel,dd⟩:=dk_of I.hok e;have hz:vs.length<=sizeLine:=by rw[←rel.length];exact z
  have hl:(putK kvs k v).length<=sizeLine:=by have:=zcq kvs k v;omega
  refine wpAny_setItem_pairs (hsz:=hz) (kV_is ry) dd fun h' dd' hs=>h _ ?_;have he:∃q,h'.get? a=some q:=let⟨q,_,_,hq,_⟩:=dd';⟨q,hq⟩;exact zkq I (by rw[e];exact AS) hs he (dk_new hl hd (rel.put k rv) dd')
 ·subst ey eH
  cases(show u=ut b from ry);obtain⟨z,hd,xs,rel,dd⟩:=dt_of I.hok e;have hz:xs.length<=sizeLine:=by rw[←jk rel];exact z
  have hl:(putK kvs k v).length<=sizeLine:=by have:=zcq kvs k v;omega
  refine wpAny_setItem_heap (hsz:=hz) (jO hu) (zjb I.hok eb) dd fun h' dd' hs=>h _ ?_;obtain⟨q,es,ep,hq,h2,h3,h4,_,h5⟩:=dd';refine zkq I (by rw[e];exact AS) hs ⟨q,hq⟩ ⟨hl,hd,_,(rel.put k eb rv).keeps fun c ys ec=>?_,q,es,ep,hq,h2,h3,h4,h5⟩
  rw[za6 (ne_of ec e (fun z=>nomatch z))];exact ec
end
def NoSl(i:Expr):Prop:=∀ov iv,subscripted i false ov iv=operate [ov,iv] (getItem ov iv)
theorem subD_of{prog:Program}{w:World}{A:Around}{E:Value->Shared->Prop}{s:Shared}{env:Env}{value slice:Expr}{pos:Pos}{T id:String}{Q:Value->Shared->Prop}
  (hl:typeLookup (.type T) "__getitem__"=pure (some (.builtin id)))(hs:NoSl slice)
  (h:wpAny (model prog w) A (eval value env) (fun o s₁=>wpAny (model prog w) A (eval slice env) (fun i s₂=>s₂.TypeIs o T/\wpAny (model prog w) A (getItem o i) Q E s₂) E s₁) E s):
  wpAny (model prog w) A (eval (.Subscript value slice pos) env) Q E s:=by
 refine Bg (uL h (fun o s₁ h₁=>uL h₁ (fun i s₂ h₂=>?_) fun _ _ x=>x) fun _ _ x=>x);obtain⟨hT,h₂⟩:=h₂;unfold subscriptTail;refine kA ?_;rw[getitemInPython_of_ne hT.not_modules];refine kA (BV hT hl ?_);have fin:wpAny (model prog w) A (subscripted slice false o i) (fun r s₃=>wpAny (model prog w) A (letTemporaryGo value o r>>=fun _=>pure r) Q E s₃) E s₂:=by
  rw[hs o i];exact wpAny_operating (uL h₂ (fun r s₃ h₃=>kA (wpAny_letTemporaryGo (kM h₃))) fun _ _ x=>x)
 first
  |exact kM (kA fin)
  |exact kA (kM (kA fin))
  |exact kA fin
theorem dict_typeIs{X:Cx}{pins:List (Addr×Obj)}{σ:St}{H:Hp}{s:Shared}{a:Addr}{y:V}{o:Option V}(I:Inv X pins σ H s)(g:DGet H a y o):s.TypeIs (.ref a) "dict":=by
 rcases g with⟨kvs,k,e,_,_⟩|⟨kvs,k,b,e,_,_,_⟩
 ·obtain⟨_,_,vs,_,dd⟩:=dk_rd I.hok e;exact dd.typeIs
 ·obtain⟨_,_,xs,_,dd⟩:=dt_rd I.hok e;exact dd.typeIs
def tDGet(td ty:TE):TE:=fun σ H Q=>td σ H fun x H1=>ty σ H1 fun y H2=>∃a v,x=.ref a/\DGet H2 a y (some v)/\Q v H2
def tDNotIn(ty td:TE):TE:=fun σ H Q=>ty σ H fun y H1=>td σ H1 fun x H2=>∃a o,x=.ref a/\DGet H2 a y o/\Q (.bl (!o.isSome)) H2
def sDPut(td ty tv:TE):TS:=fun D σ H=>tv σ H fun v H1=>td σ H1 fun x H2=>ty σ H2 fun y H3=>∃a H4,x=.ref a/\DPut H3 a y v H4/\D.nx σ H4
section
variable{X:Cx}{o i e value:Expr}{pos pos' tpos:Pos}{td ty tv:TE}
theorem zhs(hu:X.A.units+1<cLine)(ho:PE X o td)(hi:PE X i ty)(hs:NoSl i):PE X (.Subscript o i pos) (tDGet td ty):=by
 intro pins s σ H Q I h;refine subD_of PySem.F.slot_dict_getitem.lookup hs (thn (ho pins s σ H _ I h) fun u s1⟨x,H1,I1,rx,q1⟩=>thn (hi pins s1 σ H1 _ I1 q1) fun iv s2⟨y,H2,I2,ry,a,v,ex,g,q2⟩=>?_);subst ex;obtain rfl:u=ut a:=rx;exact⟨dict_typeIs I2 g,d_getItem hu I2 g ry fun w' s3 I3 rw'=>⟨v,H2,I3,rw',q2⟩⟩
theorem zid(hu:X.A.units+1<cLine)(hi:PE X i ty)(ho:PE X o td):PC X .NotIn i o (tDNotIn ty td):=by
 intro pins s σ H Q I h;refine thn (hi pins s σ H _ I h) fun iv s1⟨y,H1,I1,ry,q1⟩=>thn (ho pins s1 σ H1 _ I1 q1) fun u s2⟨x,H2,I2,rx,a,ov,ex,g,q2⟩=>?_;subst ex;obtain rfl:u=ut a:=rx;exact d_notIn hu I2 g ry fun s3 I3=>⟨.bl (!ov.isSome),H2,I3,rfl,q2⟩
theorem zl6(hu:X.A.units+1<cLine)(ho:PE X o td)(hi:PE X i ty)(hv:PE X value tv)(hs:swapsWith value (some (.Subscript o i pos')) pos.line X.env=pure false):
  PS X (.Assign [.Subscript o i pos'] value pos) (sDPut td ty tv):=by
 intro pins s σ H D I h;refine wpAny_Assign_Subscript (thn (hv pins s σ H _ I h) fun r s1⟨v,H1,I1,rv,q1⟩=>thn (ho pins s1 σ H1 _ I1 q1) fun u s2⟨x,H2,I2,rx,q2⟩=>thn (hi pins s2 σ H2 _ I2 q2) fun iv s3⟨y,H3,I3,ry,a,H4,ex,g,q3⟩=>?_) hs;subst ex;obtain rfl:u=ut a:=rx;exact d_setItem hu I3 g ry rv fun s4 I4=>⟨σ,H4,I4,q3⟩
end
theorem dk_empty{P:Program}{w:World}{H:Hp}(h:Heap)(hb:sysModules<h.objs.size):ObjOk P w H (h.push {cls:=.type "dict",data:=.dict #[]}) h.objs.size (.dK []):=
 ⟨pI _,beq_eq_false_iff_ne.mpr (UA (pD hb)),[],.nil,Heap.DictOf.new h⟩
theorem dt_empty{P:Program}{w:World}{H:Hp}(h:Heap)(hb:sysModules<h.objs.size):ObjOk P w H (h.push {cls:=.type "dict",data:=.dict #[]}) h.objs.size (.dT []):=
 ⟨pI _,beq_eq_false_iff_ne.mpr (UA (pD hb)),[],.nil,_,#[],0,kY _ rfl,⟨rfl,rfl,rfl⟩,rfl,rfl,Bo⟩
def tDNewK:TE:=fun _ H Q=>∀p,H p=none->Q (.ref p) (upd H p (.dK []))
def tDNewT:TE:=fun _ H Q=>∀p,H p=none->Q (.ref p) (upd H p (.dT []))
section
variable{X:Cx}{pos:Pos}
theorem pe_dnewK:PE X (.Dict [] [] pos) tDNewK:=fun pins s σ H Q I h=>
 BB ⟨.ref s.heap.objs.size,_,I.laid (a:=s.heap.objs.size) (o:=.dK []) (t':=s.toks) (fun _ _ q=>kF _ q) (kI _) (dk_empty s.heap I.big),rfl,h _ (I.hok.fresh (kI _))⟩
theorem zk1:PE X (.Dict [] [] pos) tDNewT:=fun pins s σ H Q I h=>
 BB ⟨.ref s.heap.objs.size,_,I.laid (a:=s.heap.objs.size) (o:=.dT []) (t':=s.toks) (fun _ _ q=>kF _ q) (kI _) (dt_empty s.heap I.big),rfl,h _ (I.hok.fresh (kI _))⟩
end
section
variable{κ:Type}[DecidableEq κ]
theorem valV_not{kvs:List (κ×V)}{k:κ}(h:valV kvs k=none):¬k∈kvs.map (·.1):=by
 intro m;obtain⟨p,hp,e⟩:=uD.mp m;have q:(kvs.any fun kv=>decide (kv.1=k))=true:=List.any_eq_true.mpr ⟨p,hp,decide_eq_true e⟩;rw[zdf,h] at q;exact absurd q (by simp)
theorem zka{kvs:List (κ×V)}{k:κ}{v:V}(h:valV kvs k=some v):k∈kvs.map (·.1):=by
 have q:(kvs.any fun kv=>decide (kv.1=k))=true:=by
  rw[zdf,h]
  all_goals rfl
 obtain⟨p,hp,e⟩:=List.any_eq_true.mp q;exact uD.mpr ⟨p,hp,of_decide_eq_true e⟩
theorem zj0:∀{l:List κ}{k:κ},l.Nodup->¬k∈l->(l++[k]).Nodup
 |[],k,_,_=>by simp
 |a::r,k,h,hk=>by
  obtain⟨h1,h2⟩:=Ud.mp h;show(a::(r++[k])).Nodup;refine List.nodup_cons.mpr ⟨fun m=>?_,zj0 h2 fun m=>hk (kh.mpr (Ul m))⟩;rcases kf.mp m with q|q
  ·exact h1 q
  ·exact hk (kh.mpr (kc (kr.mp q).symm))
end
section
variable{X:Cx}{x:Str}{p pos:Pos}{e:Expr}{es:List Expr}{kws:List Keyword}{ks:List Str}{t tk:TA}{id:String}{r:List V->List V->Hp->VK->Prop}
def CallKR(X:Cx)(f:Value)(ks:List Str)(r:List V->List V->Hp->VK->Prop):Prop:=
 ∀(pins:List (Addr×Obj))(s:Shared)(σ:St)(H:Hp)(xs zs:List V)(us ws:List Value)(Q:VK),Inv X pins σ H s->Vals xs us->Vals zs ws->r xs zs H Q->wpAny (model X.prog X.w) X.A (call f us (ks.zip ws)) (EP X pins σ Q) X.xe s
def tCBK(r:List V->List V->Hp->VK->Prop)(t tk:TA):TE:=fun σ H Q=>t σ H fun xs H1=>tk σ H1 fun zs H2=>r xs zs H2 Q
theorem pe_callBK(hc:CallKR X (.builtin id) ks r)(hg:Gl X x)(hm:X.mg x=none)(hv:bootBuiltins x=some (.builtin id))(ha:PA X (e::es) t)(hkw:PK X kws tk)(hks:(backToKw pos (keywordEach kws X.env)).filterMap (·.1)=ks:=by rfl)
  (hn:x≠"__name__":=by decide) (hdb:(x==("__debug__":Str))=false:=by decide) (he:backTo pos (pX (e::es) X.env)=(false,eval e X.env)::backTo pos (pX es X.env):=by rfl) (hpl:(backTo pos (pX (e::es) X.env)).any (·.1)=false:=by rfl)
  (hall:(backToKw pos (keywordEach kws X.env)).all (·.1.isSome)=true:=by rfl) (hno:(backToKw pos (keywordEach kws X.env)).any (·.1.isNone)=false:=by rfl):PE X (.Call (.Name x p) (e::es) kws pos) (tCBK r t tk):=by
 intro pins s σ H Q I h;refine Qw (ze2 I hg hm hv ?_ hn hdb);refine BM (thn (ha pos pins s σ H _ I h) fun us s1⟨vs,H1,I1,r1,q1⟩=>thn (hkw pos pins s1 σ H1 _ I1 q1) fun ws s2⟨zs,H2,I2,r2,q2⟩=>?_) he hpl hall hno;rw[hks];exact hc pins s2 σ H2 vs zs us ws Q I2 r1 r2 q2
end
section
variable{prog:Program}{w:World}{A:Around}{R:Result->Shared->Prop}{I:Addr}{fp wr:List Addr}{n:Nat}{P:Nat->Value->Prop}{St:Nat->Heap->Prop}
theorem maxD_on(W:Walks prog w A.in1 I fp wr n P St)(bt:Nat->Nat->Bool)(hc:CmpOf prog w A.in1 .Gt P bt)(S:Addr)(nS:S∉fp)(kw:List (Str×Value)):∀(k j:Nat)(s:Shared)(vb:Value)(c:Nat),n-(j+1)=k->j+1<=n->St (j+1) s.heap->P (argBest bt j) vb->
  s.heap.get? S=some {cls:=.type "list",dict:=none,data:=.seq #[vb,vb] c,slots:=#[]}->(∀v h' tk,P (argBest bt (n-1)) v->(∀b o,b∉wr->b≠S->s.heap.get? b=some o->h'.get? b=some o)->R (.ok (.ret v)) {s with heap:=h',toks:=tk})->
  codeAny (model prog w) A (.builtin "max.loop" ⟨[.ref I,.none,.ref S],kw⟩) R s:=by
 have nw:S∉wr:=fun z=>nS (W.sub _ z);have nm:(toString "max"++toString ".loop":String)="max.loop":=by decide
 intro k
 induction k with
 |zero=>
  intro j s vb c hk hj st hb oS q;have ej:j+1=n:=by omega
  refine vE hX ?_;rw[Um UU _];refine kA (m:=seqItems? (.ref S)) (uk oS rfl (kA (vQ (W.done s _ _ (ej▸st) fun h' tk kp=>?_))));refine kA (UH (kp S _ nw oS) rfl (kA (UV (kM ?_))));exact q vb _ tk (by rw[←ej];exact hb) fun b o b1 b2 e=>(uC _ _ (UA b2)).trans (kp b o b1 e)
 |succ k ih=>
  intro j s vb c hk hj st hb oS q;refine vE hX ?_;rw[Um UU _];refine kA (m:=seqItems? (.ref S)) (uk oS rfl (kA (vQ (W.item (j+1) s _ _ (by omega) st fun v h' tk hP st' kp=>?_))))
  have oS':=kp S _ nw oS;refine kA (kM ?_);refine kA (m:=tryCatch (holding [v,v] (richCompare CmpOp.Gt v vb>>=_)) _) (vQ (QY (kA (hc (j+1) (argBest bt j) v vb _ _ _ hP hb (kA (QY (UJ (kA (UV (kM ?_))))))))))
  cases bb:bt (j+1) (argBest bt j) with
  |true=>
   simp only[if_true];refine kA (UH oS' rfl (kA (UV ?_)));rw[nm];refine kM ⟨vi UU _,ih (j+1) _ v _ (by omega) (by omega) (W.frame _ _ _ st' fun b hf o e=>(uC _ _ (fun z:S=b=>nS (by rw[z];exact hf))).trans e) (by simp only[argBest,bb,if_true];exact hP) (uj _ oS' rfl) fun v' h'' tk'' hP' kp'=>?_⟩
   exact q v' h'' tk'' hP' fun b o b1 b2 e=>kp' b o b1 b2 ((uC _ _ (UA b2)).trans (kp b o b1 e))
  |false=>
   simp only[pR,if_false];refine kA (UV ?_);rw[nm];exact kM ⟨vi UU _,ih (j+1) _ vb c (by omega) (by omega) st' (by simp only[argBest,bb,pR,if_false];exact hb) oS' fun v' h'' tk'' hP' kp'=>q v' h'' tk'' hP' fun b o b1 b2 e=>kp' b o b1 b2 (kp b o b1 e)⟩
theorem maxD_first(W:Walks prog w A.in1 I fp wr n P St)(bt:Nat->Nat->Bool)(hc:CmpOf prog w A.in1 .Gt P bt)(S:Addr)(nS:S∉fp){k:Str}{d:Value}{s:Shared}{c:Nat}(st:St 0 s.heap)
  (oS:s.heap.get? S=some {cls:=.type "list",dict:=none,data:=.seq #[] c,slots:=#[]})
  (q:∀v h' tk,((0<n/\P (argBest bt (n-1)) v)∨(n=0/\v=d))->(∀b o,b∉wr->b≠S->s.heap.get? b=some o->h'.get? b=some o)->R (.ok (.ret v)) {s with heap:=h',toks:=tk}):
  codeAny (model prog w) A (.builtin "max.loop" ⟨[.ref I,.none,.ref S],[(k,d)]⟩) R s:=by
 have nw:S∉wr:=fun z=>nS (W.sub _ z);have nm:(toString "max"++toString ".loop":String)="max.loop":=by decide
 refine vE hX ?_;rw[Um UU _]
 by_cases h0:n=0
 ·subst h0;refine kA (m:=seqItems? (.ref S)) (uk oS rfl (kA (vQ (W.done s _ _ st fun h' tk kp=>?_))));exact kA (Qa (kM (q d h' tk (.inr ⟨rfl,rfl⟩) fun b o b1 _ e=>kp b o b1 e)))
 ·refine kA (m:=seqItems? (.ref S)) (uk oS rfl (kA (vQ (W.item 0 s _ _ (by omega) st fun v h' tk hP st' kp=>?_))))
  refine kA (kM ?_);refine kA (UH (kp S _ nw oS) rfl ?_);rw[nm];refine kM ⟨vi UU _,maxD_on W bt hc S nS _ _ 0 _ v _ rfl (by omega) (W.frame _ _ _ st' fun b hf o e=>(uC _ _ (fun z:S=b=>nS (by rw[z];exact hf))).trans e) hP (uj _ (kp S _ nw oS) rfl) fun v' h'' tk'' hP' kp'=>?_⟩
  exact q v' h'' tk'' (.inl ⟨by omega,hP'⟩) fun b o b1 b2 e=>kp' b o b1 b2 ((uC _ _ (UA b2)).trans (kp b o b1 e))
end
theorem args_maxD(a v:Value):argsOk "max" ⟨[a],[(pK "default",v)]⟩:=by unfold argsOk;kernel_rfl
theorem zjo(val:Nat->Int):∀k,argBest (fun i j=>decide (val i>val j)) k<=k/\∀i,i<=k->val i<=val (argBest (fun i j=>decide (val i>val j)) k)
 |0=>⟨kI _,fun i hi=>by rw[Nat.le_zero.mp hi];exact CU _⟩
 |k+1=>by
  obtain⟨h1,h2⟩:=zjo val k;unfold argBest
  by_cases c:val (k+1)>val (argBest (fun i j=>decide (val i>val j)) k)
  ·rw[if_pos (decide_eq_true c)];refine⟨kI _,fun i hi=>?_⟩
   by_cases e:i=k+1
   ·rw[e];exact CU _
   ·have:=h2 i (by omega)
    omega
  ·rw[if_neg (by rw[decide_eq_false c];decide)]
   refine⟨by omega,fun i hi=>?_⟩
   by_cases e:i=k+1
   ·rw[e];omega
   ·exact h2 i (by omega)
def rMaxD:List V->List V->Hp->VK->Prop:=fun xs zs H Q=>∃p ns d,xs=[.ref p]/\zs=[.int d]/\H p=some (.lst (ns.map V.int))/\∀g,(∀n,n∈ns->n<=g)->(g∈ns∨(ns=[]/\g=d))->Q (.int g) H
section
variable{X:Cx}
theorem call_maxD(hc:X.calm=true):CallKR X (.builtin "max") [pK "default"] rMaxD:=by
 intro pins s σ H xs zs us ws Q I r rz h;obtain⟨p,ns,d,rfl,rfl,hp,q⟩:=h;obtain⟨u,rfl,ru⟩:=vals1 r;obtain⟨u',rfl,t,rfl⟩:=vals1 rz
 cases ru;obtain⟨its,rv,pl,hz⟩:=I.list (.of hp);have ia:IntsAre its ns:=by
  have:=zdq rv
  simpa using this
 have len:=ia.length;have ne:p≠s.heap.objs.size:=pD pl.lt;have nm:(toString "max"++toString ".loop":String)="max.loop":=by decide
 refine kmk_tree PySem.F.kind_max PySem.F.plain_max PySem.F.entry_max (args_maxD _ _) ?_;refine kA (m:=jF "max" ["key","default"] 0 ⟨[],[(pK "default",.int d t)]⟩) (BK (show jF "max" ["key","default"] 0 ⟨[],[(pK "default",.int d t)]⟩=pure [none,some (.int d t)] from rfl) (kA (kM (kA (Aa pl.isList (kA (Uy ?_ (pI _))))))));rw[nm];have W:=Walks.list (prog:=X.prog) (w:=X.w) (A:=X.A.in1) (show X.A.in1.handled=none from I.ok.hd hc) s.heap.objs.size p ne its.toArray;have it:∀i v,its.toArray[i]?=some v->∃t,v=Au (ns.getD i 0) t:=fun i v hv=>IntsAre.int_at ia i v (by simpa using hv)
 have sz:(s.heap.push {cls:=.type "list_iterator",data:=.fields #[.ref p,.int 0 0]}).objs.size=s.heap.objs.size+1:=by rw[US]
 refine kM ⟨vi PySem.F.plain_max_loop _,maxD_first W (fun i j=>decide (ns.getD i 0>ns.getD j 0)) (CmpOf.ints_gt (fun i=>ns.getD i 0) it) _ (fun z=>?_) (st:=W.frame 0 _ _ ⟨⟨_,kY _ rfl,rfl,rfl⟩,pl.isList.push _⟩ fun b _ o e=>kF _ e) (kY _ rfl) fun v h' tk hv kp=>?_⟩
 ·rw[sz] at z;have l2:p<s.heap.objs.size:=pl.lt;rcases kh.mp z with z|z
  ·exact absurd z (vO (Nat.lt_succ_self _))
  ·exact absurd (kr.mp z) (vO (Al l2))
 ·have keep:∀b o,s.heap.get? b=some o->h'.get? b=some o:=fun b o e=>by
   have lt:=kT e;refine kp b o (fun z=>?_) (fun z=>?_) (kF _ (kF _ e))
   ·exact absurd (show b=s.heap.objs.size by simpa using z) (pD lt)
   ·rw[sz] at z;exact absurd z (pD (Al lt))
  obtain⟨b1,b2⟩:=zjo (fun i=>ns.getD i 0) (its.toArray.size-1);have J:Inv X pins σ H {s with heap:=h',toks:=tk}:=I.kept keep;rcases hv with⟨h0,hv⟩|⟨h0,rfl⟩
  ·obtain⟨t',rfl⟩:=it _ _ hv;have h0:0<its.length:=by simpa using h0
   have zi:its.toArray.size=its.length:=rfl;rw[zi] at b1 b2⊢;refine⟨.int _,H,J,⟨t',rfl⟩,q _ (fun n hn=>?_) (.inl ?_)⟩
   ·obtain⟨i,hi,e⟩:=po.mp hn;have:=b2 i (by omega)
    have e':ns.getD i 0=n:=by simp[hi,e]
    rw[e'] at this;exact this
   ·have hb:argBest (fun i j=>decide (ns.getD i 0>ns.getD j 0)) (its.length-1)<ns.length:=by omega
    rw[kB,kL hb];exact Uq _
  ·have h0:its.length=0:=by simpa using h0
   have n0:ns=[]:=vm (by omega)
   exact⟨.int d,H,J,⟨t,rfl⟩,q d (fun n hn=>by rw[n0] at hn;cases hn) (.inr ⟨n0,rfl⟩)⟩
end
section
variable{prog:Program}{w:World}{A:Around}{E:Value->Shared->Prop}{s:Shared}
theorem kiter_new{d:Addr}{od:Obj}{es:Array DictEntry}{ep:Nat}{Q:Value->Shared->Prop}(hd:(d==sysModules)=false)(ho:s.heap.get? d=some od)(hc:od.cls=.type "dict")(hdat:od.data=.dict es ep)
  (q:Q (.ref s.heap.objs.size) {s with heap:=s.heap.push {cls:=.type "dict_keyiterator",data:=.fields #[.ref d,.int 0 0,.int es.size 0,.int ep 0]}}):wpAny (model prog w) A (pyIter (.ref d)) Q E s:=by
 have ty:s.TypeIs (.ref d) "dict":=⟨od,ho,hc⟩;refine wpAny_pyIter_slot ty gL (Qu gL ty PySem.F.entry_dict_iter ?_ (PySem.F.args_dict_iter_1 _));unfold Builtin.«dict.__iter__»;refine kA ?_;unfold Builtin.Dict.dictSlotNone;refine kA (wpAny_notOrdered_dict ty (kM ?_));refine kA (m:=gh d) ?_;unfold gh;rw[if_neg (by rw[hd];decide)]
 refine kM (kA (jf ho hdat (kA (gX ho hdat (kA (Qn (kM ⟨_,rfl,"dict_keyiterator",_,⟨_,kY _ rfl,rfl⟩,PySem.F.slot_dict_keyiterator_next.lookup,?_⟩)))))))
 simpa[rawInt] using q
theorem kiter_item{it d:Addr}{i ep:Nat}{od:Obj}{es:Array DictEntry}{Q:Option Value->Shared->Prop}(hit:s.heap.IsKeyIter it d i es.size ep)(ho:s.heap.get? d=some od)(hdat:od.data=.dict es ep)(hi:i<es.size)
  (q:∀h',h'.IsKeyIter it d (i+1) es.size ep->jD it s.heap h'->Q (some es[i].key) {s with heap:=h'}):wpAny (model prog w) A (pyNext (.ref it)) Q E s:=by
 obtain⟨o,hoi,hci,hdi⟩:=id hit;have own:vw "dict_keyiterator"=false:=by decide
 unfold pyNext;refine kA (Uh (QQ (name:=pK "__next__") hit.typeIs QN (Qu QN hit.typeIs Uz (kA (kM (kA (kA ?_)))) (Uw _))))
 first|refine kA (Ql hit.typeIs (kM (kA (jP hoi hdi ?_))))|refine kA (UQ hit.typeIs (kM (kA (jP hoi hdi ?_))))
 simp only[own,pR,if_false];show wpAny _ _ (if(ut d==pT)=true then _ else _) _ _ s;have nv:¬((ut d==pT)=true):=pF;rw[if_neg nv];refine kA (kM (kA (jf ho hdat ?_)));rw[if_neg (by simp)]
 refine kA (kM (kA (gX ho hdat ?_)));rw[if_neg (by simp)]
 refine kM ?_;simp only[show ¬((i:Int)<0) from by omega,if_false,UK,pH hi]
 refine kA ?_
 first|refine kA (Ql hit.typeIs (kM (kA (va hit.typeIs ?_))))|refine kA (UQ hit.typeIs (kM (kA (va hit.typeIs ?_))))
 refine kA (m:=setField (.ref it) 1 (rawInt ((i:Int)+1))) (jL hoi hdi (by simp) ?_)
 have st:(s.heap.update it (Bv (·.setIfInBounds 1 (rawInt ((i:Int)+1))))).IsKeyIter it d (i+1) es.size ep:=⟨_,uj _ hoi (gf (vG hdi _)),(Ag ..).trans hci,by rw[vG hdi];simp[rawInt]⟩
 refine kA (QY (kA (va (s:={s with heap:=s.heap.update it (Bv (·.setIfInBounds 1 (rawInt ((i:Int)+1))))}) st.typeIs ?_)));exact kM (kM ⟨_,rfl,kM (q _ st (Uu ..))⟩)
theorem kiter_end{it d:Addr}{i ep:Nat}{od:Obj}{es:Array DictEntry}{Q:Option Value->Shared->Prop}(hh:A.handled=none)(hit:s.heap.IsKeyIter it d i es.size ep)(ho:s.heap.get? d=some od)(hdat:od.data=.dict es ep)(hi:es.size<=i)
  (q:∀h',CP it s.heap h'->Q none {s with heap:=h'}):wpAny (model prog w) A (pyNext (.ref it)) Q E s:=by
 obtain⟨o,hoi,hci,hdi⟩:=id hit;have own:vw "dict_keyiterator"=false:=by decide
 unfold pyNext;refine kA (Uh (QQ (name:=pK "__next__") hit.typeIs QN (Qu QN hit.typeIs Uz (kA (kM (kA (kA ?_)))) (Uw _))))
 first|refine kA (Ql hit.typeIs (kM (kA (jP hoi hdi ?_))))|refine kA (UQ hit.typeIs (kM (kA (jP hoi hdi ?_))))
 simp only[own,pR,if_false];show wpAny _ _ (if(ut d==pT)=true then _ else _) _ _ s;have nv:¬((ut d==pT)=true):=pF;rw[if_neg nv];refine kA (kM (kA (jf ho hdat ?_)));rw[if_neg (by simp)]
 refine kA (kM (kA (gX ho hdat ?_)));rw[if_neg (by simp)]
 refine kM ?_;simp only[show ¬((i:Int)<0) from by omega,if_false,UK,Qs hi]
 refine kA ?_
 first|refine kA (Ql hit.typeIs (kM ?_))|refine kA (UQ hit.typeIs (kM ?_))
 refine kA (m:=setField (.ref it) 0 .none) (jL hoi hdi (by simp) ?_)
 refine kA (m:=newExc (.type "StopIteration") []) ?_;simp only[newExc,newTuple]
 refine kA (Qn (kA (m:=firstArgMember _ _) (BK (a:=pT) (by first|rfl|(simp only[firstArgMember];rfl)) (Qn ?_ (by size_fits)))) (by size_fits))
 simp only[raiseNew];refine kA (wpAny_handled ?_);rw[show A.in1.handled=none from hh];refine kA (kM (wpAny_throw ?_));refine kA (hV (T:="StopIteration") (b:=true) ⟨_,kY _ rfl,rfl⟩ isSubtype_stop (kM ?_));exact q _ (((Uu ..).extBut.push _).push _)
end
section
variable{X:Cx}{tg:Expr}{pins:List (Addr×Obj)}{σ:St}{H:Hp}{s:Shared}
theorem zi9{kvs:List (List Key×V)}{xs:List (List Key×Addr×Value)}{H:Hp}:Av (fun(p:List Key×V)(q:List Key×Addr×Value)=>p.1=q.1/\H q.2.1=some (.tup (p.1.map kV))/\RelV p.2 q.2.2) kvs xs->∀(j:Nat)(b:Addr)(kv:List Key×V),(xs.map fun q=>q.2.1)[j]?=some b->kvs[j]?=some kv->H b=some (.tup (kv.1.map kV))
 |.nil,j,b,kv,h,_=>by cases h
 |.cons r t,0,b,kv,h,h'=>by cases h;cases h';exact r.2.1
 |.cons r t,j+1,b,kv,h,h'=>zi9 t j b kv h h'
end
section
open PySem.SeqAt
open PySem.AutoSeq1 (wpAny_loadPart')
open PySem.MeetsSeq PySem.MeetsSeq2 PySem.MeetsSeq3
theorem extendT(l b:Addr)(items items2:Array Value)(n n2:Nat)(dd:Option Addr)(sl:Array (Option Value))(hs0:¬(!items.isEmpty&&Qh (items.size+items2.size))=true)(hs1:items.size<=sizeLine)(hs2:items.size+items2.size<=sizeLine+1):
  Meets (Builtin.«list.extend» ⟨[.ref l,.ref b],[]⟩)
   (fun _ R s=>s.heap.get? l=some {cls:=.type "list",dict:=none,data:=.seq items n,slots:=#[]}/\s.heap.get? b=some {cls:=.type "tuple",dict:=dd,data:=.seq items2 n2,slots:=sl}/\R (.ok (.ret pT)) {s with heap:=s.heap.update l (kq fun x=>x++items2),toks:=s.toks}):=
 .of_wp fun prog w A R s h=>by
  obtain⟨hp,g,d,tk,os⟩:=s;obtain⟨hl,hb,h⟩:=h;have f5:=AutoSeq1.sub_list_tuple;have f3:=AutoSeq1.sub_list_list;have zz:(items++items2).size<=sizeLine+1:=by rw[Array.size_append];exact hs2
  wp_walk using(UH hl rfl (hz:=hs1) (_hz':=zz)),Uf hl,Uf hb
  exact⟨_,rfl,h⟩
end
section
variable{X:Cx}
def rExtT:V->List V->Hp->VK->Prop:=fun x vs H Q=>∃l b xs zs,x=.ref l/\vs=[.ref b]/\H l=some (.lst xs)/\H b=some (.tup zs)/\xs.length+zs.length<=sizeLine/\Q .non (upd H l (.lst (xs++zs)))
theorem mt_extT:MtM X "list.extend" rExtT:=by
 intro pins s σ H x vs v us Q I rx rv h;obtain⟨l,b,xs,zs,rfl,rfl,hH,hB,hz,q⟩:=h
 cases rx;obtain⟨u,rfl,ru⟩:=rv.one
 cases ru;obtain⟨z,its,n,r,hl,e⟩:=I.lstM hH;obtain⟨its2,r2,⟨⟨cls,dd,data,sl⟩,e2,hc,n2,hd⟩,_⟩:=I.tuple (.of hB)
 simp only at hc hd
 subst hc hd;have l2:=r2.length;have hsz:its.toArray.size+its2.toArray.size<=sizeLine:=by rw[kZ,kZ];omega
 have hlong:¬(!its.toArray.isEmpty&&Qh (its.toArray.size+its2.toArray.size))=true:=by rw[notLongL hsz,Bh];decide
 refine AQ vA ⟨_,e,rfl⟩ PySem.F.entry_list_extend (PySem.F.args_list_extend_2 _ _) (extendT l b its.toArray its2.toArray n n2 dd sl hlong (by rw[kZ];omega) (by omega)) ⟨e,e2,.non,_,I.lset (its':=its++its2) hH e (by simp) (r.append r2) (by rw[kK];omega),rfl,q⟩
end
open PySem.W (kas_sort kas_ask)
open PySem.W (kas_sort kas_ask)
open PySem.W (KasT kas_asc kas_desc kas_rev kas_tail3 kas_descPart kas_count kas_place kas_bin kas_sort)
theorem zdo{α β:Type}{ans:Nat->Nat->Bool}{f:α->KasT β}:∀t:KasT α,ansT ans (t.bind f)=ansT ans (f (ansT ans t))
 |.ret _=>rfl
 |.ask i j k=>zdo (k (ans i j))
section
variable{n:Nat}{ans:Nat->Nat->Bool}
theorem zfj{p:Array Nat}{m:Nat}(hm:m<=p.size){k:Nat}(hk:k<m):(kas_rev p 0 m).getD k 0=p.getD (m-1-k) 0:=by
 have e:(kas_rev p 0 m)[k]?=p[m-1-k]?:=by
  unfold kas_rev;rw[Ux hm,if_pos (by omega)]
  congr 1
  omega
 rw[kR,kR,e]
theorem zjx{p:Array Nat}{k l:Nat}(hk:k<p.size)(hl:l<=k)(i:Nat):(bubble p k (k-l)).getD i 0=if i=l then p.getD k 0 else if l<i/\i<=k then p.getD (i-1) 0 else p.getD i 0:=by
 have e:=gY hk (k-l) (by omega) i
 have x:k-(k-l)=l:=by omega
 rw[x] at e;rw[kR,e]
 by_cases c1:i=l
 ·rw[if_pos c1,if_pos c1,kR]
 ·rw[if_neg c1,if_neg c1]
  by_cases c2:l<i/\i<=k
  ·rw[if_pos c2,if_pos c2,kR]
  ·rw[if_neg c2,if_neg c2,kR]
end
open PySem.W (kas_sort kas_ask)
def TupR(h:Heap)(v:Value)(ns ms:List Int)(l r:Bool):Prop:=∃(a:Addr)(x y:Value)(n:Nat)(dd:Option Addr)(sl:Array (Option Value)),v=.ref a/\h.get? a=some {cls:=.type "tuple",dict:=dd,data:=.seq #[x,y,.bool l,.bool r] n,slots:=sl}/\TupI h x ns/\TupI h y ms
open PySem.W (KatTups) in
theorem ktupsR{h:Heap}:∀vs:List Value,(∀v,v∈vs->∃a b l r,a≠[]/\TupR h v a b l r)->∃fs,fs.length=vs.length/\KatTups h vs fs/\∀f,f∈fs->∃ns,TupI h f ns
 |[],_=>⟨[],rfl,.nil,fun f hf=>by cases hf⟩
 |v::vs,hv=>by
  obtain⟨fs,l,t,r⟩:=ktupsR vs fun u hu=>hv u (pB _ hu);obtain⟨a,b,l',r',ne,p,x,y,n,dd,sl,rfl,o,i,j⟩:=hv v (ku ..);refine⟨x::fs,by simp[l],.cons o rfl rfl rfl t,fun f hf=>?_⟩
  rcases kh.mp hf with rfl|hf
  ·exact⟨_,i⟩
  ·exact r f hf
open PySem.W (CodeHd codeHdIn tabIn)
structure FunC(K:kC)(x qual:Str)(st:Stmt)(f:Addr)(fd:FuncData)(c P:Addr):Prop where
 ex:∃(oc:Value)(od:Option Addr)(kV doc pm:Value)(an:Option Addr)(ct:Value)(osl:Array (Option Value)),
  fd=kH x qual (defArgs st) (defBody st) (defScope st) .none kV doc pm an (.ref c) ct/\K.lookup f=some ⟨oc,od,.func fd,osl⟩/\kW K (.ref c) qual=true
 hd:codeHdIn K c P=true
section
variable{P:Program}{w:World}{K:kC}{mg:Str->Option Value}{base:Heap}
theorem FunC.ok{x qual:Str}{st:Stmt}{f c tb:Addr}{fd:FuncData}{N ps:List Str}{k:Nat}{sp:Sp}(F:FunC K x qual st f fd c tb)(S:FnScope N ps (defScope st))(len:∀vs H Q E,sp vs H Q E->vs.length=ps.length)
  (hbody:∀(A:Around)(outer:List Env)(s:Shared)(H:Hp)(vs:List V)(Q:VK)(E:XK),Room k (A.deeper (envOfC qual (defScope st) s.heap.objs.size f (.ref c)))->sp vs H Q E->
   ∃t,PSs (cxOf CX0 P w K mg base N qual (defScope st) f (.ref c) A outer s H E).nox (defBody st) t/\t {nx:=fun _ H'=>Q .non H',rt:=Q} (start N vs) H):FnOk P w K mg base CX0 (k+1) f fd ps sp:=by
 obtain⟨oc,od,kV,doc,pm,an,ct,osl,rfl,lk,hcd⟩:=F.ex;refine fn_of lk hcd S len fun A outer s H vs Q E hr hsp=>?_;obtain⟨t,h,q⟩:=hbody A outer s H vs Q E hr hsp;exact⟨t,h.nox,q⟩
end
theorem LamTab.ne{H:Hp}{P:Addr}{pos:Pos}{q:Str}(t:LamTab H P pos q){a:Addr}{o:HO}(h:H a=some o)(n:∀ps,o≠.tbl ps):a≠P:=fun z=>by
 obtain⟨ps,e,_⟩:=t;rw[z,e] at h
 cases h;exact n ps rfl
theorem SameT.tup{P:Addr}{pos:Pos}{q:Str}{H H':Hp}(g:SameT P H H')(t:LamTab H P pos q){a:Addr}{xs:List V}(h:H a=some (.tup xs)):H' a=some (.tup xs):=g a _ (t.ne h fun _ z=>nomatch z) h
theorem SameT.lst{P:Addr}{pos:Pos}{q:Str}{H H':Hp}(g:SameT P H H')(t:LamTab H P pos q){a:Addr}{xs:List V}(h:H a=some (.lst xs)):H' a=some (.lst xs):=g a _ (t.ne h fun _ z=>nomatch z) h
open PySem.W (kas_sort)
structure STO{α:Type}(lt:α->α->Bool):Prop where
 irr:∀a,lt a a=false
 tr:∀a b c,lt a b=true->lt b c=true->lt a c=true
 tot:∀a b,a≠b->lt a b=true∨lt b a=true
def lexB{α β:Type}[DecidableEq α](r:α->α->Bool)(s:β->β->Bool)(a b:α×β):Bool:=if a.1=b.1 then s a.2 b.2 else r a.1 b.1
theorem STO.lex{α β:Type}[DecidableEq α]{r:α->α->Bool}{s:β->β->Bool}(R:STO r)(S:STO s):STO (lexB r s) where
 irr a:=by unfold lexB;rw[if_pos rfl];exact S.irr _
 tr a b c h1 h2:=by
  unfold lexB at*
  by_cases e1:a.1=b.1
  ·rw[if_pos e1] at h1
   by_cases e2:b.1=c.1
   ·rw[if_pos e2] at h2;rw[if_pos (e1.trans e2)];exact S.tr _ _ _ h1 h2
   ·rw[if_neg e2] at h2;rw[if_neg (fun z=>e2 (e1.symm.trans z)),e1];exact h2
  ·rw[if_neg e1] at h1
   by_cases e2:b.1=c.1
   ·rw[if_neg (fun z=>e1 (z.trans e2.symm)),←e2];exact h1
   ·rw[if_neg e2] at h2;have n:a.1≠c.1:=fun z=>by
     rw[←z] at h2;have:=R.tr _ _ _ h1 h2;rw[R.irr] at this
     cases this
    rw[if_neg n];exact R.tr _ _ _ h1 h2
 tot a b h:=by
  unfold lexB
  by_cases e:a.1=b.1
  ·rw[if_pos e,if_pos e.symm];exact S.tot _ _ fun z=>h (Prod.ext e z)
  ·rw[if_neg e,if_neg fun z=>e z.symm];exact R.tot _ _ e
theorem STO.int:STO (fun a b:Int=>decide (a<b)) where
 irr a:=decide_eq_false (by omega)
 tr a b c h1 h2:=decide_eq_true (by have:=of_decide_eq_true h1;have:=of_decide_eq_true h2;omega)
 tot a b h:=by
  rcases Int.lt_or_gt_of_ne h with h|h
  ·exact .inl (decide_eq_true h)
  ·exact .inr (decide_eq_true h)
abbrev lt2:Int×Int->Int×Int->Bool:=lexB (fun a b=>decide (a<b)) (fun a b=>decide (a<b))
theorem sto2:STO lt2:=STO.int.lex STO.int
theorem lex1(a b:Int):HT.lexLt [a] [b]=decide (a<b):=by
 rw[HT.lexLt_cons,HT.lexLt_nil_nil]
 by_cases e:a=b
 ·rw[if_pos e];exact(decide_eq_false (by omega)).symm
 ·rw[if_neg e]
theorem lex2(a b c d:Int):HT.lexLt [a,b] [c,d]=lt2 (a,b) (c,d):=by
 rw[HT.lexLt_cons,lex1];rfl
end L2
namespace L2
open PySem
theorem hu80{A:Around}{k:Nat}(hr:Room k A):A.units+80<cLine:=by have:=hu100 hr;omega
def lamAt(st:Stmt):Scope×Pos:=match(defBody st).getLast? with
 |some (.Return (some (.Call _ _ (⟨_,.Lambda _ _ sc lp,_⟩::_) _)) _)=>(sc,lp)
 |_=>(defScope st,⟨0,0,0,0⟩)
end L2
namespace L2
open PySem PySem.Spec PyProof.Rows
section
variable{prog:Program}{w:World}{A:Around}{E:Value->Shared->Prop}{s:Shared}{R:Result->Shared->Prop}
theorem walks_keys(hh:A.handled=none)(I d:Addr)(hne:d≠I){od:Obj}{es:Array DictEntry}{ep:Nat}(hdat:od.data=.dict es ep):
  Walks prog w A I [I,d] [I] es.size (fun i v=>∃e,es[i]?=some e/\v=e.key) (fun i h=>h.IsKeyIter I d i es.size ep/\h.get? d=some od) where
 sub:=fun b hb=>by simp at hb;simp[hb]
 frame:=fun _ _ _ st hk=>⟨st.1.at fun o e=>hk I (by simp) o e,hk d (by simp) _ st.2⟩
 item:=fun i s Q E hi st hQ=>by
  refine kiter_item st.1 st.2 hdat hi fun h' hit' hs'=>?_;exact hQ _ h' s.toks ⟨_,pH hi,rfl⟩ ⟨hit',hs'.extBut d od hne st.2⟩ fun b o hb e=>hs'.extBut b o (fun h=>hb (by simp[h])) e
 done:=fun s Q E st hQ=>kiter_end hh st.1 st.2 hdat (kI _) fun h' he'=>hQ h' s.toks fun b o hb e=>he' b o (fun h=>hb (by simp[h])) e
 self:=fun _ _ _ _ st hQ=>wpAny_pyIter_keyiter st.1 hQ
theorem extend_dict(hh:A.handled=none){d:Addr}{od:Obj}{es:Array DictEntry}{ep:Nat}(hd:(d==sysModules)=false)(ho:s.heap.get? d=some od)(hc:od.cls=.type "dict")(hdat:od.data=.dict es ep)(S:Addr)(res:Value)(c₀:Nat)(hS:s.heap.get? S=some {cls:=.type "list",data:=.seq #[] c₀})
  (hR:∀h' tk acc' c',(∀b o,b≠S->s.heap.get? b=some o->h'.get? b=some o)->h'.get? S=some {cls:=.type "list",dict:=none,data:=.seq acc' c',slots:=#[]}->
   CH (fun i v=>∃e,es[i]?=some e/\v=e.key) acc' es.size->R (.ok (.ret res)) {s with heap:=h',toks:=tk}) (hn:es.size<=sizeLine):
  wpAny (model prog w) A.in1 (QV (.ref S) (.ref d) res)
   (fun fin s'=>match fin with|.done f=>R (.ok f) s'|.again c'=>c'.quiet=true/\codeAny (model prog w) A c' R s') (fun e s'=>R (.error e) s') s:=by
 have hSd:S≠d:=fun e=>by rw[e,ho] at hS;cases hS;cases hdat
 have hSI:S≠s.heap.objs.size:=pD (kT hS);have hdI:d≠s.heap.objs.size:=pD (kT ho);have hSf:S∉[s.heap.objs.size,d]:=fun hm=>(kh.mp hm).elim hSI fun z=>hSd (kr.mp z);have ty:s.TypeIs (.ref d) "dict":=⟨od,ho,hc⟩;unfold QV;refine kA (wpAny_typeOf ty ?_);have h1:jn (.ref S) (.ref d)=false:=by simp[jn,hSd]
 have h2:(UO "dict"==UO "list")=false:=by decide
 have h3:(UO "dict"==UO "tuple")=false:=by decide
 simp only[h1,h2,h3,Bw,pR,if_false];refine kA (kiter_new hd ho hc hdat ?_);generalize hit:s.heap.push {cls:=.type "dict_keyiterator",data:=.fields #[.ref d,.int 0 0,.int es.size 0,.int ep 0]}=h1;have k1:∀b o,s.heap.get? b=some o->h1.get? b=some o:=fun b o e=>by rw[←hit];exact kF _ e
 have st1:h1.IsKeyIter s.heap.objs.size d 0 es.size ep:=by rw[←hit];exact⟨_,kY _ rfl,rfl,rfl⟩
 have ty1:Shared.TypeIs {s with heap:=h1} (.ref d) "dict":=⟨od,k1 _ _ ho,hc⟩;refine kA (QY ?_);unfold Builtin.List.listLengthHint;refine kA (BV ty1 PySem.F.slot_dict_len.lookup ?_)
 wp_delta
 refine kA (hV ty1 (b:=true) (by rw[pC];kernel_rfl) ?_)
 show wpAny _ _ (typeOf (ut d)>>=_) _ _ _
 refine kA (wpAny_typeOf ty1 ?_);refine kM ?_;rw[if_pos (by decide)]
 refine kA (Qa ?_);refine kA ?_;show wpAny _ _ (updateSeq S (·.push .none)>>=fun _=>updateSeq S (·.pop)) _ _ _;have hS₁:=k1 _ _ hS;refine kA (UH hS₁ rfl ?_);have hS₂:=uj (kq (·.push pT)) hS₁ rfl;refine UH (hz:=by seq_fits) hS₂ rfl ?_
 have hS₃:=uj (kq (·.pop)) hS₂ rfl;have oth:∀b o,b≠S->h1.get? b=some o->((h1.update S (kq (·.push pT))).update S (kq (·.pop))).get? b=some o:=
  fun b o hb e=>(uC _ _ (UA hb)).trans ((uC _ _ (UA hb)).trans e)
 refine kM ⟨vi F.plain_extend_loop _,codeAny_extend_loopS (walks_keys (A:=A.in1) hh s.heap.objs.size d hdI hdat).toS hn _ hSf _ es.size 0 _ _ _ rfl (pI _) ⟨st1.at fun o e=>oth _ o (UA hSI) e,oth _ _ (UA hSd) (k1 _ _ ho)⟩ hS₃ (ItemsOf.nil _) fun s' acc' c' hm hS' hacc=>?_⟩;rw[Moved.eq_with hm];refine hR s'.heap s'.toks acc' c' (fun b ob hb e=>hm.heap b ob (fun hmem=>?_) (oth b ob hb (k1 _ _ e))) hS' hacc;rcases kh.mp hmem with e'|hmem
 ·exact hb e'
 ·exact absurd (kT e) (by rw[kr.mp hmem];exact QX _)
theorem list_init_dict(hh:A.handled=none){d:Addr}{od:Obj}{es:Array DictEntry}{ep:Nat}(hd:(d==sysModules)=false)(ho:s.heap.get? d=some od)(hc:od.cls=.type "dict")(hdat:od.data=.dict es ep)(S:Addr)(hS:s.heap.get? S=some {cls:=.type "list",data:=.seq #[]})
  (hR:∀h' tk acc' c',(∀b o,b≠S->s.heap.get? b=some o->h'.get? b=some o)->h'.get? S=some {cls:=.type "list",dict:=none,data:=.seq acc' c',slots:=#[]}->
   CH (fun i v=>∃e,es[i]?=some e/\v=e.key) acc' es.size->R (.ok (.ret .none)) {s with heap:=h',toks:=tk}) (hn:es.size<=sizeLine):
  wpAny (model prog w) A.in1 (Builtin.«list.__init__» ⟨[.ref S,.ref d],[]⟩)
   (fun fin s'=>match fin with|.done f=>R (.ok f) s'|.again c'=>c'.quiet=true/\codeAny (model prog w) A c' R s') (fun e s'=>R (.error e) s') s:=by
 have hSd:S≠d:=fun e=>by rw[e,ho] at hS;cases hS;cases hdat
 show wpAny _ _ (do let old ←gM (.ref S);Builtin.List.listUpdate (.ref S) (fun _=>#[]);letGo old.toList.reverse;QV (.ref S) (.ref d) .none) _ _ s
 refine kA ?_;unfold gM;refine kA (uk hS rfl (kM ?_));show wpAny _ _ (updateSeq S (fun _=>#[])>>=fun _=>letGo (#[]:Array Value).toList.reverse>>=fun _=>QV (.ref S) (.ref d) .none) _ _ s;refine kA (UH hS rfl ?_);have hS₂:=uj (kq (fun _=>(#[]:Array Value))) hS rfl;have oth:∀b o,b≠S->s.heap.get? b=some o->(s.heap.update S (kq (fun _=>(#[]:Array Value)))).get? b=some o:=
  fun b o hb e=>(uC _ _ (UA hb)).trans e
 refine kA (UV ?_);refine extend_dict hh hd (oth d _ (UA hSd) ho) hc hdat S .none _ hS₂ (fun h' tk acc' c' hk hS' hacc=>?_) hn;exact hR h' tk acc' c' (fun b o hb e=>hk b o hb (oth b o hb e)) hS' hacc
theorem zet{Q:Value->Shared->Prop}(hh:A.handled=none){d:Addr}{od:Obj}{es:Array DictEntry}{ep:Nat}(hd:(d==sysModules)=false)(ho:s.heap.get? d=some od)(hc:od.cls=.type "dict")(hdat:od.data=.dict es ep)
  (hQ:∀h' tk acc' c',(∀b o,s.heap.get? b=some o->h'.get? b=some o)->h'.get? s.heap.objs.size=some {cls:=.type "list",dict:=none,data:=.seq acc' c',slots:=#[]}->
   CH (fun i v=>∃e,es[i]?=some e/\v=e.key) acc' es.size->Q (.ref s.heap.objs.size) {s with heap:=h',toks:=tk}) (hn:es.size<=sizeLine):
  wpAny (model prog w) A (call (.type "list") [.ref d]) Q E s:=by
 refine callType_codes (Q₁:=fun obj s₁=>obj=.ref s.heap.objs.size/\s₁={s with heap:=s.heap.push {cls:=.type "list",data:=.seq #[]}}) PySem.F.called_list (PySem.F.typeCall_list_1 _) PySem.F.entry_list_init
  (code_list_new _ ⟨rfl,rfl⟩) fun obj s₁ h₁=>?_
 obtain⟨rfl,rfl⟩:=h₁;have hS:(s.heap.push {cls:=.type "list",data:=.seq #[]}).get? s.heap.objs.size=some {cls:=.type "list",data:=.seq #[]}:=kY _ rfl;refine⟨⟨_,hS,rfl⟩,PySem.F.args_list_init_2 _ _,list_init_dict (A:=A.in1) hh hd (kF _ ho) hc hdat _ hS (fun h' tk acc' c' hk hS' hacc=>?_) hn⟩;exact⟨rfl,hQ h' tk acc' c' (fun b o e=>hk b o (pD (kT e)) (kF _ e)) hS' hacc⟩
end
section
variable{X:Cx}
def rListD:List V->Hp->VK->Prop:=fun xs H Q=>∃d kvs,xs=[.ref d]/\H d=some (.dT kvs)/\∀(bs:List Addr) l,bs.length=kvs.length->(∀(j:Nat)(b:Addr)(kv:List Key×V),bs[j]?=some b->kvs[j]?=some kv->H b=some (.tup (kv.1.map kV)))->H l=none->Q (.ref l) (upd H l (.lst (bs.map .ref)))
theorem vals_refsD{f:List Addr}:∀{acc:List Value},acc=f.map ut->Vals (f.map V.ref) acc:=by
 intro acc e;subst e
 induction f with
 |nil=>exact .nil
 |cons a f ih=>exact .cons rfl ih
theorem zgu(hc:X.calm=true):CallR X (.type "list") rListD:=by
 intro pins s σ H xs us Q I r h;obtain⟨d,kvs,rfl,e,q⟩:=h;obtain⟨u,rfl,rx⟩:=vals1 r
 cases rx;obtain⟨z,hd,xs,rel,o,es,ep,ho,hx,hdat,he,_⟩:=I.hok d _ e;have hk:es.toList.map (·.key)=(xs.map fun q=>q.2.1).map ut:=by
  rw[he,UN,UN];rfl
 have lb:(xs.map fun q=>q.2.1).length=kvs.length:=by rw[kN];exact(jk rel).symm
 have ls:es.size=kvs.length:=by
  have:=congrArg vK hk;rw[kN,kN,lb] at this
  simpa using this
 refine zet (I.ok.hd hc) hd ho hx.1 hdat (fun h' tk acc' c' kp hS hacc=>?_) (by omega)
 have ea:acc'.toList=(xs.map fun q=>q.2.1).map ut:=by
  rw[←hk];refine vR fun j=>?_;rw[ke,pY,pY];have ha:acc'.size=es.size:=hacc.1
  by_cases hj:j<es.size
  ·have hj':j<acc'.size:=by omega
   obtain⟨e,e1,e2⟩:=hacc.2 j acc'[j] (pH hj');rw[pH hj',e1,e2];rfl
  ·rw[Qs (by omega),Qs (by omega)]
   rfl
 refine⟨.ref s.heap.objs.size,_,I.laid (t':=tk) kp (kI _) (o:=.lst ((xs.map fun q=>q.2.1).map .ref)) ⟨by rw[kN,lb];exact z,acc'.toList,c',vals_refsD ea,by simpa using hS⟩,rfl,q _ _ lb (zi9 rel) (I.hok.fresh (kI _))⟩
def rNotInL(K:kC):R2:=fun x y H Q=>∃d es,RdD K H d x/\RdD K H (.list es) y/\d.canLay0=true/\pN es=true/\d.depth<=60/\Q (.bl (!(es.any fun e=>pj e d))) H
theorem op_notInL(hu:X.A.units+64<cLine):OpR X (compareOp .NotIn) (rNotInL X.K):=by
 intro pins s σ H x y v u Q I rx ry h;obtain⟨d,es,hd,he,c1,c2,c3,q⟩:=h;obtain⟨as,ra⟩:=zd0 I d x v hd rx;obtain⟨bs,rb⟩:=zd0 I _ y u he ry;exact SeqAt.notIn_list_reads rb ra c2 c1 (by omega) ⟨.bl _,H,I,rfl,q⟩
end
namespace RV
end RV
abbrev K2:=List (List Key)
abbrev N3:=K2×Addr×V
def gallop':Bool->Keyed->Array Keyed->Nat->Nat->Nat->StateT SortSt Sem (Option Nat):=sortPriv%PySem.Builtin.gallop
def mergeLo':Array Keyed->Array Keyed->StateT SortSt Sem (Array Keyed):=sortPriv%PySem.Builtin.mergeLo
def mergeHi':Array Keyed->Array Keyed->StateT SortSt Sem (Array Keyed):=sortPriv%PySem.Builtin.mergeHi
section
variable{prog:Program}{w:World}{A:Around}{E:Value->Shared->Prop}{s:Shared}{a₀:Array Keyed}{κ:SortKind}
theorem el_at{arr:Array Keyed}{i:Nat}{st:SortSt}{Q:Keyed->SortSt->Prop}(h:i<arr.size)(q:Q arr[i] st):wpS (model prog w) A E s (elem' arr i) Q st:=by
 rw[elem'_eq,pH h];exact kD q
end
section
variable{prog:Program}{w:World}{A:Around}{E:Value->Shared->Prop}{s:Shared}{a₀:Array Keyed}{κ:SortKind}
def Prm(a b out:Array Keyed)(ia ib:Nat):Prop:=(out.toList++(a.toList.drop ia++b.toList.drop ib)).Perm (a.toList++b.toList)/\ia<=a.size/\ib<=b.size
theorem zbm(a:Array Keyed)(i j:Nat):(a.extract i j).toList=(a.toList.drop i).take (j-i):=by simp
theorem zed(a:Array Keyed)(i:Nat):(a.extract i).toList=a.toList.drop i:=by
 rw[zbm];exact kx (by rw[ki,kO];omega)
theorem ext_k(a:Array Keyed)(i k:Nat):(a.extract i (i+k)).toList=(a.toList.drop i).take k:=by rw[zbm,Nat.add_sub_cancel_left]
theorem prm_done{a b out:Array Keyed}{ia ib:Nat}(h:Prm a b out ia ib):(out++a.extract ia++b.extract ib).toList.Perm (a.toList++b.toList):=by
 rw[kj,kj,zed,zed,pG];exact h.1
theorem prm_last{a b out:Array Keyed}{ia ib:Nat}(h:Prm a b out ia ib):(out++b.extract ib++a.extract ia).toList.Perm (a.toList++b.toList):=by
 rw[kj,kj,zed,zed,pG];exact(uT _ UC).trans h.1
theorem prm_b{a b out:Array Keyed}{ia ib:Nat}(h:Prm a b out ia ib)(k:Nat)(hk:ib+k<=b.size):Prm a b (out++b.extract ib (ib+k)) ia (ib+k):=by
 refine⟨?_,h.2.1,hk⟩;rw[kj,ext_k,pG];refine(uT _ ?_).trans h.1;have e2:b.toList.drop ib=(b.toList.drop ib).take k++b.toList.drop (ib+k):=by rw[←Qk,uJ]
 generalize b.toList.drop (ib+k)=t at*;generalize (b.toList.drop ib).take k=u at*;rw[e2,←pG,←pG];exact List.perm_append_comm.append_right _
theorem prm_a{a b out:Array Keyed}{ia ib:Nat}(h:Prm a b out ia ib)(k:Nat)(hk:ia+k<=a.size):Prm a b (out++a.extract ia (ia+k)) (ia+k) ib:=by
 refine⟨?_,hk,h.2.2⟩;rw[kj,ext_k,pG,←pG ((a.toList.drop ia).take k),←Qk,uJ];exact h.1
theorem zg0(out a:Array Keyed)(i:Nat)(h:i<a.size):out.push a[i]=out++a.extract i (i+1):=by
 apply vd.mp
 rw[kj,ext_k,jg]
 congr 1
 have h':i<a.toList.length:=by simpa using h
 rw[UD h']
 simp
theorem prm_b1{a b out:Array Keyed}{ia ib:Nat}(h:Prm a b out ia ib)(hk:ib<b.size):Prm a b (out.push b[ib]) ia (ib+1):=by rw[zg0];exact prm_b h 1 hk
theorem prm_0{a b:Array Keyed}(hb:0<b.size):Prm a b #[b[0]] 0 1:=by
 have h:Prm a b #[] 0 0:=⟨by simp,pI _,pI _⟩
 exact prm_b1 h hb
abbrev gSt(st:SortSt)(g:Nat):SortSt:=AT (kindOf st) (arrOf st) (pendingOf st) g (failedOf st)
end
section
variable{prog:Program}{w:World}{A:Around}{E:Value->Shared->Prop}{s:Shared}{a₀:Array Keyed}{κ:SortKind}
def PrmH(a b out:Array Keyed)(na nb:Nat):Prop:=((a.toList.take na++b.toList.take nb)++out.toList).Perm (a.toList++b.toList)/\na<=a.size/\nb<=b.size
theorem ext_0(a:Array Keyed)(n:Nat):(a.extract 0 n).toList=a.toList.take n:=by rw[zbm,UT,Am]
theorem prmh_done{a b out:Array Keyed}{na nb:Nat}(h:PrmH a b out na nb):(a.extract 0 na++b.extract 0 nb++out.reverse).toList.Perm (a.toList++b.toList):=by
 rw[kj,kj,ext_0,ext_0,ul];exact(uT _ (vS _)).trans h.1
theorem prmh_first{a b out:Array Keyed}{na nb:Nat}(h:PrmH a b out na nb):(b.extract 0 nb++a.extract 0 na++out.reverse).toList.Perm (a.toList++b.toList):=by
 rw[kj,kj,ext_0,ext_0,ul];exact(List.Perm.append UC (vS _)).trans h.1
theorem zjs{l:List Keyed}{k n:Nat}(h:k<=n):l.take n=l.take k++(l.drop k).take (n-k):=by
 rw[←uJ k (l.take n),jQ,UI h,vT]
theorem zlz{a b out:Array Keyed}{na nb:Nat}(h:PrmH a b out na nb)(k:Nat)(hk:k<=na):PrmH a b (out++(a.extract k na).reverse) k nb:=by
 refine⟨?_,kz hk h.2.1,h.2.2⟩;refine gZ ?_ h.1;rw[kj,ul,zbm,zjs hk];generalize a.toList.take k=x;generalize (a.toList.drop k).take (na-k)=y;generalize b.toList.take nb=z;generalize out.toList=o;have:(o++y.reverse).Perm (y++o):=(uT _ (vS _)).trans UC;refine(uT _ this).trans ?_;rw[pG,pG,pG];refine uT _ ?_;rw[←pG,←pG];exact List.Perm.append_right _ UC
theorem prmh_b{a b out:Array Keyed}{na nb:Nat}(h:PrmH a b out na nb)(k:Nat)(hk:k<=nb):PrmH a b (out++(b.extract k nb).reverse) na k:=by
 refine⟨?_,h.2.1,kz hk h.2.2⟩;refine gZ ?_ h.1;rw[kj,ul,zbm,zjs hk];generalize b.toList.take k=x;generalize (b.toList.drop k).take (nb-k)=y;generalize a.toList.take na=z;generalize out.toList=o;have:(o++y.reverse).Perm (y++o):=(uT _ (vS _)).trans UC;refine(uT _ this).trans ?_;rw[pG,pG,pG]
theorem zho(out a:Array Keyed)(n:Nat)(h0:0<n)(h:n-1<a.size):out.push a[n-1]=out++(a.extract (n-1) n).reverse:=by
 obtain⟨m,rfl⟩:∃m,n=m+1:=⟨n-1,by omega⟩
 have e:=zg0 out a m h;simp only[Nat.add_sub_cancel] at*;rw[e]
 congr 1
 apply vd.mp
 have h':m<a.toList.length:=by simpa using h
 rw[ul,ext_k,UD h']
 simp
theorem prmh_a1{a b out:Array Keyed}{na nb:Nat}(h:PrmH a b out na nb)(h0:0<na):PrmH a b (out.push (a[na-1]'(by have:=h.2.1;omega))) (na-1) nb:=by rw[zho _ _ _ h0];exact zlz h (na-1) (by omega)
theorem prmh_0{a b:Array Keyed}(ha:0<a.size):PrmH a b #[a[a.size-1]] (a.size-1) b.size:=by
 have h:PrmH a b #[] a.size b.size:=⟨by rw[kx (by simp),kx (by simp)];simp,kI _,kI _⟩
 exact prmh_a1 h ha
end
section
variable{prog:Program}{w:World}{A:Around}{E:Value->Shared->Prop}{s:Shared}{a₀:Array Keyed}{κ:SortKind}
theorem ziw(sa:Nat):∀(l:List Keyed)(k:Nat)(a:Array Keyed),sa+k+l.length<=a.size->((l.zipIdx k).foldl (fun a(x:Keyed×Nat)=>match x with|(p,j)=>a.setIfInBounds (sa+j) p) a).toList=a.toList.take (sa+k)++l++a.toList.drop (sa+k+l.length)
 |[],k,a,_=>by simp
 |p::l,k,a,h=>by
  rw[hU,List.foldl_cons];have hk:sa+k<a.toList.length:=by simp only[pQ] at h;rw[kO];omega
  have:=ziw sa l (k+1) (a.setIfInBounds (sa+k) p) (by rw[Array.size_setIfInBounds];simp only[pQ] at h;omega)
  rw[this,Array.toList_setIfInBounds];have e1:(a.toList.set (sa+k) p).take (sa+(k+1))=a.toList.take (sa+k)++[p]:=by
   rw[show sa+(k+1)=sa+k+1 by omega,uA,List.take_set_of_le (kI _),QZ hk]
   rfl
  have e2:(a.toList.set (sa+k) p).drop (sa+(k+1)+l.length)=a.toList.drop (sa+k+(p::l).length):=by
   rw[List.drop_set_of_lt (by omega),pQ]
   congr 1
   omega
  rw[e1,e2]
  simp[pG]
theorem zgj{a m:Array Keyed}{sa sb nb:Nat}(h1:sa<=sb)(h2:sb+nb<=a.size)(hm:m.toList.Perm ((a.extract sa sb).toList++(a.extract sb (sb+nb)).toList)):
  (m.toList.zipIdx.foldl (fun a(x:Keyed×Nat)=>match x with|(p,j)=>a.setIfInBounds (sa+j) p) a).Perm a:=by
 have lm:m.toList.length=sb+nb-sa:=by
  rw[hm.length_eq,kK,zbm,zbm,kP,kP,ki,ki,kO];omega
 apply Array.perm_iff_toList_perm.mpr
 rw[ziw sa m.toList 0 a (by omega),CI]
 have e:a.toList=a.toList.take sa++((a.toList.drop sa).take (sb-sa)++(a.toList.drop sb).take nb)++a.toList.drop (sa+m.toList.length):=by
  rw[lm,show sa+(sb+nb-sa)=sb+nb by omega]
  have x1:(a.toList.drop sb).take nb++a.toList.drop (sb+nb)=a.toList.drop sb:=by rw[←Qk,uJ]
  have x2:(a.toList.drop sa).take (sb-sa)++a.toList.drop sb=a.toList.drop sa:=by
   have:a.toList.drop sb=(a.toList.drop sa).drop (sb-sa):=by rw[Qk,show sa+(sb-sa)=sb by omega]
   rw[this,uJ]
  rw[pG,pG,x1,x2,uJ]
 rw[zbm,ext_k] at hm;refine gZ ((uT _ hm).append_right _) ?_;rw[←e]
theorem zhw{a:Array Keyed}{i j:Nat}{x:Keyed}(h:x∈a.extract i j):x∈a:=by
 have:x∈(a.extract i j).toList:=AB.mpr h;rw[zbm] at this;exact Array.mem_toList_iff.mp (QU (Qm this))
theorem wpS_set{st st':SortSt}{Q:PUnit->SortSt->Prop}(h:Q ⟨⟩ st'):wpS (model prog w) A E s (set st':StateT SortSt Sem PUnit) Q st:=by
 unfold wpS;rw[StateT.run_set];exact kM ⟨rfl,h⟩
abbrev pSt(st:SortSt)(xs:Array Keyed)(p:Array (Nat×Nat×Nat))(g:Nat):SortSt:=AT (kindOf st) xs p g (failedOf st)
end
def Cov:List (Nat×Nat×Nat)->Nat->Nat->Prop
 |[],b,e=>b=e
 |(a,n,_)::r,b,e=>a=b/\0<n/\Cov r (b+n) e
theorem Cov.le:∀{l:List (Nat×Nat×Nat)}{b e:Nat},Cov l b e->b<=e
 |[],b,e,h=>Qq h
 |(a,n,_)::r,b,e,h=>kz (UR _ _) (Cov.le h.2.2)
theorem Cov.push:∀{l:List (Nat×Nat×Nat)}{b e n p:Nat},Cov l b e->0<n->Cov (l++[(e,n,p)]) b (e+n)
 |[],b,e,n,p,h,hn=>by
  have h:b=e:=h;subst h;exact⟨rfl,hn,rfl⟩
 |(a,m,q)::r,b,e,n,p,h,hn=>⟨h.1,h.2.1,Cov.push h.2.2 hn⟩
theorem Cov.at:∀{l:List (Nat×Nat×Nat)}{b e i a n p a' n' p':Nat},Cov l b e->l[i]?=some (a,n,p)->l[i+1]?=some (a',n',p')->a'=a+n/\0<n/\0<n'/\a+n+n'<=e/\Cov ((l.set i (a,n+n',p)).eraseIdx (i+1)) b e
 |(x,m,q)::(x',m',q')::r,b,e,0,a,n,p,a',n',p',h,e1,e2=>by
  cases e1;cases e2;obtain⟨h1,h2,h3,h4,h5⟩:=h;have:=Cov.le h5;refine⟨by omega,h2,h4,by omega,h1,by omega,?_⟩
  rw[←Bx];exact h5
 |(x,m,q)::r,b,e,i+1,a,n,p,a',n',p',h,e1,e2=>by
  obtain⟨h1,h2,h3⟩:=h;obtain⟨g1,g2,g3,g4,g5⟩:=Cov.at h3 (by simpa using e1) (by simpa using e2)
  exact⟨g1,g2,g3,g4,h1,h2,g5⟩
 |[],b,e,i,a,n,p,a',n',p',h,e1,e2=>by cases i<;>cases e1
 |[_],b,e,0,a,n,p,a',n',p',h,e1,e2=>by simp at e2
theorem Cov.power(w:Nat):∀{l:List (Nat×Nat×Nat)}{b e i:Nat},Cov l b e->Cov (l.modify i fun x=>(x.1,x.2.1,w)) b e
 |[],b,e,i,h=>by cases i<;>exact h
 |(x,m,q)::r,b,e,0,h=>h
 |(x,m,q)::r,b,e,i+1,h=>⟨h.1,h.2.1,Cov.power w h.2.2⟩
section
variable{prog:Program}{w:World}{A:Around}{E:Value->Shared->Prop}{s:Shared}{a₀:Array Keyed}{κ:SortKind}
def SIv(a₀:Array Keyed)(κ:SortKind)(lo:Nat)(st:SortSt):Prop:=(arrOf st).Perm a₀/\kindOf st=κ/\failedOf st=none/\Cov (pendingOf st).toList 0 lo/\lo<=a₀.size
theorem ite_lt{c:Prop}[Decidable c]{x y z:Nat}(h1:x+1<z)(h2:y+1<z):(if c then x else y)+1<z:=by
 by_cases h:c
 ·rw[if_pos h];exact h1
 ·rw[if_neg h];exact h2
theorem push_iv{lo n:Nat}{st:SortSt}(iv:SIv a₀ κ lo st)(hn:0<n)(hz:lo+n<=a₀.size):SIv a₀ κ (lo+n) (setPending st ((pendingOf st).push (lo,n,0))):=by
 obtain⟨h1,h2,h3,h4,h5⟩:=iv;refine⟨h1,h2,h3,?_,hz⟩;show Cov ((pendingOf st).push (lo,n,0)).toList 0 (lo+n);rw[jg];exact h4.push hn
theorem power_iv{lo j w:Nat}{st:SortSt}(iv:SIv a₀ κ lo st):SIv a₀ κ lo (setPending st ((pendingOf st).modify j fun x=>(x.1,x.2.1,w))):=by
 obtain⟨h1,h2,h3,h4,h5⟩:=iv;refine⟨h1,h2,h3,?_,h5⟩;show Cov ((pendingOf st).modify j fun x=>(x.1,x.2.1,w)).toList 0 lo;rw[AF];exact h4.power w
end
open PySem.W (kas_sort kas_ask)
open PySem.W (KasT kas_asc kas_desc kas_rev kas_tail3 kas_descPart kas_count kas_place kas_bin kas_sort)
structure Wk(ans:Nat->Nat->Bool):Prop where
 irr:∀i,ans i i=false
 tr:∀i j k,ans i j=true->ans j k=true->ans i k=true
 cut:∀i j k,ans i j=false->ans j k=false->ans i k=false
def UpW(ans:Nat->Nat->Bool)(p:Array Nat)(m:Nat):Prop:=∀i j,i<j->j<m->ans (p.getD j 0) (p.getD i 0)=false
def DnW(ans:Nat->Nat->Bool)(p:Array Nat)(m:Nat):Prop:=∀i j,i<j->j<m->ans (p.getD i 0) (p.getD j 0)=false
def EqW(ans:Nat->Nat->Bool)(p:Array Nat)(m q:Nat):Prop:=∀i j,m<=i+q+1->i<m->m<=j+q+1->j<m->ans (p.getD i 0) (p.getD j 0)=false
section
variable{n:Nat}{ans:Nat->Nat->Bool}
theorem Wk.asymm(T:Wk ans){a b:Nat}(h:ans a b=true):ans b a=false:=by
 cases z:ans b a with
 |false=>rfl
 |true=>have:=T.tr a b a h z;rw[T.irr] at this;cases this
theorem Wk.of{β:Type}{lt:β->β->Bool}(S:STO lt)(r:Nat->β):Wk fun i j=>lt (r i) (r j) where
 irr i:=S.irr _
 tr i j k:=S.tr _ _ _
 cut i j k h1 h2:=by
  cases z:lt (r i) (r k) with
  |false=>rfl
  |true=>
   by_cases e1:r i=r j
   ·rw[e1] at z;rw[z] at h2;cases h2
   ·rcases S.tot _ _ e1 with y|y
    ·rw[y] at h1;cases h1
    ·have:=S.tr _ _ _ y z;rw[this] at h2;cases h2
theorem UpW.step(T:Wk ans){p:Array Nat}{m:Nat}(u:UpW ans p m)(h:∀i,i+1=m->ans (p.getD m 0) (p.getD i 0)=false):UpW ans p (m+1):=fun i j hij hj=>by
 by_cases z:j<m
 ·exact u i j hij z
 ·have e:j=m:=by omega
  subst e
  by_cases y:i+1=j
  ·exact h i y
  ·exact T.cut _ _ _ (h (j-1) (by omega)) (u i (j-1) (by omega) (by omega))
theorem DnW.step(T:Wk ans){p:Array Nat}{m:Nat}(u:DnW ans p m)(h:∀i,i+1=m->ans (p.getD i 0) (p.getD m 0)=false):DnW ans p (m+1):=fun i j hij hj=>by
 by_cases z:j<m
 ·exact u i j hij z
 ·have e:j=m:=by omega
  subst e
  by_cases y:i+1=j
  ·exact h i y
  ·exact T.cut _ _ _ (u i (j-1) (by omega) (by omega)) (h (j-1) (by omega))
theorem ziy(T:Wk ans){p:Array Nat}:∀f m,1<=m->m+f=n->UpW ans p m->m<=ansT ans (kas_asc p f m)/\ansT ans (kas_asc p f m)<=n/\UpW ans p (ansT ans (kas_asc p f m))/\(ansT ans (kas_asc p f m)<n->ans (p.getD (ansT ans (kas_asc p f m)) 0) (p.getD (ansT ans (kas_asc p f m)-1) 0)=true)
 |0,m,h1,hm,u=>⟨kI _,by show m<=n;omega,u,fun z=>by have:m<n:=z;omega⟩
 |f+1,m,h1,hm,u=>by
  have e:ansT ans (kas_asc p (f+1) m)=ansT ans (if ans (p.getD m 0) (p.getD (m-1) 0)=true then .ret m else kas_asc p f (m+1)):=rfl;rw[e]
  cases c:ans (p.getD m 0) (p.getD (m-1) 0) with
  |true=>rw[if_pos rfl];exact⟨kI _,by show m<=n;omega,u,fun _=>c⟩
  |false=>
   rw[if_neg (by decide)]
   obtain⟨a1,a2,a3⟩:=ziy T f (m+1) (by omega) (by omega) (u.step T fun i hi=>by
    have e:m-1=i:=by omega
    rw[e] at c;exact c)
   exact⟨by omega,a2,a3⟩
theorem ze8{p:Array Nat}{a m:Nat}(hm:m<=p.size)(k:Nat):(kas_rev p a m).getD k 0=if a<=k/\k<m then p.getD (a+m-1-k) 0 else p.getD k 0:=by
 have e:(kas_rev p a m)[k]?=if a<=k/\k<m then p[a+m-1-k]? else p[k]?:=by
  unfold kas_rev;rw[Ux hm]
 rw[kR,e]
 split
 ·rw[kR]
 ·rw[kR]
theorem zl3{p:Array Nat}{m q:Nat}(hm:m<=p.size)(d:DnW ans p m)(e:EqW ans p m q):DnW ans (kas_rev p (m-(q+1)) m) m:=fun i j hij hj=>by
 rw[ze8 hm,ze8 hm]
 by_cases c1:m-(q+1)<=i/\i<m
 ·rw[if_pos c1,if_pos (by omega)]
  exact e _ _ (by omega) (by omega) (by omega) (by omega)
 ·rw[if_neg c1]
  by_cases c2:m-(q+1)<=j/\j<m
  ·rw[if_pos c2];exact d _ _ (by omega) (by omega)
  ·rw[if_neg c2];exact d _ _ hij hj
theorem zg3(T:Wk ans):∀f(p:Array Nat) m q,1<=m->q+1<=m->m+f=n->n<=p.size->DnW ans p m->EqW ans p m q->∃p' m' q',ansT ans (kas_desc f p m q)=(p',m',q')/\m<=m'/\m'<=n/\q'+1<=m'/\p'.size=p.size/\DnW ans p' m'/\EqW ans p' m' q'
 |0,p,m,q,h1,hq,hm,hz,u,eq=>⟨p,m,q,rfl,kI _,by omega,hq,rfl,u,eq⟩
 |f+1,p,m,q,h1,hq,hm,hz,u,eq=>by
  have e:ansT ans (kas_desc (f+1) p m q)=ansT ans (if ans (p.getD m 0) (p.getD (m-1) 0)=true then(if q>0 then kas_desc f (kas_rev p (m-(q+1)) m) (m+1) 0 else kas_desc f p (m+1) 0)
   else .ask (p.getD (m-1) 0) (p.getD m 0) fun d=>if d=true then .ret (p,m,q) else kas_desc f p (m+1) (q+1)):=rfl
  rw[e]
  cases c:ans (p.getD m 0) (p.getD (m-1) 0) with
  |true=>
   rw[if_pos rfl];have one:∀p':Array Nat,EqW ans p' (m+1) 0:=fun p' i j a b a' b'=>by
    have e1:i=m:=by omega
    have e2:j=m:=by omega
    rw[e1,e2];exact T.irr _
   by_cases z:q>0
   ·rw[if_pos z];have sz:(kas_rev p (m-(q+1)) m).size=p.size:=BN _ _ _ _;have u2:DnW ans (kas_rev p (m-(q+1)) m) (m+1):=(zl3 (by omega) u eq).step T fun i hi=>by
     rw[ze8 (by omega),ze8 (by omega),if_pos (by omega),if_neg (by omega)]
     refine T.asymm ?_
     cases y:ans (p.getD m 0) (p.getD (m-(q+1)+m-1-i) 0) with
     |true=>rfl
     |false=>
      have:=T.cut _ _ _ y (eq (m-(q+1)+m-1-i) (m-1) (by omega) (by omega) (by omega) (by omega))
      rw[c] at this
      cases this
    obtain⟨p',m',q',a1,a2,a3,a4,a5,a6⟩:=zg3 T f _ (m+1) 0 (by omega) (by omega) (by omega) (by omega) u2 (one _)
    exact⟨p',m',q',a1,by omega,a3,a4,by rw[a5,sz],a6⟩
   ·rw[if_neg z];obtain⟨p',m',q',a1,a2,a3,a4,a5,a6⟩:=zg3 T f p (m+1) 0 (by omega) (by omega) (by omega) hz (u.step T fun i hi=>by
     have e:m-1=i:=by omega
     rw[e] at c;exact T.asymm c) (one _)
    exact⟨p',m',q',a1,by omega,a3,a4,a5,a6⟩
  |false=>
   rw[if_neg (by decide)]
   show ∃p' m' q',ansT ans (if ans (p.getD (m-1) 0) (p.getD m 0)=true then .ret (p,m,q) else kas_desc f p (m+1) (q+1))=_/\_
   cases y:ans (p.getD (m-1) 0) (p.getD m 0) with
   |true=>rw[if_pos rfl];exact⟨p,m,q,rfl,kI _,by omega,hq,rfl,u,eq⟩
   |false=>
    rw[if_neg (by decide)]
    obtain⟨p',m',q',a1,a2,a3,a4,a5,a6⟩:=zg3 T f p (m+1) (q+1) (by omega) (by omega) (by omega) hz (u.step T fun i hi=>by
     have e:m-1=i:=by omega
     rw[e] at y;exact y) fun i j i1 i2 j1 j2=>by
      by_cases ei:i=m
      ·subst ei
       by_cases ej:j=i
       ·rw[ej];exact T.irr _
       ·exact T.cut _ _ _ c (eq (i-1) j (by omega) (by omega) (by omega) (by omega))
      ·by_cases ej:j=m
       ·subst ej;exact T.cut _ _ _ (eq i (j-1) (by omega) (by omega) (by omega) (by omega)) y
       ·exact eq i j (by omega) (by omega) (by omega) (by omega)
    exact⟨p',m',q',a1,by omega,a3,a4,a5,a6⟩
theorem zj6(T:Wk ans){p:Array Nat}{m:Nat}(h1:1<=m)(hm:m<=n)(hz:n<=p.size)(d:DnW ans p m):∃m' p',ansT ans (kas_tail3 m n p)=(m',p')/\1<=m'/\m'<=n/\UpW ans p' m':=by
 unfold kas_tail3;rw[zdo];have u2:UpW ans (kas_rev p 0 m) m:=fun i j hij hj=>by
  rw[zfj (by omega) (by omega),zfj (by omega) (by omega)]
  exact d _ _ (by omega) (by omega)
 obtain⟨g1,g2,g3,g4⟩:=ziy (n:=n) T (n-m) m h1 (by omega) u2
 exact⟨_,_,rfl,by omega,g2,g3⟩
theorem zj8(T:Wk ans){p:Array Nat}{m:Nat}(h1:1<=m)(hm:m+1<=n)(hz:n<=p.size)(d:DnW ans p (m+1)):∃m' p',ansT ans (kas_descPart m n p)=(m',p')/\1<=m'/\m'<=n/\UpW ans p' m':=by
 unfold kas_descPart;rw[zdo];obtain⟨p',m',q',e,a2,a3,a4,a5,a6,a7⟩:=zg3 (n:=n) T (n-(m+1)) p (m+1) 0 (by omega) (by omega) (by omega) hz d fun i j i1 i2 j1 j2=>by
  have e1:i=m:=by omega
  have e2:j=m:=by omega
  rw[e1,e2];exact T.irr _
 rw[e];dsimp only;have sz:(kas_rev p' (m'-(q'+1)) m').size=p'.size:=BN _ _ _ _
 by_cases z:q'>0
 ·rw[if_pos z];exact zj6 T (by omega) a3 (by omega) (zl3 (by omega) a6 a7)
 ·rw[if_neg z];exact zj6 T (by omega) a3 (by omega) a6
theorem upW_count(T:Wk ans)(hn:0<n){p:Array Nat}(hz:p.size=n):∃m p',ansT ans (kas_count n p)=(m,p')/\1<=m/\m<=n/\UpW ans p' m:=by
 have u1:UpW ans p 1:=fun i j hij hj=>by omega
 obtain⟨a1,a2,a3,a4⟩:=ziy (n:=n) T (n-1) 1 (kI _) (by omega) u1
 unfold kas_count;rw[zdo];generalize ansT ans (kas_asc p (n-1) 1)=m at a1 a2 a3 a4⊢
 by_cases c1:m=n
 ·subst c1;simp only[beq_self_eq_true,if_true];exact⟨m,p,rfl,a1,a2,a3⟩
 ·have c1':(m==n)=false:=beq_eq_false_iff_ne.mpr c1;simp only[c1',pR,if_false];have y:=a4 (by omega)
  by_cases c2:m>1
  ·rw[if_pos c2];show ∃m' p',ansT ans (if ans (p.getD 0 0) (p.getD (m-1) 0)=true then .ret (m,p) else kas_descPart m n (kas_rev p 0 m))=_/\_
   cases x:ans (p.getD 0 0) (p.getD (m-1) 0) with
   |true=>rw[if_pos rfl];exact⟨m,p,rfl,a1,a2,a3⟩
   |false=>
    rw[if_neg (by decide)]
    have sz:(kas_rev p 0 m).size=p.size:=BN _ _ _ _;have al:∀i j,i<m->j<m->ans (p.getD i 0) (p.getD j 0)=false:=fun i j hi hj=>by
     have l0:ans (p.getD i 0) (p.getD 0 0)=false:=by
      by_cases e:i=0
      ·rw[e];exact T.irr _
      ·exact a3 0 i (by omega) hi
     have l1:ans (p.getD (m-1) 0) (p.getD j 0)=false:=by
      by_cases e:j=m-1
      ·rw[e];exact T.irr _
      ·exact a3 j (m-1) (by omega) (by omega)
     exact T.cut _ _ _ l0 (T.cut _ _ _ x l1)
    refine zj8 T a1 (by omega) (by omega) ?_
    have d1:DnW ans (kas_rev p 0 m) m:=fun i j hij hj=>by
     rw[zfj (by omega) (by omega),zfj (by omega) (by omega)]
     exact al _ _ (by omega) (by omega)
    refine d1.step T fun i hi=>?_;rw[zfj (by omega) (by omega),ze8 (by omega),if_neg (by omega)]
    refine T.asymm ?_
    cases w:ans (p.getD m 0) (p.getD (m-1-i) 0) with
    |true=>rfl
    |false=>
     have:=T.cut _ _ _ w (al (m-1-i) (m-1) (by omega) (by omega))
     rw[y] at this
     cases this
  ·have e:m=1:=by omega
   subst e;rw[if_neg c2];exact zj8 T (kI _) (by omega) (by omega) fun i j hij hj=>by
    have e1:i=0:=by omega
    have e2:j=1:=by omega
    subst e1 e2;exact T.asymm y
theorem placeW(T:Wk ans){p:Array Nat}{k:Nat}(u:UpW ans p k):∀f l r,l<=r->r<=k->r-l<=f->(∀i,i<l->ans (p.getD k 0) (p.getD i 0)=false)->(∀i,r<=i->i<k->ans (p.getD k 0) (p.getD i 0)=true)->
  ∃l',ansT ans (kas_place p k f l r)=l'/\l'<=k/\(∀i,i<l'->ans (p.getD k 0) (p.getD i 0)=false)/\(∀i,l'<=i->i<k->ans (p.getD k 0) (p.getD i 0)=true)
 |0,l,r,h1,h2,h3,hl,hr=>⟨l,rfl,by omega,hl,fun i a b=>hr i (by omega) b⟩
 |f+1,l,r,h1,h2,h3,hl,hr=>by
  unfold kas_place
  by_cases c:l≥r
  ·rw[if_pos c];exact⟨l,rfl,by omega,hl,fun i a b=>hr i (by omega) b⟩
  ·rw[if_neg c];show ∃l',ansT ans (if ans (p.getD k 0) (p.getD ((l+r)/2) 0)=true then kas_place p k f l ((l+r)/2) else kas_place p k f ((l+r)/2+1) r)=l'/\_;have m1:l<=(l+r)/2:=by omega
   have m2:(l+r)/2<r:=by omega
   cases e:ans (p.getD k 0) (p.getD ((l+r)/2) 0) with
   |true=>
    rw[if_pos rfl];refine placeW T u f l _ m1 (by omega) (by omega) hl fun i a b=>?_
    by_cases y:i=(l+r)/2
    ·rw[y];exact e
    ·cases w:ans (p.getD k 0) (p.getD i 0) with
     |true=>rfl
     |false=>
      have:=T.cut _ _ _ w (u ((l+r)/2) i (by omega) b)
      rw[e] at this
      cases this
   |false=>
    rw[if_neg (by decide)]
    refine placeW T u f _ r (by omega) h2 (by omega) (fun i a=>?_) hr
    by_cases x:i=(l+r)/2
    ·rw[x];exact e
    ·exact T.cut _ _ _ e (u i ((l+r)/2) (by omega) (by omega))
theorem zkc(T:Wk ans):∀f(p:Array Nat) k,p.size=n->1<=k->k+f=n->UpW ans p k->UpW ans (ansT ans (kas_bin f p k)) n
 |0,p,k,h,h1,hk,u=>by
  have e:k=n:=by omega
  subst e;exact u
 |f+1,p,k,z,h1,hk,u=>by
  unfold kas_bin;rw[zdo];obtain⟨l,e,a1,a2,a3⟩:=placeW T u k 0 k (pI _) (kI _) (by omega) (fun i hi=>by omega) (fun i a b=>by omega)
  rw[e];refine zkc T f _ (k+1) (by rw[(BL _ _ _).size_eq];exact z) (by omega) (by omega) fun i j hij hj=>?_
  rw[zjx (by omega) a1,zjx (by omega) a1]
  by_cases c1:i=l
  ·rw[if_pos c1,if_neg (by omega),if_pos (by omega)]
   exact T.asymm (a3 _ (by omega) (by omega))
  ·rw[if_neg c1]
   by_cases c2:l<i/\i<=k
   ·rw[if_pos c2,if_neg (by omega),if_pos (by omega)]
    exact u _ _ (by omega) (by omega)
   ·rw[if_neg c2]
    by_cases c3:j=l
    ·rw[if_pos c3];exact a2 _ (by omega)
    ·rw[if_neg c3]
     by_cases c4:l<j/\j<=k
     ·rw[if_pos c4];exact u _ _ (by omega) (by omega)
     ·rw[if_neg c4];exact u _ _ (by omega) (by omega)
theorem upW_sort(T:Wk ans)(hn:0<n):UpW ans (ansT ans (kas_sort n)) n:=by
 have o0:Ord n (ue (uP n)):=by unfold Ord;simp
 obtain⟨m,p,e,m1,m2,u⟩:=upW_count T hn (p:=ue (uP n)) (by simp)
 have o1:Ord n (m,p).2:=by
  rw[←e];exact Asks.ends (zh7 hn o0)
 have z:p.size=n:=by have:=o1.length_eq;simpa using this
 unfold kas_sort;rw[zdo,e]
 by_cases c:m<n
 ·simp only[c,if_true];have x:max m 1=m:=by omega
  rw[x];exact zkc T (n-m) p m z m1 (by omega) u
 ·simp only[c,if_false];have x:m=n:=by omega
  subst x;exact u
end
open PySem.W (kla_fn kla_obj envX tabObj CodeHd)
structure LamScopeG(x:Str)(ys:List Str)(sc:Scope):Prop where
 kind:sc.kind=.function
 co:sc.isCoroutine=false
 gen:sc.isGenerator=false
 par:sc.names.lookup x=some .local
 cap:∀y,y∈ys->sc.names.lookup y=some .free
 nocell:∀z,z∈sc.names->z.2≠.cell
 free:∀z,z∈sc.names->z.2=.free->z.1∈ys
def cxLamG(P:Program)(w:World)(K:kC)(mg:Str->Option Value)(base:Heap)(x:Str)(qual:Str)(sc:Scope)(f:Addr)(cd:Value)(clos:List (Str×Addr))(A:Around)(outer:List Env)(s:Shared)(H:Hp):Cx where
 prog:=P
 w:=w
 K:=K
 mg:=mg
 base:=base
 A:=A.deeper (envX qual sc s.heap.objs.size f cd clos)
 N:=x::clos.map uq
 s₀:=s
 H₀:=H
 env:=envX qual sc s.heap.objs.size f cd clos
 outer:=outer
 stack:=envX qual sc s.heap.objs.size f cd clos::outer
 ex:=[]
 calm:=true
 fn:=fun _=>false
 pn:=[]
 xe:=fun _ _=>False
theorem zco:∀{cl:List (Str×Addr)}{z:Str}{d:Addr},cl.lookup z=some d->(z,d)∈cl
 |[],_,_,h=>by cases h
 |(y,c)::cl,z,d,h=>by
  rw[pz] at h
  by_cases e:z=y
  ·subst e;rw[beq_self_eq_true] at h
   cases h;exact ku ..
  ·rw[beq_eq_false_iff_ne.mpr e] at h;exact pB _ (zco h)
theorem zex:∀{cl:List (Str×Addr)}{z:Str},z∈cl.map uq->∃d,cl.lookup z=some d
 |[],_,h=>by cases h
 |(y,c)::cl,z,h=>by
  rw[pz]
  by_cases e:z=y
  ·rw[e,beq_self_eq_true];exact⟨c,rfl⟩
  ·rw[beq_eq_false_iff_ne.mpr e];refine zex ?_;rcases kh.mp h with z'|z'
   ·exact absurd z' e
   ·exact z'
def Cells(H:Hp)(h:Heap)(clos:List (Str×Addr))(vys:List V):Prop:=∀(i:Nat) y c vy,clos[i]?=some (y,c)->vys[i]?=some vy->∃uy,RelV vy uy/\h.IsCell c (some uy)/\H c=none
theorem inv_lamG{P:Program}{w:World}{K:kC}{mg:Str->Option Value}{base:Heap}{x qual:Str}{sc:Scope}{f:Addr}{clos:List (Str×Addr)}{cd:Value}{A:Around}{outer:List Env}{s:Shared}{H:Hp}{u:Value}{v:V}{vys:List V}{h₁:Heap}{tk:Nat}
  (S:LamScopeG x (clos.map uq) sc)(nd:(clos.map uq).Nodup)(inj:∀y z d,(y,d)∈clos->(z,d)∈clos->y=z)(hlen:vys.length=clos.length)(hd:A.handled=none)(e0:Env0 P w K mg base A outer s H)(ru:RelV v u)(hc:Cells H s.heap clos vys)
  (hns:h₁.Ns s.heap.objs.size (fun z=>([(x,u)]:List (Str×Value)).reverse.lookup z))(hk:∀b o,s.heap.get? b=some o->h₁.get? b=some o):
  Inv (cxLamG P w K mg base x qual sc f cd clos A outer s H) [] (some v::vys.map some) H {s with heap:=h₁,toks:=tk}:=by
 have noA:∀b:Addr,b∉(cxLamG P w K mg base x qual sc f cd clos A outer s H).ex:=fun b z=>absurd (show b∈([]:List Addr) from z) (by simp)
 have at_:∀z d,(z,d)∈clos->∃uy vy,RelV vy uy/\s.heap.IsCell d (some uy)/\H d=none:=fun z d h=>by
  obtain⟨i,hi⟩:=pZ.mp h;have hi':=(kG.mp hi).1;have hv:vys[i]?=some (vys[i]'(by omega)):=kL (by omega)
  obtain⟨uy,q⟩:=hc i z d _ hi hv;exact⟨uy,_,q⟩
 refine⟨⟨e0.mod,S.kind,rfl,rfl,kI _,fun y1 z1 d h1 h2=>?_,fun z hz=>?_,fun z d hf _=>?_,fun _=>hd,vj e0.frames,.inr ⟨rfl,rfl⟩,fun b z=>absurd z (noA b),e0.bs,e0.bsz,fun b _ _=>noA b,fun b z=>absurd z (noA b),e0.funs,e0.frf⟩,
  rfl,e0.bare,Un.kept hk,⟨_,hns,fun i z v' h1 h2 h3=>?_⟩,fun z d h=>?_,e0.hok.fresh (kI _),fun z d h=>?_,fun p hp=>absurd (show p∈([]:List (Addr×Obj)) from hp) (by simp),e0.hok.kept hk,by show(some v::vys.map some).length=(x::clos.map uq).length;rw[pQ,pQ,kN,kN,hlen]⟩
 ·exact inj _ _ d (zco h1) (zco h2)
 ·have hz:sc.names.lookup z=some .cell∨sc.names.lookup z=some .free:=hz;rcases hz with hz|hz
  ·exact absurd rfl (S.nocell _ (pe hz))
  ·exact zex (S.free _ (pe hz) rfl)
 ·cases hf
 ·match i,h1,h2 with
  |0,h1,h2=>
   cases h1
   cases h2;refine⟨u,ru,.inl ⟨S.par,?_⟩⟩;show([(x,u)]:List (Str×Value)).reverse.lookup x=some u
   simp
  |i+1,h1,h2=>
   have h1:(clos.map uq)[i]?=some z:=h1;have h2:(vys.map some)[i]?=some (some v'):=h2;rw[ke] at h1 h2;obtain⟨⟨y,c⟩,e1,e2⟩:=Qr.mp h1;obtain⟨vy,e3,e4⟩:=Qr.mp h2
   cases e2
   cases e4;obtain⟨uy,ry,⟨o,ho,hd'⟩,_⟩:=hc i _ _ _ e1 e3;have hm:(y,c)∈clos:=kg e1;obtain⟨d,hd⟩:=zex (uD.mpr ⟨_,hm,rfl⟩);have ed:d=c:=by
    have hm2:=zco hd;obtain⟨j,hj⟩:=pZ.mp hm2;have n1:(clos.map uq)[i]?=some y:=by rw[ke,e1];rfl
    have n2:(clos.map uq)[j]?=some y:=by rw[ke,hj];rfl
    have ij:i=j:=by
     have i1:=(kG.mp n1).1;have j1:=(kG.mp n2).1;rcases An i j with z|z|z
     ·exact absurd ((kG.mp n1).2.trans (kG.mp n2).2.symm) ((Qc.mp nd) i j i1 j1 z)
     ·exact z
     ·exact absurd ((kG.mp n2).2.trans (kG.mp n1).2.symm) ((Qc.mp nd) j i j1 i1 z)
    rw[←ij,e1] at hj
    cases hj;rfl
   subst ed;exact⟨uy,ry,.inr ⟨.inr (S.cap _ (uD.mpr ⟨_,hm,rfl⟩)),d,hd,o,hk _ _ ho,hd'⟩⟩
 ·obtain⟨uy,vy,_,⟨o,ho,hd'⟩,_⟩:=at_ _ _ (zco h);exact⟨_,o,hk _ _ ho,hd'⟩
 ·obtain⟨uy,vy,_,_,hn⟩:=at_ _ _ (zco h);exact hn
section
variable{X:Cx}{pins:List (Addr×Obj)}{σ:St}{H:Hp}{s:Shared}
theorem lam_runG{A:Around}{k:Nat}{x name qual:Str}{params:Arguments}{body:Expr}{sc:Scope}{fa c':Addr}{clos:List (Str×Addr)}{pm ctv u:Value}{v:V}{vys:List V}{te:TE}{Q:VK}(I:Inv X pins σ H s)
  (e0:Env0 X.prog X.w X.K X.mg X.base A X.stack s H)(hr:Room k A)(S:LamScopeG x (clos.map uq) sc)(nd:(clos.map uq).Nodup)(inj:∀y z d,(y,d)∈clos->(z,d)∈clos->y=z)(hlen:vys.length=clos.length)
  (ho:s.heap.get? fa=some (kla_obj name qual params body sc clos pm c' ctv))(hcd:s.heap.CodeRec (.ref c') qual)
  (hb:bindArgs (kla_fn name qual params body sc clos pm (.ref c') ctv) ⟨[u],[]⟩=pure [(x,u)])(ru:RelV v u)(hc:Cells H s.heap clos vys)
  (hbody:PE (cxLamG X.prog X.w X.K X.mg X.base x qual sc fa (.ref c') clos A X.stack s H) body te)(q:te (some v::vys.map some) H Q):
  wpAny (model X.prog X.w) A (call (.ref fa) [u]) (EP X pins σ Q) (fun _ _=>False) s:=by
 refine Bf (vP (R:=CR CX0 X.stack X.prog X.w H s Q E0) ?_ fun r s' hq=>?_)
 ·refine gx hr.depth ho rfl S.co S.gen rfl hcd ?_;rw[hb];refine kM (vk S.nocell (fun z hz=>?_) (fun h₁ hns hsb=>⟨I.nolimit.fresh _ hsb,?_⟩) S.kind)
  ·rw[kr] at hz;rw[hz];exact S.par
  ·show codeAny _ _ (.expr body (envX qual sc s.heap.objs.size fa (.ref c') clos)) _ _
   have kp:∀d u,s.heap.get? d=some u->h₁.get? d=some u:=fun d u z=>hsb.extBut d u (pD (kT z)) (kF _ z);have J:=inv_lamG (tk:=s.toks+1) (f:=fa) (qual:=qual) (cd:=.ref c') S nd inj hlen hr.hd e0 ru hc hns kp;refine gy (uL (hbody [] _ _ H Q J q) (fun r s' hs=>?_) fun e s' hs=>hs.elim);obtain⟨v',H',J',r',q'⟩:=hs;exact⟨v',H',J'.os,J'.bare,J'.base,J'.hok,r',q'⟩
 ·cases r with
  |error e=>exact hq.elim
  |ok fl=>
   cases fl with
   |ret u=>exact I.after hq
   |next=>exact ui hq
   |brk=>exact ui hq
   |cont=>exact ui hq
inductive Capt (X:Cx):List (Str×Addr)->List Nat->Prop
 |nil:Capt X [] []
 |cons {y c j cl js}:X.N[j]?=some y->X.env.scope.names.lookup y=some .cell->X.env.cells.lookup y=some c->Capt X cl js->Capt X ((y,c)::cl) (j::js)
theorem Capt.mem{cl:List (Str×Addr)}{js:List Nat}(h:Capt X cl js):∀{y c},(y,c)∈cl->X.env.cells.lookup y=some c:=by
 induction h with
 |nil=>intro y c h;cases h
 |cons a b d t ih=>
  intro y' c' h;rcases kh.mp h with e|e
  ·cases e;exact d
  ·exact ih e
theorem Capt.cells{cl:List (Str×Addr)}{js:List Nat}(h:Capt X cl js)(I:Inv X pins σ H s):∀{vys:List V},js.map (fun j=>σ[j]?)=vys.map (fun v=>some (some v))->Cells H s.heap cl vys/\vys.length=cl.length:=by
 induction h with
 |nil=>
  intro vys e
  cases vys with
  |nil=>exact⟨fun i y c vy h=>(by cases h),rfl⟩
  |cons _ _=>cases e
 |cons a b d t ih=>
  intro vys e
  cases vys with
  |nil=>cases e
  |cons vy vys=>
   rw[pE,pE] at e
   injection e with e1 e2
   obtain⟨i1,i2⟩:=ih e2;refine⟨fun i y c v h h'=>?_,by rw[pQ,pQ,i2]⟩
   cases i with
   |zero=>
    cases h
    cases h';obtain⟨uy,ry,hcell⟩:=zk4 I a e1 b d;exact⟨uy,ry,hcell,I.freeC _ _ d⟩
   |succ i=>exact i1 i y c v h h'
end
open PySem.W (kla_fn kla_obj envX tabObj CodeHd KasT kas_sort kas_ask)
section
variable{prog:Program}{w:World}{A:Around}{E:Value->Shared->Prop}{s:Shared}
theorem collect_rangeV(hh:A.handled=none){r:Addr}{a b c:Int}{t u v:Tok}{n:Nat}(hr:IsRange s.heap r a b c t u v)(hsmall:Builtin.Range.small a b c=true)(hn:jx a b c=n)(hlen:n<=2^24){Q:List Value->Shared->Prop}
  (h:∀vs h' tk,vs.length=n->(∀(i:Nat) v,vs[i]?=some v->∃t,v=.int (a+i*c) t)->Keeps s.heap h'->s.heap.objs.size<=h'.objs.size->Q vs {s with heap:=h',toks:=tk}):wpAny (model prog w) A (collect (.ref r)) Q E s:=by
 unfold collect;refine kA (wpAny_runValue (vP (vE (R:=wants (fun v s'=>∃h' tk acc c',v=.ref s.heap.objs.size/\s'={s with heap:=h',toks:=tk}/\Keeps s.heap h'/\h'.get? s.heap.objs.size=some {cls:=.type "list",dict:=none,data:=.seq acc c',slots:=#[]}/\CH (fun i v=>∃t,v=.int (a+i*c) t) acc n) E) entry_proto_collect' ?_) fun r s1 hr=>?_))
 rotate_left
 ·cases r with
  |error e=>exact hr
  |ok fl=>
   cases fl with
   |ret v=>
    obtain⟨h',tk,acc,c',rfl,rfl,k,hS,ea⟩:=hr;show wpAny (model prog w) A (load s.heap.objs.size>>=_) Q E _;refine kA (wpAny_load hS ?_);dsimp only;exact kM (h acc.toList h' tk (by rw[kO];exact ea.1) (fun i v hv=>ea.2 i v (by rw[←pY];exact hv)) k (uI (kT hS)))
   |_=>exact hr.elim
 show wpAny _ _ (do again (.builtin "list.__iadd__" ⟨[←newList [],.ref r],[]⟩)) _ _ s
 refine kA (Uy (kM ⟨Code.quiet_builtin _ (by decide+kernel),vE entry_list_iadd' ?_⟩))
 show wpAny _ _ (QV (.ref s.heap.objs.size) (.ref r) (.ref s.heap.objs.size)) _ _ {s with heap:=s.heap.push (seqObj "list" #[] 0)}
 rw[Um (by decide+kernel) _]
 have hS0:(s.heap.push (seqObj "list" #[] 0)).get? s.heap.objs.size=some {cls:=.type "list",data:=.seq #[] 0}:=kY _ rfl;refine wpAny_extend_range (s:={s with heap:=s.heap.push (seqObj "list" #[] 0)}) hh (kF _ hr) hsmall hn hlen _ _ 0 hS0 (fun h' tk acc c' kp hS hacc=>?_);have k:Keeps s.heap h':=fun b o e=>kp b o (pD (kT e)) (kF _ e);exact⟨h',tk,acc,c',rfl,rfl,k,hS,hacc⟩
theorem sortedKR_at{r fa:Addr}{n:Nat}{t u v:Tok}{Q:Value->Shared->Prop}(hh:A.handled=none)(hr:IsRange s.heap r 0 n 1 t u v)(h64:n<64)
  (h:∀vs D kS e1 h' tk,vs.length=n->(∀(i:Nat) v,vs[i]?=some v->∃t,v=.int i t)->s.heap.objs.size<=D->Keeps s.heap h'->D<kS->h'.get? D=some (seqObj "list" #[] e1)->h'.get? kS=some (seqObj "list" #[] 0)->∃J,KeyRun prog w A.in1.in1 D kS e1 (.ref fa) vs (fun r s'=>r=.done (.ret .none)->Q (.ref D) s') J/\J 0 [] 0 {s with heap:=h',toks:=tk}):
  wpAny (model prog w) A (call (.builtin "sorted") [.ref r] [(pK "key",.ref fa)]) Q E s:=by
 have e62:(2:Int)^62=4611686018427387904:=rfl;refine gN kind_sorted plain_sorted entry_sorted (ksk_s1 _ _) ?_;unfold Builtin.«sorted»;refine kA (m:=checkCount _ _ _ _) (kM (kA (collect_rangeV (A:=A.in1) (n:=n) (show A.in1.handled=none from hh) hr (small_one (by decide) (by decide) (by omega) (by omega)) (by rw[rangeSize_one];split<;>omega) (by omega) fun vs h1 tk ln hv k1 sz1=>?_)))
 have zl:vs.length<=sizeLine:=kz (uI (by omega:vs.length<64)) (by decide)
 refine kA (Uy ?_ zl);have o2:(h1.push (seqObj "list" vs.toArray 0)).get? h1.objs.size=some (seqObj "list" vs.toArray 0):=kY _ rfl;refine kA (QY (AG slot_list_sort ⟨_,o2,rfl⟩ BW ?body (ksk_l1 _ _)))
 case body=>
  show wpAny (model prog w) A.in1.in1 (Builtin.«list.sort» ⟨[.ref h1.objs.size],[(pK "key",.ref fa)]⟩) _ _ _
  rw[ksk_t1];refine uL (keyed_tree (s:={s with heap:=h1.push (seqObj "list" vs.toArray 0),toks:=tk}) (P:=fun r s'=>r=.done (.ret .none)/\(r=.done (.ret .none)->Q (.ref h1.objs.size) s')) (k1.push _) sz1 o2 (by omega) fun kS e1 h' kk lt ha hk=>?_) (fun r s' hq=>?_) fun _ _ z=>z
  ·obtain⟨J,R,h0⟩:=h vs h1.objs.size kS e1 h' tk ln (fun i v e=>by obtain⟨t,q⟩:=hv i v e;exact⟨t,by rw[q];simp⟩) sz1 kk lt ha hk
   refine⟨J,⟨R.store,R.turn,fun ks e s' hJ=>?_⟩,h0⟩;obtain⟨f1,κ,ans,f2,f3,f4⟩:=R.fin ks e s' hJ;exact⟨f1,κ,ans,f2,f3,fun p or ep=>⟨rfl,f4 p or ep⟩⟩
  ·obtain⟨rfl,hq⟩:=hq;exact⟨_,rfl,kM ⟨_,rfl,hq rfl⟩⟩
end
structure KeyRG(KP:KPT)(te:TE)(vys:List V)(c':Addr)(q:Str)(vs:List V)(H:Hp)(Q:VK)(Pv:Nat->List V->Hp->Prop):Prop where
 start:Pv 0 [] H
 code:∀i zs H',Pv i zs H'->H' c'=some (codeX c' q)
 len:∀i zs H',Pv i zs H'->zs.length=i
 turn:∀i zs H' v,vs[i]?=some v->Pv i zs H'->te (some v::vys.map some) H' fun k H''=>Pv (i+1) (zs++[k]) H''
 fin:∀zs H',Pv vs.length zs H'->∃ans,KP H' zs ans/\∀D p,H' D=none->Ord vs.length p->(2<=vs.length->p=ansT ans (kas_sort vs.length))->Q (.ref D) (upd H' D (.lst (p.toList.map fun i=>vs.getD i .non)))
def rngV(n:Nat):List V:=(uP n).map fun i:Nat=>V.int (i:Int)
theorem rngV_vals{n:Nat}{its:List Value}(hl:its.length=n)(hv:∀(i:Nat) v,its[i]?=some v->∃t,v=.int i t):Vals (rngV n) its:=by
 induction n generalizing its with
 |zero=>
  have:its=[]:=vm hl;subst this;exact .nil
 |succ n ih=>
  have ne:its≠[]:=fun z=>by rw[z] at hl;cases hl
  have e:=(List.dropLast_concat_getLast ne).symm;have ld:its.dropLast.length=n:=by rw[List.length_dropLast];omega
  have h1:=ih (its:=its.dropLast) ld fun i v hi=>hv i v (by rw[e,uY (kG.mp hi).1];exact hi)
  obtain⟨t,ht⟩:=hv n (its.getLast ne) (by rw[List.getLast_eq_getElem,kL (by omega)];simp[hl])
  unfold rngV;rw[BX,pg,e];exact zfk h1 ⟨t,by simpa using ht⟩
section
variable{X:Cx}{pins:List (Addr×Obj)}{σ:St}{H:Hp}{s:Shared}
theorem sortKR_run{KP:KPT}{k n:Nat}{x ql:Str}{params:Arguments}{body:Expr}{sc:Scope}{fa c' r:Addr}{clos:List (Str×Addr)}{js:List Nat}{pm ctv:Value}{vys:List V}{te:TE}{Q:VK}{Pv:Nat->List V->Hp->Prop}{t u v:Tok}(I:Inv X pins σ H s)(hKP:KeyKP X KP)(hr:Room (k+2) X.A)(S:LamScopeG x (clos.map uq) sc)
  (nd:(clos.map uq).Nodup)(hcap:Capt X clos js)(hσ:js.map (fun j=>σ[j]?)=vys.map (fun v=>some (some v)))(hfa:FpOk X pins H fa)(hfo:s.heap.get? fa=some (kla_obj "<lambda>" ql params body sc clos pm c' ctv))
  (hbind:∀u,bindArgs (kla_fn "<lambda>" ql params body sc clos pm (.ref c') ctv) ⟨[u],[]⟩=pure [(x,u)])(hbody:∀(A:Around)(s:Shared)(H:Hp),A.units+64<cLine->PE (cxLamG X.prog X.w X.K X.mg X.base x ql sc fa (.ref c') clos A X.stack s H) body te)
  (hrg:IsRange s.heap r 0 n 1 t u v)(h64:n<64)(R:KeyRG KP te vys c' ql (rngV n) H Q Pv):wpAny (model X.prog X.w) X.A (call (.builtin "sorted") [.ref r] [(pK "key",.ref fa)]) (EP X pins σ Q) X.xe s:=by
 have un:=hr.un;have inj:∀y z d,(y,d)∈clos->(z,d)∈clos->y=z:=fun y z d h1 h2=>I.ok.inj _ _ d (hcap.mem h1) (hcap.mem h2);have lv:(rngV n).length=n:=by unfold rngV;rw[kN,pd]
 refine sortedKR_at hr.hd hrg h64 fun its D kS e1 h' tk ln hits sD kk lt hD hkS=>?_;have rv:=rngV_vals ln hits;have len:(rngV n).length=its.length:=by omega
 have sK:s.heap.objs.size<=kS:=by omega
 have fD:=I.fpOk sD (I.hok.fresh sD);have fK:=I.fpOk sK (I.hok.fresh sK);have faD:fa≠D:=pD (ko (kT hfo) sD);have faK:fa≠kS:=pD (ko (kT hfo) sK);have DK:D≠kS:=pD lt;have nseq:∀(b:Array Value)(m:Nat)(v:Option Value),(seqObj "list" b m).data≠.cell v:=fun b m v z=>nomatch (show CS b m=jw v from z);have nfun:∀v,(kla_obj "<lambda>" ql params body sc clos pm c' ctv).data≠.cell v:=fun v z=>nomatch (show Data.func _=jw v from z);have pin3:∀{ks:List Value}{e:Nat}{H':Hp}{s':Shared},Inv X pins σ H' s'->H' fa=none->H' D=none->H' kS=none->s'.heap.get? fa=some (kla_obj "<lambda>" ql params body sc clos pm c' ctv)->s'.heap.get? D=some (seqObj "list" #[] e1)->s'.heap.get? kS=some (seqObj "list" ks.toArray e)->
   Inv X (pins++[(fa,kla_obj "<lambda>" ql params body sc clos pm c' ctv),(D,seqObj "list" #[] e1),(kS,seqObj "list" ks.toArray e)]) σ H' s':=fun{ks e H' s'} J n1 n2 n3 o1 o2 o3=>by
  refine J.pins_of fun p hp=>?_;rcases kf.mp hp with hp|hp
  ·exact J.pin p (kJ _ hp)
  ·simp only[kh,pP,or_false] at hp;rcases hp with rfl|rfl|rfl
   ·exact⟨o1,n1,hfa.2.1,hfa.2.2.1,nfun⟩
   ·exact⟨o2,n2,fD.2.1,fD.2.2.1,nseq _ _⟩
   ·exact⟨o3,n3,fK.2.1,fK.2.2.1,nseq _ _⟩
 have of3:∀{ks:List Value}{e:Nat}{H':Hp}{s':Shared},Inv X (pins++[(fa,kla_obj "<lambda>" ql params body sc clos pm c' ctv),(D,seqObj "list" #[] e1),(kS,seqObj "list" ks.toArray e)]) σ H' s'->
   Inv X pins σ H' s'/\(H' fa=none/\H' D=none/\H' kS=none)/\s'.heap.get? fa=some (kla_obj "<lambda>" ql params body sc clos pm c' ctv)/\s'.heap.get? D=some (seqObj "list" #[] e1)/\s'.heap.get? kS=some (seqObj "list" ks.toArray e):=fun{ks e H' s'} J=>by
  have p1:=J.pin (fa,kla_obj "<lambda>" ql params body sc clos pm c' ctv) (kJ _ (kJ _ (by simp)))
  have p2:=J.pin (D,seqObj "list" #[] e1) (kJ _ (kJ _ (by simp)))
  have p3:=J.pin (kS,seqObj "list" ks.toArray e) (kJ _ (kJ _ (by simp)))
  exact⟨J.unpinned,⟨p1.2.1,p2.2.1,p3.2.1⟩,p1.1,p2.1,p3.1⟩
 refine⟨fun i ks e s'=>∃H' zs,Inv X (pins++[(fa,kla_obj "<lambda>" ql params body sc clos pm c' ctv),(D,seqObj "list" #[] e1),(kS,seqObj "list" ks.toArray e)]) σ H' s'/\Vals zs ks/\Pv i zs H',⟨fun i ks e s' hJ=>?_,fun i u ks e s' hu hJ=>?_,fun ks e s' hJ=>?_⟩,H,[],?_,.nil,R.start⟩
 ·obtain⟨H',zs,J,r,p⟩:=hJ;exact⟨(of3 J).2.2.2.2,by rw[←r.length];exact R.len _ _ _ p⟩
 ·obtain⟨H',zs,J,r,p⟩:=hJ;obtain⟨J0,⟨n1,n2,n3⟩,o1,o2,o3⟩:=of3 J;obtain⟨v,hv,ru⟩:=vals_get? rv hu;obtain⟨hcells,hlv⟩:=hcap.cells J hσ;have hcd:s'.heap.CodeRec (.ref c') ql:=(J.hok c' _ (R.code _ _ _ p)).1;refine uL (lam_runG J J.env0.in1.in1 (hr.in1.in1) S nd inj hlv o1 hcd (hbind u) ru hcells (hbody _ s' H' (by show X.A.units+1+1+64<cLine;omega)) (R.turn i zs H' v hv p)) (fun u' s'' hs=>?_) fun _ _ z=>z
  obtain⟨kv,H'',J',rk,p'⟩:=hs;obtain⟨J1,⟨m1,m2,m3⟩,q1,q2,q3⟩:=of3 J';refine⟨q3,fun c2 hc2=>⟨H'',zs++[kv],?_,zfk r rk,p'⟩⟩;have J2:Inv X pins σ H'' {s'' with heap:=s''.heap.update kS (kq (·.push u')),toks:=s''.toks}:=J1.turned (it:=kS) (fun b o hb e=>by rw[pO _ _ _ _ hb];exact e) m3 fK.2.1 fK.2.2.2.1 fK.2.2.2.2.1 fK.2.2.2.2.2
  exact pin3 J2 m1 m2 m3 (by show(s''.heap.update kS _).get? fa=_;rw[pO _ _ _ _ faK];exact q1) (by show(s''.heap.update kS _).get? D=_;rw[pO _ _ _ _ DK];exact q2) hc2
 ·obtain⟨H',zs,J,r,p⟩:=hJ;obtain⟨J0,⟨n1,n2,n3⟩,o1,o2,o3⟩:=of3 J;rw[←len] at p;obtain⟨ans,ok,q⟩:=R.fin zs H' p;have zl:=R.len _ _ _ p;have kl:ks.length=its.length:=by rw[←r.length,zl,len]
  obtain⟨κ,k1,k2⟩:=hKP _ _ _ _ _ _ _ J0 r ok;rw[kl] at k1 k2;refine⟨o2,κ,ans,k1,k2,fun pm' or ep _=>?_⟩
  ·have J2:Inv X pins σ H' {s' with heap:=s'.heap.update kS (kq fun _=>(#[]:Array Value)),toks:=s'.toks}:=J0.turned (it:=kS) (fun b o hb e=>by rw[pO _ _ _ _ hb];exact e) n3 fK.2.1 fK.2.2.2.1 fK.2.2.2.2.1 fK.2.2.2.2.2
   have o4:(s'.heap.update kS (kq fun _=>(#[]:Array Value))).get? D=some (seqObj "list" #[] e1):=by rw[pO _ _ _ _ DK];exact o2
   rw[←len] at or ep;have lo:pm'.toList.length=(rngV n).length:=by rw[or.length_eq,pd]
   obtain⟨c5,o5⟩:∃c5,((s'.heap.update kS (kq fun _=>(#[]:Array Value))).update D (kq fun _=>ue (pm'.toList.map fun i=>its.getD i pT))).get? D=some (seqObj "list" (ue (pm'.toList.map fun i=>its.getD i pT)) c5):=⟨_,Qp o4 _⟩;refine⟨.ref D,upd H' D (.lst (pm'.toList.map fun i=>(rngV n).getD i .non)),J2.track (t':=s'.toks) ⟨n2,fD.2⟩ (fun b o hb e=>by rw[pO _ _ _ _ hb];exact e) ?_ (zjj _ fun i hi=>zhy rv i ?_) o5,rfl,q D pm' n2 or ep⟩
   ·rw[kN,lo,lv];exact kz (uI h64) (by decide)
   ·exact QF.mp (or.mem_iff.mp hi)
 ·have J0:Inv X pins σ H {s with heap:=h',toks:=tk}:=I.kept kk;exact pin3 J0 hfa.1 (I.hok.fresh sD) (I.hok.fresh sK) (kk _ _ hfo) hD hkS
end
section
variable{X:Cx}{p p2 pos pos2 lpos kpos:Pos}{a body:Expr}{params:Arguments}{sc:Scope}{x:Str}{clos:List (Str×Addr)}{js:List Nat}{c0 P:Addr}{k:Nat}{te:TE}{ta:TA}
def tSortR(KP:KPT)(P:Addr)(lpos:Pos)(ql:Str)(js:List Nat)(te:TE)(ta:TA):TE:=fun σ H Q=>ta σ H fun xs H1=>∃(n:Nat)(vys:List V),xs=[.int (n:Int)]/\n<64/\js.map (fun j=>σ[j]?)=vys.map (fun v=>some (some v))/\LamTab H1 P lpos ql/\
 ∀c' H2,SameT P H1 H2->LamTab H2 P lpos ql->H2 c'=some (codeX c' ql)->∃Pv,KeyRG KP te vys c' ql (rngV n) H2 Q Pv
theorem pe_sortR{KP:KPT}(hKP:KeyKP X KP)(hr:Room (k+2) X.A)(hg:Gl X "sorted")(hm:X.mg "sorted"=none)(hg2:Gl X "range")(hm2:X.mg "range"=none)(ha:PA X [a] ta)(S:LamScopeG x (clos.map uq) sc)(nd:(clos.map uq).Nodup)(hcap:Capt X clos js)
  (hclos:closureFor sc X.env=pure clos)(hdef:defaultsOf params X.env=([],[]))(hcode:X.env.code=.ref c0)(C:CodeHd X.base c0 P)(hB:X.base.BuiltinsAt X.mg P)
  (hbind:∀(pm cd ctv u:Value),bindArgs (kla_fn "<lambda>" (X.env.qual++"<lambda>") params body sc clos pm cd ctv) ⟨[u],[]⟩=pure [(x,u)])
  (hbody:∀(fa c':Addr)(A:Around)(s:Shared)(H:Hp),A.units+64<cLine->PE (cxLamG X.prog X.w X.K X.mg X.base x (X.env.qual++"<lambda>") sc fa (.ref c') clos A X.stack s H) body te)
  (hs:pX [a] X.env=[(false,eval a X.env)]:=by rfl)
  (he:backTo pos (pX [.Call (.Name "range" p2) [a] [] pos2] X.env)=(false,eval (.Call (.Name "range" p2) [a] [] pos2) X.env)::backTo pos (pX [] X.env):=by rfl) (hpl:(backTo pos (pX [.Call (.Name "range" p2) [a] [] pos2] X.env)).any (·.1)=false:=by rfl):
  PE X (.Call (.Name "sorted" p) [.Call (.Name "range" p2) [a] [] pos2] [⟨some "key",.Lambda params body sc lpos,kpos⟩] pos) (tSortR KP P lpos (X.env.qual++"<lambda>") js te ta):=by
 intro pins s σ H Q I h;refine Qw (ze2 I hg hm zg7 ?_);refine BM ?_ he hpl rfl rfl;rw[he];refine AO ?_;refine Call_ (ze2 I hg2 hm2 Be (uS (thn (ha pos2 pins s σ H _ I h) fun us s1⟨vs,H1,I1,r1,q1⟩=>?_) hs rfl));obtain⟨n,vys,ev,h64,hσ,ht,q⟩:=q1;subst ev;obtain⟨u,rfl,ru⟩:=vals1 r1;obtain⟨t,rfl⟩:=ru;refine call_range_1 ?_;have I2:Inv X pins σ H1 {s1 with heap:=s1.heap.push {cls:=.type "range",data:=.fields #[.int 0 s1.toks,.int (n:Int) t,.int 1 (s1.toks+1)]},toks:=s1.toks+1+1}:=I1.kept fun b o e=>kF _ e;have o2:(s1.heap.push {cls:=.type "range",data:=.fields #[.int 0 s1.toks,.int (n:Int) t,.int 1 (s1.toks+1)]}).get? s1.heap.objs.size=some {cls:=.type "range",data:=.fields #[.int 0 s1.toks,.int (n:Int) t,.int 1 (s1.toks+1)]}:=kY _ rfl;have fR:=I1.fpOk (kI _) (I1.hok.fresh (kI _));have I3:Inv X (pins++[(s1.heap.objs.size,{cls:=.type "range",data:=.fields #[.int 0 s1.toks,.int (n:Int) t,.int 1 (s1.toks+1)]})]) σ H1 {s1 with heap:=s1.heap.push {cls:=.type "range",data:=.fields #[.int 0 s1.toks,.int (n:Int) t,.int 1 (s1.toks+1)]},toks:=s1.toks+1+1}:=by
  refine I2.pins_of fun p hp=>?_;rcases kf.mp hp with hp|hp
  ·exact I2.pin p (kJ _ hp)
  ·have e:=kr.mp hp;subst e;exact⟨o2,fR.1,fR.2.1,fR.2.2.1,fun v z=>nomatch (show BI _=jw v from z)⟩
 refine Ab ?_;refine kws_cons (zj7 (C:=C) I3 hcode hB hclos hdef ht fun fa c' ctv H2 s2 I4 st lt hfo hc' ffa=>kws_nil ?_);obtain⟨Pv,R⟩:=q c' H2 st lt hc';have pr:=I4.pin _ (kJ _ (kJ _ (kr.mpr rfl)));refine sortKR_run (r:=s1.heap.objs.size) (n:=n) I4.unpinned hKP hr S nd hcap hσ ⟨ffa.1,ffa.2.1,ffa.2.2.1,ffa.2.2.2.1,ffa.2.2.2.2.1,fun p hp=>?_⟩ hfo (fun u=>hbind _ _ _ u) (hbody fa c') pr.1 h64 R;refine ffa.2.2.2.2.2 p ?_;rcases kf.mp hp with hp|hp
 ·exact pi _ hp
 ·exact kJ _ (pi _ hp)
end
section
open PySem.SeqAt
open PySem.AutoSeq1 (wpAny_loadPart')
open PySem.MeetsSeq PySem.MeetsSeq2 PySem.MeetsSeq3
theorem geRc{A:Around}{s:Shared}{a c:Int}{t u:Tok}(prog:Program)(w:World)(E:Value->Shared->Prop)(Q:Value->Shared->Prop)(h:Q (.bool (decide (c<=a))) s):wpAny (model prog w) A (richCompare .GtE (.int a t) (.int c u)) Q E s:=
 (PyProof.Rows.ge_int h:wpAny (model prog w) A (compareOp .GtE (.int a t) (.int c u)) Q E s)
theorem tupleGe(l b:Addr)(items items2:Array Value)(n n2:Nat)(dd dd2:Option Addr)(sl sl2:Array (Option Value))(ns ms:List Int)(hlen:ns.length=ms.length)(hi:IntsAre items.toList ns)(hj:IntsAre items2.toList ms):
  Meets (Builtin.«tuple.__ge__» ⟨[.ref l,.ref b],[]⟩)
   (fun _ R s=>s.heap.get? l=some {cls:=.type "tuple",dict:=dd,data:=.seq items n,slots:=sl}/\s.heap.get? b=some {cls:=.type "tuple",dict:=dd2,data:=.seq items2 n2,slots:=sl2}/\R (.ok (.ret (.bool (!HT.lexLt ns ms)))) s):=
 .of_wp fun prog w A R s h=>by
  obtain⟨hp,g,d,tk,os⟩:=s;obtain⟨hl,hb,h⟩:=h;have f2:=AutoSeq1.sub_tuple_tuple;have z1:items.size=ns.length:=by rw[←hi.length];simp
  have z2:items2.size=ms.length:=by rw[←hj.length];simp
  wp_walk using Uf hl,Uf hb,wpAny_forIn_list _ (fun rest b s'=>b.1=none/\s'=⟨hp,g,d,tk,os⟩/\∃(vs ws:List Value)(ns' ms':List Int),rest=vs.zip ws/\IntsAre vs ns'/\IntsAre ws ms'/\ns'.length=ms'.length/\R (.ok (.ret (.bool (!HT.lexLt ns' ms')))) ⟨hp,g,d,tk,os⟩) _
  case turn=>
   rintro⟨y,x⟩ rest b s' ⟨hb',rfl,vs,ws,ns',ms',hz,hvi,hwi,hln,hR⟩
   cases hvi with
   |nil=>rw[List.zip_nil_left] at hz;cases hz
   |cons a t hv=>
    cases hwi with
    |nil=>rw[List.zip_nil_right] at hz;cases hz
    |cons c u hw=>
     rw[AU] at hz
     injection hz with q1 q2
     injection q1 with q3 q4
     subst q3 q4;rw[HT.lexLt_cons] at hR;simp only[pQ] at hln;obtain⟨e,he,hiff⟩:=HT.eqAt_int A.in1 ⟨hp,g,d,tk,os⟩ a t c u;refine kA (he prog w _ _ ?_)
     cases e with
     |true=>
      rw[if_pos (hiff.mp rfl)] at hR
      wp_walk
      exact⟨rfl,rfl,_,_,_,_,q2,hv,hw,by omega,hR⟩
     |false=>
      have ac:¬a=c:=fun q=>absurd (hiff.mpr q) pF;rw[if_neg ac] at hR;have hR:R (.ok (.ret (.bool (decide (c<=a))))) ⟨hp,g,d,tk,os⟩:=by
       have e2:(!decide (a<c))=decide (c<=a):=by rw[Uc];simp
       rw[←e2];exact hR
      have hri:=geRc (A:=A.in1) (s:=⟨hp,g,d,tk,os⟩) (a:=a) (c:=c) (t:=t) (u:=u) prog w
      wp_walk using hri
      exact⟨_,rfl,by simpa using hR⟩
  case fin=>
   rintro⟨b1,b2⟩ s' ⟨hb',rfl,vs,ws,ns',ms',hz,hvi,hwi,hln,hR⟩
   simp only at hb'
   subst hb';have hv:(!HT.lexLt ns' ms')=decide (items2.size<=items.size):=by
    rw[decide_eq_true (by omega)]
    cases hvi with
    |nil=>
     cases hwi with
     |nil=>rfl
     |cons c u hw=>cases hln
    |cons a t hv=>
     cases hwi with
     |nil=>cases hln
     |cons c u hw=>rw[AU] at hz;cases hz
   rw[hv] at hR
   wp_walk
   exact⟨_,rfl,by simpa[Builtin.Tuple.tupleCompareSizes] using hR⟩
  case h=>
   exact⟨rfl,rfl,items.toList,items2.toList,ns,ms,rfl,hi,hj,hlen,h⟩
end
section
variable{X:Cx}
def rGe2:R2:=fun x y H Q=>∃a b i1 i2 j1 j2,x=.ref a/\y=.ref b/\H a=some (.tup [.int i1,.int i2])/\H b=some (.tup [.int j1,.int j2])/\Q (.bl (!lt2 (i1,i2) (j1,j2))) H
theorem op_ge2(hu:X.A.units+64<cLine):OpR X (compareOp .GtE) rGe2:=by
 intro pins s σ H x y v u Q I rx ry h;obtain⟨a,b,i1,i2,j1,j2,rfl,rfl,ha,hb,q⟩:=h
 cases rx
 cases ry;have sa:SqT X.K H a ([i1,i2].map V.int):=.of ha;have sb:SqT X.K H b ([j1,j2].map V.int):=.of hb;obtain⟨its,r1,p1,_⟩:=I.tuple sa;obtain⟨its2,r2,p2,_⟩:=I.tuple sb;have e1:IntsAre its.toArray.toList [i1,i2]:=zdq r1;have e2:IntsAre its2.toArray.toList [j1,j2]:=zdq r2;obtain⟨⟨cls,dd,data,sl⟩,ho,hc,n,hd⟩:=id p1;obtain⟨⟨cls2,dd2,data2,sl2⟩,ho2,hc2,n2,hd2⟩:=id p2
 simp only at hc hd hc2 hd2
 subst hc hd hc2 hd2;have ev:HT.lexLt [i1,i2] [j1,j2]=lt2 (i1,i2) (j1,j2):=lex2 _ _ _ _;refine richCompare_meets_room (op:=.GtE) ⟨_,ho,rfl⟩ ⟨_,ho2,rfl⟩ PySem.F.slot_tuple_ge PySem.F.entry_tuple_ge (PySem.F.args_tuple_ge_2 _ _) (tupleGe a b its.toArray its2.toArray n n2 dd dd2 sl sl2 [i1,i2] [j1,j2] rfl e1 e2) ⟨ho,ho2,(fun z=>nomatch z),?_⟩ (by omega)
 rw[ev];exact⟨.bl _,H,I,rfl,q⟩
end
open PySem.W (kla_fn kla_obj envX tabObj CodeHd KasT kas_sort kas_ask kas_item)
section
variable{prog:Program}{w:World}{A:Around}{E:Value->Shared->Prop}{s:Shared}{vs ks:List Value}{g:Heap}{a kS:Addr}{e e1:Nat}{f:Value}
theorem zjv{x:Keyed}(h:x∈ks.toArray.zip vs.toArray):x.1∈ks:=by
 have h:x∈(ks.toArray.zip vs.toArray).toList:=AB.mpr h;rw[BC] at h;exact(vq h).1
theorem zge{st:SortSt}{ys:List Value}{P:Qv->Shared->Prop}(hs:(arrOf st).map (·.2)=ys.toArray)(hf:failedOf st=none)(hz:ys.length=vs.length)(zl:vs.length<=sizeLine)(hkl:ks.length<=sizeLine)(nak:a≠kS)
  (hk:s.heap.get? kS=some (seqObj "list" ks.toArray e))(ha:s.heap.get? a=some (seqObj "list" #[] e1))
  (q:P (.done (.ret .none)) {s with heap:=(s.heap.update kS (kq fun _=>(#[]:Array Value))).update a (kq fun _=>ys.toArray)}):
  wpAny (model prog w) A (Bk a false e1 (.ref kS) st) P E s:=by
 have ha2:(s.heap.update kS (kq fun _=>(#[]:Array Value))).get? a=some (seqObj "list" #[] e1):=by rw[pO _ _ _ _ nak];exact ha
 unfold Bk;dsimp only;rw[hs];refine kA (UP hk rfl ?_ (by rw[kZ];exact hkl) (pI _))
 refine kA (UV ?_);refine kA (gz ha2 rfl ?_);refine kA (UP ha2 rfl ?_ (pI _) (by simp only[pR,if_false];rw[kZ,hz];omega))
 rw[hf];simp only[bne_self_eq_false,pR,if_false];exact kM q
end
section
variable{X:Cx}
theorem keyV_rel{k:Key}{v:Value}(h:keyIs k v):RelV (kV k) v:=by
 rcases zbk h with⟨i,t,rfl,rfl⟩|⟨x,t,rfl,rfl⟩
 ·exact⟨t,rfl⟩
 ·exact⟨t,rfl⟩
theorem keys_vals{P:Program}{w:World}:∀{es:List DictEntry}{vs:List (Key×Value)},Pairs (mixKind P w) es vs->Vals (vs.map fun kv=>kV kv.1) (es.map (·.key)):=by
 intro es vs h
 induction h with
 |nil=>exact .nil
 |cons h1 h2 h3 ih=>exact .cons (keyV_rel h1) ih
def rListK:List V->Hp->VK->Prop:=fun xs H Q=>∃d kvs,xs=[.ref d]/\H d=some (.dK kvs)/\∀l,H l=none->Q (.ref l) (upd H l (.lst (kvs.map fun kv=>kV kv.1)))
theorem call_listK(hc:X.calm=true):CallR X (.type "list") rListK:=by
 intro pins s σ H xs us Q I r h;obtain⟨d,kvs,rfl,e,q⟩:=h;obtain⟨u,rfl,rx⟩:=vals1 r
 cases rx;obtain⟨z,hd,vs,rel,o,es,ep,ho,hx,hdat,_,hp,_⟩:=I.hok d _ e;have kv:Vals (kvs.map fun kv=>kV kv.1) (es.toList.map (·.key)):=by
  have e1:(kvs.map fun kv=>kV kv.1)=vs.map fun kv=>kV kv.1:=by
   clear hp e q z
   rename_i nodup_
   clear nodup_
   induction rel with
   |nil=>rfl
   |cons h1 h2 ih=>rw[pE,pE,ih,h1.1]
  rw[e1];exact keys_vals hp
 have ls:es.size=kvs.length:=by
  have:=kv.length;rw[kN,kN] at this
  simpa using this.symm
 refine zet (I.ok.hd hc) hd ho hx.1 hdat (fun h' tk acc' c' kp hS hacc=>?_) (by omega)
 have ea:acc'.toList=es.toList.map (·.key):=by
  refine vR fun j=>?_;rw[ke,pY,pY];have ha:acc'.size=es.size:=hacc.1
  by_cases hj:j<es.size
  ·have hj':j<acc'.size:=by omega
   obtain⟨e,e1,e2⟩:=hacc.2 j acc'[j] (pH hj');rw[pH hj',e1,e2];rfl
  ·rw[Qs (by omega),Qs (by omega)]
   rfl
 refine⟨.ref s.heap.objs.size,_,I.laid (t':=tk) kp (kI _) (o:=.lst (kvs.map fun kv=>kV kv.1)) ⟨by rw[kN];exact z,acc'.toList,c',by rw[ea];exact kv,by simpa using hS⟩,rfl,q _ (I.hok.fresh (kI _))⟩
def rSortI:List V->Hp->VK->Prop:=fun xs H Q=>∃l ns,xs=[.ref l]/\H l=some (.lst (ns.map V.int))/\ns.length<64/\∀D(ms:List Int),H D=none->ms.Perm ns->ms.Pairwise (·<=·)->Q (.ref D) (upd H D (.lst (ms.map V.int)))
theorem call_sortI(hu:X.A.units+100<cLine):CallR X (.builtin "sorted") rSortI:=by
 intro pins s σ H xs us Q I r h;obtain⟨l,ns,rfl,hl,h64,q⟩:=h;obtain⟨u,rfl,ru⟩:=vals1 r
 cases ru;obtain⟨its,rv,pl,hz⟩:=I.list (.of hl);have len:ns.length=its.length:=by have:=rv.length;rw[kN] at this;exact this
 refine sorted_ints pl.isList (zdq rv) (by omega) fun out ms a1 a2 a3=>?_
 have k0:Keeps s.heap s.heap:=fun _ _ e=>e;have k2:=((k0.push (seqObj "list" #[] 0)).upd (a:=s.heap.objs.size) (f:=kq (·++its.toArray)) (kI _)).push (seqObj "list" its.toArray 0);have z2:((s.heap.push (seqObj "list" #[] 0)).update s.heap.objs.size (kq (·++its.toArray))).objs.size=s.heap.objs.size+1:=by
  rw[BD,size_push']
 have o2:(((s.heap.push (seqObj "list" #[] 0)).update s.heap.objs.size (kq (·++its.toArray))).push (seqObj "list" its.toArray 0)).get? (s.heap.objs.size+1)=some (seqObj "list" its.toArray 0):=
  z2▸kY _ rfl
 have o3:=Qp o2 fun _=>(#[]:Array Value);have o5:=Qp (kF (seqObj "list" #[] 0) (kF (seqObj "tuple" its.toArray 0) o3)) fun _=>out;have k5:Keeps s.heap (sortedAll s.heap its out):=(((k2.upd (a:=s.heap.objs.size+1) (f:=kq fun _=>(#[]:Array Value)) (Qt _)).push (seqObj "tuple" its.toArray 0)).push (seqObj "list" #[] 0)).upd (a:=s.heap.objs.size+1) (f:=kq fun _=>out) (Qt _);refine⟨.ref _,upd H (s.heap.objs.size+1) (.lst (ms.map V.int)),I.laid (t':=s.toks) k5 (Qt _) ⟨?_,out.toList,_,zgh a1,o5⟩,rfl,q _ _ (I.hok.fresh (Qt _)) a2 a3⟩;rw[kN,a2.length_eq];exact kz (uI h64) (by decide)
end
def Ite(K:kC)(l:Addr):It:=
 ⟨fun i H=>∃xs x,SqL K H l xs/\xs[i]?=some x,
  fun i H v H'=>∃T x,H T=none/\v=.ref T/\H'=upd H T (.tup [.int (i:Int),x])/\(∀xs,SqL K H l xs->xs[i]?=some x),
  fun i H=>∃xs,SqL K H l xs/\xs.length<=i⟩
def EnuSt(e it l:Addr)(i:Nat)(h:Heap):Prop:=∃old,IsEnum h e it (i:Int) old/\h.IsListIter it l i
theorem turn_enu{P:Program}{w:World}{K:kC}{elts:List Expr}{x1:Nat}{pos:Pos}{e it l:Addr}(ne:e≠it):
  Turn P w K (.Tuple elts x1 pos) (Ite K l) [e,it] e (EnuSt e it l) where
 mem:=by simp
 obj:=fun i h st b hb=>by
  obtain⟨old,he,h1⟩:=st;simp only[kh,pP,or_false] at hb;rcases hb with rfl|rfl
  ·exact⟨_,he,fun v q=>by cases q⟩
  ·obtain⟨o,q,c,d⟩:=h1;exact⟨o,q,fun v r=>by rw[d] at r;cases r⟩
 keep:=fun i h h' st k=>by
  obtain⟨old,he,h1⟩:=st;exact⟨old,k e (by simp) _ he,h1.at fun o q=>k it (by simp) o q⟩
 item:=by
  intro X hP hw hK hc i pins s σ H E I hf st hg;subst hP hw hK;obtain⟨xs,x,hq1,hx⟩:=hg;obtain⟨old,he,h1⟩:=st;obtain⟨its1,rv1,p1,_⟩:=I.list hq1;obtain⟨u1,hu1,ru1⟩:=rv1.get hx;refine wpAny_pyNext_enum_item he h1 p1.isList (x:=u1) (by simpa using hu1) ne fun h₁ z1 j1 pr sz kk=>⟨_,rfl,?_⟩
  refine wpAny_letOwnedTupleGo_enum z1 fun h₂ z2 sb=>?_;have lt:∀b∈[e,it],b≠s.heap.objs.size:=fun b hb z=>by
   have:∃o,s.heap.get? b=some o:=by
    simp only[kh,pP,or_false] at hb;rcases hb with rfl|rfl
    ·exact⟨_,he⟩
    ·obtain⟨o,q,_⟩:=h1;exact⟨o,q⟩
   obtain⟨o,q⟩:=this;exact absurd (kT q) (by rw[z];exact QX _)
  have nz:∀{b:Addr},b≠e->∀{o},h₁.get? b=some o->h₂.get? b=some o:=fun{b} hb{o} q=>(sb.2 b hb).trans q;have zT:s.heap.objs.size≠e:=(lt e (by simp)).symm
  have hnT:H s.heap.objs.size=none:=I.hok.fresh (kI _);have new:ObjOk X.prog X.w (upd H s.heap.objs.size (.tup [.int (i:Int),x])) h₂ s.heap.objs.size (.tup [.int (i:Int),x]):=
   ⟨by show 2<=sizeLine;decide,[.int i s.toks,u1],.cons ⟨_,rfl⟩ (.cons ru1 .nil),⟨_,nz zT pr,rfl,_,rfl⟩⟩
  have I1:=Inv.turnedNew (h':=h₂) (t':=s.toks+1) (ch:=[e,it]) I hf (fun b o hb q=>nz (by simp at hb;exact hb.1) (kk b o (by simp at hb;exact hb.1) (by simp at hb;exact hb.2) q)) (kI _) new
  refine⟨.ref s.heap.objs.size,_,I1,rfl,⟨_,x,hnT,rfl,rfl,fun ys' hy'=>by rw[I.list_inj hy' hq1];exact hx⟩,⟨u1,?_,?_⟩,fun b hb=>by rw[za6 (lt b hb)];exact(hf b hb).1⟩
  ·exact z2
  ·exact j1.at fun o q=>nz (UA ne) q
 done:=by
  intro X hP hw hK hc i pins s σ H E I hf st hg;subst hP hw hK;obtain⟨xs,hq1,hl⟩:=hg;obtain⟨old,he,h1⟩:=st;obtain⟨its1,rv1,p1,_⟩:=I.list hq1;have e1:=rv1.length;refine wpAny_pyNext_enum_end (I.ok.hd hc) he h1 p1.isList (by simp;omega) fun h₁ kk=>⟨rfl,?_⟩
  exact I.turnedL (t':=s.toks) (ch:=[e,it]) hf (fun b o hb q=>kk b o (by simp at hb;exact hb.2) q)
 self:=fun _ _ _ _ _ st h=>by
  obtain⟨old,he,_⟩:=st;exact Ao he h
section
variable{X:Cx}
def iEnu(ta:TA):TI:=fun σ H R=>ta σ H fun vs H1=>∃l xs,vs=[.ref l]/\H1 l=some (.lst xs)/\∀K,R (Ite K l) H1
theorem bt_enumerate:bootBuiltins "enumerate"=some (.type "enumerate"):=by decide+kernel
theorem pi_enu{a:Expr}{ta:TA}{p pos tpos:Pos}{elts:List Expr}{x1:Nat}(hg:Gl X "enumerate")(hm:X.mg "enumerate"=none)(ha:PA X [a] ta)(hs:pX [a] X.env=[(false,eval a X.env)]:=by rfl):PI X (.Tuple elts x1 tpos) (.Call (.Name "enumerate" p) [a] [] pos) (iEnu ta):=by
 intro pins s σ H R I h;refine Call_ (ze2 I hg hm bt_enumerate (uS (thn (ha pos pins s σ H _ I h) fun us s1⟨vs,H1,I1,r1,q1⟩=>?_) (by rw[hs];rfl) rfl))
 obtain⟨l,xs,e,e1,q⟩:=q1;subst e;obtain⟨u,rfl,ru⟩:=vals1 r1
 cases ru;obtain⟨its1,rv1,p1,_⟩:=I1.list (.of e1);refine call_enumerate_list p1.isList fun h' he hi sz kk=>?_;refine Ao he ?_;have I2:Inv X pins σ H1 {s1 with heap:=h'}:=I1.kept (t':=s1.toks) kk;refine⟨_,_,_,_,H1,rfl,I2,turn_enu (l:=l) (by show s1.heap.objs.size+1≠s1.heap.objs.size;omega),⟨_,he,hi⟩,fun b hb=>?_,q _⟩
 have hb':s1.heap.objs.size<=b:=by
  simp only[kh,pP,or_false] at hb;rcases hb with rfl|rfl
  ·exact UR _ _
  ·exact kI _
 exact I1.fpOk hb' (I1.hok.fresh hb')
end
theorem for_enu{K:kC}{l:Addr}{xs:List V}{g:TG}{tb:TS}{D:Ends}{σ:St}{H:Hp}(Pv:Nat->St->Hp->Prop)(h0:Pv 0 σ H)(hl:∀i σ H,Pv i σ H->H l=some (.lst xs))
  (hs:∀i x T σ H,xs[i]?=some x->Pv i σ H->H T=none->g (.ref T) σ (upd H T (.tup [.int (i:Int),x])) fun σ2 H2=>tb {D with nx:=Pv (i+1),ct:=Pv (i+1),bk:=D.nx} σ2 H2)(hd:∀σ H,Pv xs.length σ H->D.nx σ H):
  ∃W:Nat->Nat->St->Hp->Prop,(∃m,W 0 m σ H)/\∀i m σ H,W i m σ H->
   ((Ite K l).stop i H/\D.nx σ H)∨((Ite K l).go i H/\∃N:St->Hp->Prop,(∀σ' H',N σ' H'->∃m',m'<m/\W (i+1) m' σ' H')/\∀x H',(Ite K l).yld i H x H'->g x σ H' fun σ2 H2=>tb {D with nx:=N,ct:=N,bk:=D.nx} σ2 H2):=by
 refine⟨fun i m σ H=>m=xs.length-i/\i<=xs.length/\Pv i σ H,⟨xs.length,by simp,pI _,h0⟩,?_⟩
 rintro i m σ H ⟨rfl,hi,p⟩;have q1:=hl i σ H p
 by_cases hlt:i<xs.length
 ·refine .inr ⟨⟨xs,xs[i],.of q1,by simp[hlt]⟩,Pv (i+1),fun σ' H' p'=>⟨xs.length-(i+1),by omega,rfl,hlt,p'⟩,fun v H' y=>?_⟩
  obtain⟨T,x,hT,rfl,rfl,y1⟩:=y;exact hs i x T σ H (y1 xs (.of q1)) p hT
 ·have e:i=xs.length:=by omega
  subst e;exact .inl ⟨⟨xs,.of q1,kI _⟩,hd σ H p⟩
section
variable{X:Cx}
def rNotInT(K:kC):R2:=fun x y H Q=>∃d es,RdD K H d x/\RdD K H (.tuple es) y/\d.canLay0=true/\pN es=true/\d.depth<=60/\Q (.bl (!es.any fun e=>pj e d)) H
theorem op_notInT{K':kC}(hK:X.K=K')(hu:X.A.units+64<cLine):OpR X (compareOp .NotIn) (rNotInT K'):=by
 subst hK;intro pins s σ H x y v u Q I rx ry h;obtain⟨d,es,hd,he,c1,c2,c3,q⟩:=h;obtain⟨as,ra⟩:=zd0 I d x v hd rx;obtain⟨bs,rb⟩:=zd0 I _ y u he ry;exact SeqAt.notIn_tuple_reads rb ra c2 c1 (by omega) ⟨.bl _,H,I,rfl,q⟩
end
structure WkT{α:Type}(an:α->α->Bool):Prop where
 irr:∀i,an i i=false
 tr:∀i j k,an i j=true->an j k=true->an i k=true
 cut:∀i j k,an i j=false->an j k=false->an i k=false
theorem WkT.asymm{α:Type}{an:α->α->Bool}(T:WkT an){a b:α}(h:an a b=true):an b a=false:=by
 cases e:an b a with
 |false=>rfl
 |true=>have:=T.tr _ _ _ h e;rw[T.irr] at this;cases this
def UpL{α:Type}(an:α->α->Bool)(l:List α):Prop:=l.Pairwise fun x y=>an y x=false
section
variable{prog:Program}{w:World}{A:Around}{E:Value->Shared->Prop}{s:Shared}{a₀:Array Keyed}{κ:SortKind}{an:Keyed->Keyed->Bool}
def QR(prog:Program)(w:World)(A:Around)(E:Value->Shared->Prop)(s:Shared)(κ:SortKind)(a₀:Array Keyed)(an:Keyed->Keyed->Bool):Prop:=
 ∀(x y:Keyed)(st:SortSt)(Q:Option Bool->SortSt->Prop),x∈a₀->y∈a₀->kindOf st=κ->Q (some (an x y)) st->wpS (model prog w) A E s (lt' x y) Q st
theorem gallopG(hq:QR prog w A E s κ a₀ an){left:Bool}{key:Keyed}{arr:Array Keyed}{base n hint:Nat}{st:SortSt}{Q:Option Nat->SortSt->Prop}(hk:key∈a₀)(ha:∀x,x∈arr->x∈a₀)(hb:base+n<=arr.size)(hh:hint<n)(hκ:kindOf st=κ)
  (be:Nat->Bool)(hbe:∀i(h:base+i<arr.size),i<n->be i=if left=true then an arr[base+i] key else !an key arr[base+i])(mono:∀i j,i<j->j<n->be j=true->be i=true)
  (h:∀k,k<=n->(∀i,i<k->be i=true)->(∀i,k<=i->i<n->be i=false)->Q (some k) st):
  wpS (model prog w) A E s (gallop' left key arr base n hint) Q st:=by
 have bey:∀(i:Nat)(Q:Option Bool->SortSt->Prop),i<n->Q (some (be i)) st->wpS (model prog w) A E s ((do let x ←elem' arr (base+i);if left then lt' x key else return(←lt' key x).map (!·)):StateT SortSt Sem (Option Bool)) Q st:=by
  intro i Q hi hQ;refine kE (el_at (by omega) ?_)
  have hx:arr[base+i]∈a₀:=ha _ (QD _);have e:=hbe i (by omega) hi
  cases left with
  |true=>
   rw[if_pos rfl] at e;exact hq _ _ _ _ hx hk hκ (by rw[←e];exact hQ)
  |false=>
   rw[if_neg (by decide)] at e
   exact kE (hq _ _ _ _ hk hx hκ (kD (by show Q (some (!an key arr[base+i])) st;rw[←e];exact hQ)))
 have mono':∀i j,i<=j->j<n->be i=false->be j=false:=fun i j hij hj hi=>by
  cases e:be j with
  |false=>rfl
  |true=>
   rcases Ua hij with z|z
   ·rw[mono i j z hj e] at hi;cases hi
   ·rw[z,e] at hi;cases hi
 have monoT:∀i j,i<=j->j<n->be j=true->be i=true:=fun i j hij hj hi=>by
  rcases Ua hij with z|z
  ·exact mono i j z hj hi
  ·rw[z];exact hi
 refine kE (bey hint _ hh ?_)
 cases er:be hint with
 |true=>
  show wpS _ _ _ _ (_>>=_) _ _
  refine kE (uz (pW (I:=fun x(c:Option (Option Nat)×Nat×Nat) st'=>st=st'/\c.1=none/\c.2.1<c.2.2/\hint+c.2.1<n/\be (hint+c.2.1)=true/\x+1<=c.2.2) (Q:=fun c st'=>st=st'/\c.1=none/\c.2.1<c.2.2/\hint+c.2.1<n/\be (hint+c.2.1)=true/\(n-hint<=c.2.2∨(hint+c.2.2<n/\be (hint+c.2.2)=false))) ?_ ?_ ⟨rfl,rfl,BY,hh,er,kI _⟩) ?_)
  ·rintro x ⟨r,lastofs,ofs⟩ st' _ hx ⟨rfl,e,q1,q2,q3,q4⟩;dsimp only at e q1 q2 q3 q4⊢
   by_cases c:ofs≥n-hint
   ·rw[if_pos c];exact kD ⟨rfl,rfl,q1,q2,q3,.inl c⟩
   ·rw[if_neg c];refine kE (bey (hint+ofs) _ (by omega) ?_)
    cases eb:be (hint+ofs) with
    |true=>exact kD ⟨rfl,rfl,(by show ofs<2*ofs+1;omega),(by show hint+ofs<n;omega),eb,(by show x+1+1<=2*ofs+1;omega)⟩
    |false=>exact kD ⟨rfl,rfl,q1,q2,q3,.inr ⟨(by show hint+ofs<n;omega),eb⟩⟩
  ·rintro⟨r,lastofs,ofs⟩ st' ⟨rfl,e,q1,q2,q3,q4⟩;dsimp only at e q1 q2 q3 q4⊢;exact⟨rfl,e,q1,q2,q3,.inl (by omega)⟩
  ·rintro⟨r,lastofs,ofs⟩ st' ⟨rfl,e,q1,q2,q3,q4⟩;dsimp only at e q1 q2 q3 q4⊢;subst e;have h3:∀i,i<hint+lastofs+1->be i=true:=fun i hi=>monoT i _ (by omega) q2 q3
   have h4:∀i,hint+min ofs (n-hint)<=i->i<n->be i=false:=fun i hi hn=>by
       rcases q4 with z|⟨z1,z2⟩
       ·omega
       ·exact mono' (hint+ofs) i (by omega) hn z2
   have h1:hint+lastofs+1<=hint+min ofs (n-hint):=by omega
   have h2:hint+min ofs (n-hint)<=n:=by omega
   show wpS _ _ _ _ (_>>=_) _ _
   refine kE (uz (pW (I:=fun x(c:Option (Option Nat)×Nat×Nat) st'=>st=st'/\c.1=none/\c.2.1<=c.2.2/\c.2.2<=n/\(∀i,i<c.2.1->be i=true)/\(∀i,c.2.2<=i->i<n->be i=false)/\c.2.2-c.2.1<=n-x) (Q:=fun c st'=>st=st'/\c.1=none/\c.2.2<=n/\(∀i,i<c.2.2->be i=true)/\(∀i,c.2.2<=i->i<n->be i=false)) ?_ ?_ ⟨rfl,rfl,h1,h2,h3,h4,by show hint+min ofs (n-hint)-(hint+lastofs+1)<=n-0;omega⟩) ?_)
   ·rintro x ⟨r,lo,hi⟩ st' _ hx ⟨rfl,e,q1,q2,q3,q4,q5⟩;dsimp only at e q1 q2 q3 q4 q5⊢
    by_cases c:lo≥hi
    ·rw[if_pos c];have el:lo=hi:=by omega
     subst el;exact kD ⟨rfl,rfl,q2,q3,q4⟩
    ·rw[if_neg c];refine kE (bey (lo+(hi-lo)/2) _ (by omega) ?_)
     cases eb:be (lo+(hi-lo)/2) with
     |true=>exact kD ⟨rfl,rfl,(by show lo+(hi-lo)/2+1<=hi;omega),q2,fun i hi'=>monoT i _ (by have:i<lo+(hi-lo)/2+1:=hi';omega) (by omega) eb,q4,(by show hi-(lo+(hi-lo)/2+1)<=n-(x+1);omega)⟩
     |false=>exact kD ⟨rfl,rfl,(by show lo<=lo+(hi-lo)/2;omega),(by show lo+(hi-lo)/2<=n;omega),q3,fun i hi' hn=>mono' _ i hi' hn eb,(by show lo+(hi-lo)/2-lo<=n-(x+1);omega)⟩
   ·rintro⟨r,lo,hi⟩ st' ⟨rfl,e,q1,q2,q3,q4,q5⟩;dsimp only at e q1 q2 q3 q4 q5⊢;have el:lo=hi:=by omega
    subst el;exact⟨rfl,e,q2,q3,q4⟩
   ·rintro⟨r,lo,hi⟩ st' ⟨rfl,e,q2,q3,q4⟩;dsimp only at e q2 q3 q4⊢;subst e;exact kD (h hi q2 q3 q4)
 |false=>
  show wpS _ _ _ _ (_>>=_) _ _
  refine kE (uz (pW (I:=fun x(c:Option (Option Nat)×Nat×Nat) st'=>st=st'/\c.1=none/\c.2.1<c.2.2/\c.2.1<=hint/\be (hint-c.2.1)=false/\x+1<=c.2.2) (Q:=fun c st'=>st=st'/\c.1=none/\c.2.1<c.2.2/\c.2.1<=hint/\be (hint-c.2.1)=false/\(hint+1<=c.2.2∨(c.2.2<=hint/\be (hint-c.2.2)=true))) ?_ ?_ ⟨rfl,rfl,BY,pI _,er,kI _⟩) ?_)
  ·rintro x ⟨r,lastofs,ofs⟩ st' _ hx ⟨rfl,e,q1,q2,q3,q4⟩;dsimp only at e q1 q2 q3 q4⊢
   by_cases c:ofs≥hint+1
   ·rw[if_pos c];exact kD ⟨rfl,rfl,q1,q2,q3,.inl c⟩
   ·rw[if_neg c];refine kE (bey (hint-ofs) _ (by omega) ?_)
    cases eb:be (hint-ofs) with
    |true=>exact kD ⟨rfl,rfl,q1,q2,q3,.inr ⟨(by show ofs<=hint;omega),eb⟩⟩
    |false=>exact kD ⟨rfl,rfl,(by show ofs<2*ofs+1;omega),(by show ofs<=hint;omega),eb,(by show x+1+1<=2*ofs+1;omega)⟩
  ·rintro⟨r,lastofs,ofs⟩ st' ⟨rfl,e,q1,q2,q3,q4⟩;dsimp only at e q1 q2 q3 q4⊢;exact⟨rfl,e,q1,q2,q3,.inl (by omega)⟩
  ·rintro⟨r,lastofs,ofs⟩ st' ⟨rfl,e,q1,q2,q3,q4⟩;dsimp only at e q1 q2 q3 q4⊢;subst e;have h3:∀i,i<hint+1-min ofs (hint+1)->be i=true:=fun i hi=>by
       rcases q4 with z|⟨z1,z2⟩
       ·omega
       ·exact monoT i (hint-ofs) (by omega) (by omega) z2
   have h4:∀i,hint-lastofs<=i->i<n->be i=false:=fun i hi hn=>mono' (hint-lastofs) i hi hn q3;have h1:hint+1-min ofs (hint+1)<=hint-lastofs:=by omega
   have h2:hint-lastofs<=n:=by omega
   show wpS _ _ _ _ (_>>=_) _ _
   refine kE (uz (pW (I:=fun x(c:Option (Option Nat)×Nat×Nat) st'=>st=st'/\c.1=none/\c.2.1<=c.2.2/\c.2.2<=n/\(∀i,i<c.2.1->be i=true)/\(∀i,c.2.2<=i->i<n->be i=false)/\c.2.2-c.2.1<=n-x) (Q:=fun c st'=>st=st'/\c.1=none/\c.2.2<=n/\(∀i,i<c.2.2->be i=true)/\(∀i,c.2.2<=i->i<n->be i=false)) ?_ ?_ ⟨rfl,rfl,h1,h2,h3,h4,by show hint-lastofs-(hint+1-min ofs (hint+1))<=n-0;omega⟩) ?_)
   ·rintro x ⟨r,lo,hi⟩ st' _ hx ⟨rfl,e,q1,q2,q3,q4,q5⟩;dsimp only at e q1 q2 q3 q4 q5⊢
    by_cases c:lo≥hi
    ·rw[if_pos c];have el:lo=hi:=by omega
     subst el;exact kD ⟨rfl,rfl,q2,q3,q4⟩
    ·rw[if_neg c];refine kE (bey (lo+(hi-lo)/2) _ (by omega) ?_)
     cases eb:be (lo+(hi-lo)/2) with
     |true=>exact kD ⟨rfl,rfl,(by show lo+(hi-lo)/2+1<=hi;omega),q2,fun i hi'=>monoT i _ (by have:i<lo+(hi-lo)/2+1:=hi';omega) (by omega) eb,q4,(by show hi-(lo+(hi-lo)/2+1)<=n-(x+1);omega)⟩
     |false=>exact kD ⟨rfl,rfl,(by show lo<=lo+(hi-lo)/2;omega),(by show lo+(hi-lo)/2<=n;omega),q3,fun i hi' hn=>mono' _ i hi' hn eb,(by show lo+(hi-lo)/2-lo<=n-(x+1);omega)⟩
   ·rintro⟨r,lo,hi⟩ st' ⟨rfl,e,q1,q2,q3,q4,q5⟩;dsimp only at e q1 q2 q3 q4 q5⊢;have el:lo=hi:=by omega
    subst el;exact⟨rfl,e,q2,q3,q4⟩
   ·rintro⟨r,lo,hi⟩ st' ⟨rfl,e,q2,q3,q4⟩;dsimp only at e q2 q3 q4⊢;subst e;exact kD (h hi q2 q3 q4)
end
section
variable{prog:Program}{w:World}{A:Around}{E:Value->Shared->Prop}{s:Shared}{a₀:Array Keyed}{κ:SortKind}{an:Keyed->Keyed->Bool}
def SrtS(an:Keyed->Keyed->Bool)(arr:Array Keyed)(base n:Nat):Prop:=∀i j(_:i<j)(_:j<n)(hi:base+i<arr.size)(hj:base+j<arr.size),an arr[base+j] arr[base+i]=false
theorem galR(T:WkT an)(hq:QR prog w A E s κ a₀ an){key:Keyed}{arr:Array Keyed}{base n hint:Nat}{st:SortSt}{Q:Option Nat->SortSt->Prop}(hk:key∈a₀)(ha:∀x,x∈arr->x∈a₀)(hb:base+n<=arr.size)(hh:hint<n)(hκ:kindOf st=κ)(so:SrtS an arr base n)
  (h:∀k,k<=n->(∀i,i<k->∀(h:base+i<arr.size),an key arr[base+i]=false)->(∀i,k<=i->i<n->∀(h:base+i<arr.size),an key arr[base+i]=true)->Q (some k) st):
  wpS (model prog w) A E s (gallop' false key arr base n hint) Q st:=by
 refine gallopG hq hk ha hb hh hκ (fun i=> !an key (arr.getD (base+i) key)) (fun i hi hn=>?_) (fun i j hij hj e=>?_) fun k hk' h1 h2=>h k hk' (fun i hi hb'=>?_) fun i hi hn hb'=>?_
 ·rw[if_neg (by decide)]
  simp only[UZ,hi,dite_true];rfl
 ·have bi:base+i<arr.size:=by omega
  have bj:base+j<arr.size:=by omega
  simp only[UZ,bi,bj,dite_true,vU] at e⊢;exact T.cut _ _ _ e (so i j hij hj bi bj)
 ·have:=h1 i hi;simp only[UZ,hb',dite_true,vU] at this;exact this
 ·have:=h2 i hi hn;simp only[UZ,hb',dite_true,AV] at this;exact this
theorem galL(T:WkT an)(hq:QR prog w A E s κ a₀ an){key:Keyed}{arr:Array Keyed}{base n hint:Nat}{st:SortSt}{Q:Option Nat->SortSt->Prop}(hk:key∈a₀)(ha:∀x,x∈arr->x∈a₀)(hb:base+n<=arr.size)(hh:hint<n)(hκ:kindOf st=κ)(so:SrtS an arr base n)
  (h:∀k,k<=n->(∀i,i<k->∀(h:base+i<arr.size),an arr[base+i] key=true)->(∀i,k<=i->i<n->∀(h:base+i<arr.size),an arr[base+i] key=false)->Q (some k) st):
  wpS (model prog w) A E s (gallop' true key arr base n hint) Q st:=by
 refine gallopG hq hk ha hb hh hκ (fun i=>an (arr.getD (base+i) key) key) (fun i hi hn=>?_) (fun i j hij hj e=>?_) fun k hk' h1 h2=>h k hk' (fun i hi hb'=>?_) fun i hi hn hb'=>?_
 ·rw[if_pos rfl];simp only[UZ,hi,dite_true];rfl
 ·have bi:base+i<arr.size:=by omega
  have bj:base+j<arr.size:=by omega
  simp only[UZ,bi,bj,dite_true] at e⊢
  cases z:an (arr.getInternal (base+i) bi) key with
  |true=>rfl
  |false=>
   have:=T.cut _ _ _ (so i j hij hj bi bj) z;rw[show an arr[base+j] key=true from e] at this
   cases this
 ·have:=h1 i hi;simp only[UZ,hb',dite_true] at this;exact this
 ·have:=h2 i hi hn;simp only[UZ,hb',dite_true] at this;exact this
structure LoIv(an:Keyed->Keyed->Bool)(a b:Array Keyed)(J:Array Keyed->Nat->Nat->Prop)(R:Array Keyed->Prop):Prop where
 z:∀h:0<b.size,J #[b[0]] 0 1
 done:∀{out ia ib},J out ia ib->ib=b.size∨ia=a.size->R (out++a.extract ia++b.extract ib)
 last:∀{out ia ib},J out ia ib->ia+1=a.size->R (out++b.extract ib++a.extract ia)
 b1:∀{out ia ib},J out ia ib->∀(ha:ia<a.size)(hb:ib<b.size),an b[ib] a[ia]=true->J (out.push b[ib]) ia (ib+1)
 a1:∀{out ia ib},J out ia ib->∀(ha:ia<a.size)(hb:ib<b.size),an b[ib] a[ia]=false->J (out.push a[ia]) (ia+1) ib
 ak:∀{out ia ib k},J out ia ib->∀hb:ib<b.size,ia+k<=a.size->(∀i,i<k->∀(h:ia+i<a.size),an b[ib] a[ia+i]=false)->J (out++a.extract ia (ia+k)) (ia+k) ib
 bk:∀{out ia ib k},J out ia ib->∀ha:ia<a.size,ib+k<=b.size->(∀i,i<k->∀(h:ib+i<b.size),an b[ib+i] a[ia]=true)->J (out++b.extract ib (ib+k)) ia (ib+k)
theorem zc6{an:Keyed->Keyed->Bool}{arr:Array Keyed}{n base m:Nat}(h:SrtS an arr 0 n)(hb:base+m<=n):SrtS an arr base m:=fun i j hij hj hi hj'=>by
 have e:∀{k:Nat}(h1:base+k<arr.size)(h2:0+(base+k)<arr.size),arr[base+k]=arr[0+(base+k)]:=fun h1 h2=>by congr 1;omega
 rw[e hi (by omega),e hj' (by omega)]
 exact h (base+i) (base+j) (by omega) (by omega) (by omega) (by omega)
theorem loG(T:WkT an)(hq:QR prog w A E s κ a₀ an){J:Array Keyed->Nat->Nat->Prop}{R:Array Keyed->Prop}{a b:Array Keyed}{st:SortSt}{Q:Array Keyed->SortSt->Prop}(ha:∀x,x∈a->x∈a₀)(hb:∀x,x∈b->x∈a₀)(a1:0<a.size)(b1:0<b.size)(hκ:kindOf st=κ)(L:LoIv an a b J R)(sa:SrtS an a 0 a.size)(sb:SrtS an b 0 b.size)
  (h:∀r g,R r->Q r (gSt st g)):wpS (model prog w) A E s (mergeLo' a b) Q st:=by
 have ea:∀{i:Nat}(h:i<a.size),a[i]∈a₀:=fun h=>ha _ (QD h);have eb:∀{i:Nat}(h:i<b.size),b[i]∈a₀:=fun h=>hb _ (QD h);have est:gSt st (gallopOf st)=st:=rfl;refine kE (jR (Qa ⟨rfl,?_⟩));refine kE (el_at b1 ?_);dsimp only
 by_cases c1:(1==b.size)=true
 ·rw[if_pos c1];exact kD (est▸h _ (gallopOf st) (L.done (L.z b1) (.inl (pA c1).symm.symm)))
 rw[if_neg c1]
 by_cases c2:(0+1==a.size)=true
 ·rw[if_pos c2];exact kD (est▸h _ (gallopOf st) (L.last (L.z b1) (pA c2)))
 rw[if_neg c2];have c1':1≠b.size:=fun z=>c1 (by rw[←z];rfl)
 have c2':1≠a.size:=fun z=>c2 (by rw[←z];rfl)
 refine kE (vF ?_);refine kE (uz (pW
  (I:=fun x(c:Option (Array Keyed)×Array Keyed×Nat×Nat×Nat) st'=>(c.1=none/\J c.2.1 c.2.2.1 c.2.2.2.1/\c.2.2.1+1<a.size/\c.2.2.2.1<b.size/\x+1<=c.2.2.1+c.2.2.2.1)/\∃g,st'=gSt st g)
  (Q:=fun c st'=>∃r,c.1=some r/\R r/\∃g,st'=gSt st g) ?_ ?_ ⟨⟨rfl,L.z b1,by show 0+1<_;omega,by show 1<_;omega,by show 0+1<=0+1;omega⟩,_,rfl⟩) ?_)
 ·rintro x ⟨r0,out,ia,ib,mg⟩ st' _ hx ⟨⟨e0,hp,hia,hib,hlo⟩,g,rfl⟩;dsimp only at e0 hp hia hib hlo⊢;refine kE (uz (pW
   (I:=fun y(c:Option (Array Keyed)×Array Keyed×Nat×Nat×Nat×Nat) st'=>(c.1=none/\J c.2.1 c.2.2.1 c.2.2.2.1/\c.2.2.1+1<a.size/\c.2.2.2.1<b.size/\ia+ib+min y 1<=c.2.2.1+c.2.2.2.1)/\∃g,st'=gSt st g)
   (Q:=fun c st'=>((∃r,c.1=some r/\R r)∨(c.1=none/\J c.2.1 c.2.2.1 c.2.2.2.1/\c.2.2.1+1<a.size/\c.2.2.2.1<b.size/\ia+ib+1<=c.2.2.1+c.2.2.2.1))/\∃g,st'=gSt st g) ?_ ?_ ⟨⟨rfl,hp,hia,hib,by show ia+ib+min 0 1<=ia+ib;omega⟩,_,rfl⟩) ?_)
  ·rintro y ⟨r1,out,ja,jb,ac,bc⟩ st' _ hy ⟨⟨e1,hp,hja,hjb,hl1⟩,g,rfl⟩;dsimp only at e1 hp hja hjb hl1⊢;refine kE (el_at hjb (kE (el_at (show ja<a.size by omega) (kE (hq _ _ _ _ (eb hjb) (ea (by omega)) hκ ?_)))))
   cases ebw:an b[jb] a[ja] with
   |true=>
    refine kE (el_at hjb ?_)
    try dsimp only
    have hp1:=L.b1 hp (by omega) hjb ebw
    by_cases d:(jb+1==b.size)=true
    ·rw[if_pos d];exact kD ⟨.inl ⟨_,rfl,L.done hp1 (.inl (pA d))⟩,_,rfl⟩
    rw[if_neg d];have d':jb+1≠b.size:=fun z=>d (by rw[z];exact beq_self_eq_true _)
    by_cases f:bc+1≥mg
    ·rw[if_pos f];exact kD ⟨.inr ⟨rfl,hp1,hja,(by show jb+1<b.size;omega),(by show ia+ib+1<=ja+(jb+1);omega)⟩,_,rfl⟩
    ·rw[if_neg f];exact kD ⟨⟨rfl,hp1,hja,(by show jb+1<b.size;omega),(by show ia+ib+min (y+1) 1<=ja+(jb+1);omega)⟩,_,rfl⟩
   |false=>
    refine kE (el_at (show ja<a.size by omega) ?_)
    try dsimp only
    have hp1:=L.a1 hp (by omega) hjb ebw
    by_cases d:(ja+1+1==a.size)=true
    ·rw[if_pos d];exact kD ⟨.inl ⟨_,rfl,L.last hp1 (pA d)⟩,_,rfl⟩
    rw[if_neg d];have d':ja+1+1≠a.size:=fun z=>d (by rw[z];exact beq_self_eq_true _)
    by_cases f:ac+1≥mg
    ·rw[if_pos f];exact kD ⟨.inr ⟨rfl,hp1,(by show ja+1+1<a.size;omega),hjb,(by show ia+ib+1<=ja+1+jb;omega)⟩,_,rfl⟩
    ·rw[if_neg f];exact kD ⟨⟨rfl,hp1,(by show ja+1+1<a.size;omega),hjb,(by show ia+ib+min (y+1) 1<=ja+1+jb;omega)⟩,_,rfl⟩
  ·rintro c st' ⟨⟨e1,hp,hja,hjb,hl1⟩,g⟩;exact⟨.inr ⟨e1,hp,hja,hjb,by omega⟩,g⟩
  ·rintro⟨r1,out,ja,jb,ac,bc⟩ st' ⟨hc,g,rfl⟩;dsimp only at hc⊢;rcases hc with⟨r,rfl,hr⟩|⟨rfl,hp,hja,hjb,hl1⟩
   ·exact kD ⟨r,rfl,hr,_,rfl⟩
   dsimp only;refine kE (jR (Qa ⟨rfl,?_⟩));refine kE (uz (pW
    (I:=fun y(c:Option (Array Keyed)×Array Keyed×Nat×Nat×Nat×Nat×Nat) st'=>(c.1=none/\J c.2.1 c.2.2.1 c.2.2.2.1/\c.2.2.1+1<a.size/\c.2.2.2.1<b.size/\ia+ib+1<=c.2.2.1+c.2.2.2.1)/\∃g,st'=gSt st g)
    (Q:=fun c st'=>((∃r,c.1=some r/\R r)∨(c.1=none/\J c.2.1 c.2.2.1 c.2.2.2.1/\c.2.2.1+1<a.size/\c.2.2.2.1<b.size/\ia+ib+1<=c.2.2.1+c.2.2.2.1))/\∃g,st'=gSt st g) ?_ (fun c st' z=>⟨.inr z.1,z.2⟩) ⟨⟨rfl,hp,hja,hjb,hl1⟩,_,rfl⟩) ?_)
   ·rintro y ⟨r2,out,ka,kb,mg2,ac2,bc2⟩ st' _ hy ⟨⟨e2,hp,hka,hkb,hl2⟩,g,rfl⟩;dsimp only at e2 hp hka hkb hl2⊢
    by_cases mm:mg2>1
    ·rw[if_pos mm];refine kE (uH ?_);refine kE (el_at hkb ?_);refine kE (galR T hq (eb hkb) ha (by omega) (by omega) hκ (zc6 sa (by omega)) fun k hk t1 t2=>?_)
     try dsimp only
     by_cases k0:k>0
     ·rw[if_pos k0];have hp1:=L.ak hp hkb (by omega) t1
      by_cases d1:(ka+k+1==a.size)=true
      ·rw[if_pos d1];exact kD ⟨.inl ⟨_,rfl,L.last hp1 (pA d1)⟩,_,rfl⟩
      rw[if_neg d1];have d1':ka+k+1≠a.size:=fun z=>d1 (by rw[z];exact beq_self_eq_true _)
      by_cases d2:(ka+k==a.size)=true
      ·rw[if_pos d2];exact kD ⟨.inl ⟨_,rfl,L.done hp1 (.inr (pA d2))⟩,_,rfl⟩
      rw[if_neg d2];have d2':ka+k≠a.size:=fun z=>d2 (by rw[z];exact beq_self_eq_true _)
      refine kE (el_at hkb ?_)
      try dsimp only
      have hp2:=L.b1 hp1 (by omega) hkb (t2 k (kI _) (by omega) (by omega))
      by_cases d3:(kb+1==b.size)=true
      ·rw[if_pos d3];exact kD ⟨.inl ⟨_,rfl,L.done hp2 (.inl (pA d3))⟩,_,rfl⟩
      rw[if_neg d3];have d3':kb+1≠b.size:=fun z=>d3 (by rw[z];exact beq_self_eq_true _)
      refine kE (el_at (show ka+k<a.size by omega) ?_)
      refine kE (galL T hq (ea (by omega)) hb (by omega) (by omega) hκ (zc6 sb (by omega)) fun k2 hk2 u1 u2=>?_)
      try dsimp only
      by_cases k20:k2>0
      ·rw[if_pos k20];have hp3:=L.bk hp2 (by omega) (by omega) u1
       by_cases d4:(kb+1+k2==b.size)=true
       ·rw[if_pos d4];exact kD ⟨.inl ⟨_,rfl,L.done hp3 (.inl (pA d4))⟩,_,rfl⟩
       rw[if_neg d4];have d4':kb+1+k2≠b.size:=fun z=>d4 (by rw[z];exact beq_self_eq_true _)
       refine kE (el_at (show ka+k<a.size by omega) ?_)
       try dsimp only
       have hp4:=L.a1 hp3 (by omega) (by omega) (u2 k2 (kI _) (by omega) (by omega))
       by_cases d5:(ka+k+1+1==a.size)=true
       ·rw[if_pos d5];exact kD ⟨.inl ⟨_,rfl,L.last hp4 (pA d5)⟩,_,rfl⟩
       rw[if_neg d5];have d5':ka+k+1+1≠a.size:=fun z=>d5 (by rw[z];exact beq_self_eq_true _)
       by_cases d6:(decide (k<7)&&decide (k2<7))=true
       ·rw[if_pos d6];exact kD ⟨.inr ⟨rfl,hp4,(by show ka+k+1+1<a.size;omega),(by show kb+1+k2<b.size;omega),(by show ia+ib+1<=ka+k+1+(kb+1+k2);omega)⟩,_,rfl⟩
       ·rw[if_neg d6];exact kD ⟨⟨rfl,hp4,(by show ka+k+1+1<a.size;omega),(by show kb+1+k2<b.size;omega),(by show ia+ib+1<=ka+k+1+(kb+1+k2);omega)⟩,_,rfl⟩
      ·rw[if_neg k20];refine kE (el_at (show ka+k<a.size by omega) ?_)
       try dsimp only
       have hp4:=L.a1 hp2 (by omega) (by omega) (u2 0 (by omega) (by omega) (by omega))
       by_cases d5:(ka+k+1+1==a.size)=true
       ·rw[if_pos d5];exact kD ⟨.inl ⟨_,rfl,L.last hp4 (pA d5)⟩,_,rfl⟩
       rw[if_neg d5];have d5':ka+k+1+1≠a.size:=fun z=>d5 (by rw[z];exact beq_self_eq_true _)
       by_cases d6:(decide (k<7)&&decide (k2<7))=true
       ·rw[if_pos d6];exact kD ⟨.inr ⟨rfl,hp4,(by show ka+k+1+1<a.size;omega),(by show kb+1<b.size;omega),(by show ia+ib+1<=ka+k+1+(kb+1);omega)⟩,_,rfl⟩
       ·rw[if_neg d6];exact kD ⟨⟨rfl,hp4,(by show ka+k+1+1<a.size;omega),(by show kb+1<b.size;omega),(by show ia+ib+1<=ka+k+1+(kb+1);omega)⟩,_,rfl⟩
     ·rw[if_neg k0];refine kE (el_at hkb ?_)
      try dsimp only
      have hp2:=L.b1 hp (by omega) hkb (t2 0 (by omega) (by omega) (by omega))
      by_cases d3:(kb+1==b.size)=true
      ·rw[if_pos d3];exact kD ⟨.inl ⟨_,rfl,L.done hp2 (.inl (pA d3))⟩,_,rfl⟩
      rw[if_neg d3];have d3':kb+1≠b.size:=fun z=>d3 (by rw[z];exact beq_self_eq_true _)
      refine kE (el_at (show ka<a.size by omega) ?_)
      refine kE (galL T hq (ea (by omega)) hb (by omega) (by omega) hκ (zc6 sb (by omega)) fun k2 hk2 u1 u2=>?_)
      try dsimp only
      by_cases k20:k2>0
      ·rw[if_pos k20];have hp3:=L.bk hp2 (by omega) (by omega) u1
       by_cases d4:(kb+1+k2==b.size)=true
       ·rw[if_pos d4];exact kD ⟨.inl ⟨_,rfl,L.done hp3 (.inl (pA d4))⟩,_,rfl⟩
       rw[if_neg d4];have d4':kb+1+k2≠b.size:=fun z=>d4 (by rw[z];exact beq_self_eq_true _)
       refine kE (el_at (show ka<a.size by omega) ?_)
       try dsimp only
       have hp4:=L.a1 hp3 (by omega) (by omega) (u2 k2 (kI _) (by omega) (by omega))
       by_cases d5:(ka+1+1==a.size)=true
       ·rw[if_pos d5];exact kD ⟨.inl ⟨_,rfl,L.last hp4 (pA d5)⟩,_,rfl⟩
       rw[if_neg d5];have d5':ka+1+1≠a.size:=fun z=>d5 (by rw[z];exact beq_self_eq_true _)
       by_cases d6:(decide (k<7)&&decide (k2<7))=true
       ·rw[if_pos d6];exact kD ⟨.inr ⟨rfl,hp4,(by show ka+1+1<a.size;omega),(by show kb+1+k2<b.size;omega),(by show ia+ib+1<=ka+1+(kb+1+k2);omega)⟩,_,rfl⟩
       ·rw[if_neg d6];exact kD ⟨⟨rfl,hp4,(by show ka+1+1<a.size;omega),(by show kb+1+k2<b.size;omega),(by show ia+ib+1<=ka+1+(kb+1+k2);omega)⟩,_,rfl⟩
      ·rw[if_neg k20];refine kE (el_at (show ka<a.size by omega) ?_)
       try dsimp only
       have hp4:=L.a1 hp2 (by omega) (by omega) (u2 0 (by omega) (by omega) (by omega))
       by_cases d5:(ka+1+1==a.size)=true
       ·rw[if_pos d5];exact kD ⟨.inl ⟨_,rfl,L.last hp4 (pA d5)⟩,_,rfl⟩
       rw[if_neg d5];have d5':ka+1+1≠a.size:=fun z=>d5 (by rw[z];exact beq_self_eq_true _)
       by_cases d6:(decide (k<7)&&decide (k2<7))=true
       ·rw[if_pos d6];exact kD ⟨.inr ⟨rfl,hp4,(by show ka+1+1<a.size;omega),(by show kb+1<b.size;omega),(by show ia+ib+1<=ka+1+(kb+1);omega)⟩,_,rfl⟩
       ·rw[if_neg d6];exact kD ⟨⟨rfl,hp4,(by show ka+1+1<a.size;omega),(by show kb+1<b.size;omega),(by show ia+ib+1<=ka+1+(kb+1);omega)⟩,_,rfl⟩
    ·rw[if_neg mm];refine kE (uH ?_);refine kE (el_at hkb ?_);refine kE (galR T hq (eb hkb) ha (by omega) (by omega) hκ (zc6 sa (by omega)) fun k hk t1 t2=>?_)
     try dsimp only
     by_cases k0:k>0
     ·rw[if_pos k0];have hp1:=L.ak hp hkb (by omega) t1
      by_cases d1:(ka+k+1==a.size)=true
      ·rw[if_pos d1];exact kD ⟨.inl ⟨_,rfl,L.last hp1 (pA d1)⟩,_,rfl⟩
      rw[if_neg d1];have d1':ka+k+1≠a.size:=fun z=>d1 (by rw[z];exact beq_self_eq_true _)
      by_cases d2:(ka+k==a.size)=true
      ·rw[if_pos d2];exact kD ⟨.inl ⟨_,rfl,L.done hp1 (.inr (pA d2))⟩,_,rfl⟩
      rw[if_neg d2];have d2':ka+k≠a.size:=fun z=>d2 (by rw[z];exact beq_self_eq_true _)
      refine kE (el_at hkb ?_)
      try dsimp only
      have hp2:=L.b1 hp1 (by omega) hkb (t2 k (kI _) (by omega) (by omega))
      by_cases d3:(kb+1==b.size)=true
      ·rw[if_pos d3];exact kD ⟨.inl ⟨_,rfl,L.done hp2 (.inl (pA d3))⟩,_,rfl⟩
      rw[if_neg d3];have d3':kb+1≠b.size:=fun z=>d3 (by rw[z];exact beq_self_eq_true _)
      refine kE (el_at (show ka+k<a.size by omega) ?_)
      refine kE (galL T hq (ea (by omega)) hb (by omega) (by omega) hκ (zc6 sb (by omega)) fun k2 hk2 u1 u2=>?_)
      try dsimp only
      by_cases k20:k2>0
      ·rw[if_pos k20];have hp3:=L.bk hp2 (by omega) (by omega) u1
       by_cases d4:(kb+1+k2==b.size)=true
       ·rw[if_pos d4];exact kD ⟨.inl ⟨_,rfl,L.done hp3 (.inl (pA d4))⟩,_,rfl⟩
       rw[if_neg d4];have d4':kb+1+k2≠b.size:=fun z=>d4 (by rw[z];exact beq_self_eq_true _)
       refine kE (el_at (show ka+k<a.size by omega) ?_)
       try dsimp only
       have hp4:=L.a1 hp3 (by omega) (by omega) (u2 k2 (kI _) (by omega) (by omega))
       by_cases d5:(ka+k+1+1==a.size)=true
       ·rw[if_pos d5];exact kD ⟨.inl ⟨_,rfl,L.last hp4 (pA d5)⟩,_,rfl⟩
       rw[if_neg d5];have d5':ka+k+1+1≠a.size:=fun z=>d5 (by rw[z];exact beq_self_eq_true _)
       by_cases d6:(decide (k<7)&&decide (k2<7))=true
       ·rw[if_pos d6];exact kD ⟨.inr ⟨rfl,hp4,(by show ka+k+1+1<a.size;omega),(by show kb+1+k2<b.size;omega),(by show ia+ib+1<=ka+k+1+(kb+1+k2);omega)⟩,_,rfl⟩
       ·rw[if_neg d6];exact kD ⟨⟨rfl,hp4,(by show ka+k+1+1<a.size;omega),(by show kb+1+k2<b.size;omega),(by show ia+ib+1<=ka+k+1+(kb+1+k2);omega)⟩,_,rfl⟩
      ·rw[if_neg k20];refine kE (el_at (show ka+k<a.size by omega) ?_)
       try dsimp only
       have hp4:=L.a1 hp2 (by omega) (by omega) (u2 0 (by omega) (by omega) (by omega))
       by_cases d5:(ka+k+1+1==a.size)=true
       ·rw[if_pos d5];exact kD ⟨.inl ⟨_,rfl,L.last hp4 (pA d5)⟩,_,rfl⟩
       rw[if_neg d5];have d5':ka+k+1+1≠a.size:=fun z=>d5 (by rw[z];exact beq_self_eq_true _)
       by_cases d6:(decide (k<7)&&decide (k2<7))=true
       ·rw[if_pos d6];exact kD ⟨.inr ⟨rfl,hp4,(by show ka+k+1+1<a.size;omega),(by show kb+1<b.size;omega),(by show ia+ib+1<=ka+k+1+(kb+1);omega)⟩,_,rfl⟩
       ·rw[if_neg d6];exact kD ⟨⟨rfl,hp4,(by show ka+k+1+1<a.size;omega),(by show kb+1<b.size;omega),(by show ia+ib+1<=ka+k+1+(kb+1);omega)⟩,_,rfl⟩
     ·rw[if_neg k0];refine kE (el_at hkb ?_)
      try dsimp only
      have hp2:=L.b1 hp (by omega) hkb (t2 0 (by omega) (by omega) (by omega))
      by_cases d3:(kb+1==b.size)=true
      ·rw[if_pos d3];exact kD ⟨.inl ⟨_,rfl,L.done hp2 (.inl (pA d3))⟩,_,rfl⟩
      rw[if_neg d3];have d3':kb+1≠b.size:=fun z=>d3 (by rw[z];exact beq_self_eq_true _)
      refine kE (el_at (show ka<a.size by omega) ?_)
      refine kE (galL T hq (ea (by omega)) hb (by omega) (by omega) hκ (zc6 sb (by omega)) fun k2 hk2 u1 u2=>?_)
      try dsimp only
      by_cases k20:k2>0
      ·rw[if_pos k20];have hp3:=L.bk hp2 (by omega) (by omega) u1
       by_cases d4:(kb+1+k2==b.size)=true
       ·rw[if_pos d4];exact kD ⟨.inl ⟨_,rfl,L.done hp3 (.inl (pA d4))⟩,_,rfl⟩
       rw[if_neg d4];have d4':kb+1+k2≠b.size:=fun z=>d4 (by rw[z];exact beq_self_eq_true _)
       refine kE (el_at (show ka<a.size by omega) ?_)
       try dsimp only
       have hp4:=L.a1 hp3 (by omega) (by omega) (u2 k2 (kI _) (by omega) (by omega))
       by_cases d5:(ka+1+1==a.size)=true
       ·rw[if_pos d5];exact kD ⟨.inl ⟨_,rfl,L.last hp4 (pA d5)⟩,_,rfl⟩
       rw[if_neg d5];have d5':ka+1+1≠a.size:=fun z=>d5 (by rw[z];exact beq_self_eq_true _)
       by_cases d6:(decide (k<7)&&decide (k2<7))=true
       ·rw[if_pos d6];exact kD ⟨.inr ⟨rfl,hp4,(by show ka+1+1<a.size;omega),(by show kb+1+k2<b.size;omega),(by show ia+ib+1<=ka+1+(kb+1+k2);omega)⟩,_,rfl⟩
       ·rw[if_neg d6];exact kD ⟨⟨rfl,hp4,(by show ka+1+1<a.size;omega),(by show kb+1+k2<b.size;omega),(by show ia+ib+1<=ka+1+(kb+1+k2);omega)⟩,_,rfl⟩
      ·rw[if_neg k20];refine kE (el_at (show ka<a.size by omega) ?_)
       try dsimp only
       have hp4:=L.a1 hp2 (by omega) (by omega) (u2 0 (by omega) (by omega) (by omega))
       by_cases d5:(ka+1+1==a.size)=true
       ·rw[if_pos d5];exact kD ⟨.inl ⟨_,rfl,L.last hp4 (pA d5)⟩,_,rfl⟩
       rw[if_neg d5];have d5':ka+1+1≠a.size:=fun z=>d5 (by rw[z];exact beq_self_eq_true _)
       by_cases d6:(decide (k<7)&&decide (k2<7))=true
       ·rw[if_pos d6];exact kD ⟨.inr ⟨rfl,hp4,(by show ka+1+1<a.size;omega),(by show kb+1<b.size;omega),(by show ia+ib+1<=ka+1+(kb+1);omega)⟩,_,rfl⟩
       ·rw[if_neg d6];exact kD ⟨⟨rfl,hp4,(by show ka+1+1<a.size;omega),(by show kb+1<b.size;omega),(by show ia+ib+1<=ka+1+(kb+1);omega)⟩,_,rfl⟩
   ·rintro⟨r2,out,ka,kb,mg2,ac2,bc2⟩ st' ⟨hc,g,rfl⟩;dsimp only at hc⊢;rcases hc with⟨r,rfl,hr⟩|⟨rfl,hp,hka,hkb,hl2⟩
    ·exact kD ⟨r,rfl,hr,_,rfl⟩
    dsimp only;refine kE (uH (kD ⟨⟨rfl,hp,hka,hkb,(by show x+1+1<=ka+kb;omega)⟩,_,rfl⟩))
 ·rintro c st' ⟨⟨e0,hp,hia,hib,hlo⟩,_⟩
  exfalso
  omega
 ·rintro⟨r0,out,ia,ib,mg⟩ st' ⟨r,e,hr,g,rfl⟩;dsimp only at e⊢;subst e;exact kD (h r g hr)
end
section
variable{prog:Program}{w:World}{A:Around}{E:Value->Shared->Prop}{s:Shared}{a₀:Array Keyed}{κ:SortKind}{an:Keyed->Keyed->Bool}
structure HiIv(an:Keyed->Keyed->Bool)(a b:Array Keyed)(J:Array Keyed->Nat->Nat->Prop)(R:Array Keyed->Prop):Prop where
 z:∀h:0<a.size,J #[a[a.size-1]] (a.size-1) b.size
 le:∀{out na nb},J out na nb->na<=a.size/\nb<=b.size
 done:∀{out na nb},J out na nb->na=0∨nb=0->R (a.extract 0 na++b.extract 0 nb++out.reverse)
 first:∀{out na nb},J out na nb->nb=1->R (b.extract 0 nb++a.extract 0 na++out.reverse)
 a1:∀{out na nb},J out na nb->∀(_:0<na)(_:0<nb)(ha:na-1<a.size)(hb:nb-1<b.size),an b[nb-1] a[na-1]=true->J (out.push a[na-1]) (na-1) nb
 b1:∀{out na nb},J out na nb->∀(_:0<na)(_:0<nb)(ha:na-1<a.size)(hb:nb-1<b.size),an b[nb-1] a[na-1]=false->J (out.push b[nb-1]) na (nb-1)
 ak:∀{out na nb k},J out na nb->∀(_:0<nb)(hb:nb-1<b.size),k<=na->(∀i,k<=i->i<na->∀(h:0+i<a.size),an b[nb-1] a[0+i]=true)->J (out++(a.extract k na).reverse) k nb
 bk:∀{out na nb k},J out na nb->∀(_:0<na)(ha:na-1<a.size),k<=nb->(∀i,k<=i->i<nb->∀(h:0+i<b.size),an b[0+i] a[na-1]=false)->J (out++(b.extract k nb).reverse) na k
theorem hiG(T:WkT an)(hq:QR prog w A E s κ a₀ an){J:Array Keyed->Nat->Nat->Prop}{R:Array Keyed->Prop}{a b:Array Keyed}{st:SortSt}{Q:Array Keyed->SortSt->Prop}(ha:∀x,x∈a->x∈a₀)(hb:∀x,x∈b->x∈a₀)(a1:0<a.size)(b1:0<b.size)(hκ:kindOf st=κ)(L:HiIv an a b J R)(sa:SrtS an a 0 a.size)(sb:SrtS an b 0 b.size)
  (h:∀r g,R r->Q r (gSt st g)):wpS (model prog w) A E s (mergeHi' a b) Q st:=by
 have ea:∀{i:Nat}(h:i<a.size),a[i]∈a₀:=fun h=>ha _ (QD h);have eb:∀{i:Nat}(h:i<b.size),b[i]∈a₀:=fun h=>hb _ (QD h);have est:gSt st (gallopOf st)=st:=rfl;refine kE (jR (Qa ⟨rfl,?_⟩));refine kE (el_at (show a.size-1<a.size by omega) ?_)
 try dsimp only
 by_cases c1:(a.size-1==0)=true
 ·rw[if_pos c1];exact kD (est▸h _ (gallopOf st) (L.done (L.z a1) (.inl (pA c1))))
 rw[if_neg c1]
 by_cases c2:(b.size==1)=true
 ·rw[if_pos c2]
  exact kD (est▸h _ (gallopOf st) (L.first (L.z a1) (pA c2)))
 rw[if_neg c2];have c1':a.size-1≠0:=fun z=>c1 (by rw[z];rfl)
 have c2':b.size≠1:=fun z=>c2 (by rw[z];rfl)
 refine kE (vF ?_);refine kE (uz (pW
  (I:=fun x(c:Option (Array Keyed)×Nat×Nat×Array Keyed×Nat) st'=>((c.1=none/\J c.2.2.2.1 c.2.1 c.2.2.1/\0<c.2.1/\1<c.2.2.1)/\c.2.1+c.2.2.1+x+1<=a.size+b.size)/\∃g,st'=gSt st g)
  (Q:=fun c st'=>∃r,c.1=some r/\R r/\∃g,st'=gSt st g) ?_ ?_ ⟨⟨⟨rfl,L.z a1,by show 0<a.size-1;omega,by show 1<b.size;omega⟩,by show a.size-1+b.size+0+1<=_;omega⟩,_,rfl⟩) ?_)
 ·rintro x ⟨r0,na,nb,out,mg⟩ st' _ hx ⟨⟨⟨e0,hp,hna,hnb⟩,hlo⟩,g,rfl⟩;dsimp only at e0 hp hna hnb hlo⊢;have lna:=(L.le hp).1;have lnb:=(L.le hp).2;refine kE (uz (pW
   (I:=fun y(c:Option (Array Keyed)×Nat×Nat×Array Keyed×Nat×Nat) st'=>((c.1=none/\J c.2.2.2.1 c.2.1 c.2.2.1/\0<c.2.1/\1<c.2.2.1)/\c.2.1+c.2.2.1+min y 1<=na+nb)/\∃g,st'=gSt st g)
   (Q:=fun c st'=>((∃r,c.1=some r/\R r)∨((c.1=none/\J c.2.2.2.1 c.2.1 c.2.2.1/\0<c.2.1/\1<c.2.2.1)/\c.2.1+c.2.2.1+1<=na+nb))/\∃g,st'=gSt st g) ?_ ?_ ⟨⟨⟨rfl,hp,hna,hnb⟩,by show na+nb+min 0 1<=na+nb;omega⟩,_,rfl⟩) ?_)
  ·rintro y ⟨r1,ja,jb,out,ac,bc⟩ st' _ hy ⟨⟨⟨e1,hp,hja,hjb⟩,hl1⟩,g,rfl⟩;dsimp only at e1 hp hja hjb hl1⊢;have lja:=(L.le hp).1;have ljb:=(L.le hp).2;refine kE (el_at (show jb-1<b.size by omega) (kE (el_at (show ja-1<a.size by omega) (kE (hq _ _ _ _ (eb (by omega)) (ea (by omega)) hκ ?_)))))
   cases ebw:an b[jb-1] a[ja-1] with
   |true=>
    refine kE (el_at (show ja-1<a.size by omega) ?_)
    try dsimp only
    have hp1:=L.a1 hp hja (by omega) (by omega) (by omega) ebw
    by_cases d:(ja-1==0)=true
    ·rw[if_pos d];exact kD ⟨.inl ⟨_,rfl,L.done hp1 (.inl (pA d))⟩,_,rfl⟩
    rw[if_neg d];have d':ja-1≠0:=fun z=>d (by rw[z];rfl)
    by_cases f:ac+1≥mg
    ·rw[if_pos f];exact kD ⟨.inr ⟨⟨rfl,hp1,(by show 0<ja-1;omega),hjb⟩,(by show ja-1+jb+1<=na+nb;omega)⟩,_,rfl⟩
    ·rw[if_neg f];exact kD ⟨⟨⟨rfl,hp1,(by show 0<ja-1;omega),hjb⟩,(by show ja-1+jb+min (y+1) 1<=na+nb;omega)⟩,_,rfl⟩
   |false=>
    refine kE (el_at (show jb-1<b.size by omega) ?_)
    try dsimp only
    have hp1:=L.b1 hp hja (by omega) (by omega) (by omega) ebw
    by_cases d:(jb-1==1)=true
    ·rw[if_pos d]
     exact kD ⟨.inl ⟨_,rfl,L.first hp1 (pA d)⟩,_,rfl⟩
    rw[if_neg d];have d':jb-1≠1:=fun z=>d (by rw[z];rfl)
    by_cases f:bc+1≥mg
    ·rw[if_pos f];exact kD ⟨.inr ⟨⟨rfl,hp1,hja,(by show 1<jb-1;omega)⟩,(by show ja+(jb-1)+1<=na+nb;omega)⟩,_,rfl⟩
    ·rw[if_neg f];exact kD ⟨⟨⟨rfl,hp1,hja,(by show 1<jb-1;omega)⟩,(by show ja+(jb-1)+min (y+1) 1<=na+nb;omega)⟩,_,rfl⟩
  ·rintro c st' ⟨⟨i1,hl1⟩,g⟩;exact⟨.inr ⟨i1,by omega⟩,g⟩
  ·rintro⟨r1,ja,jb,out,ac,bc⟩ st' ⟨hc,g,rfl⟩;dsimp only at hc⊢;rcases hc with⟨r,rfl,hr⟩|⟨⟨rfl,hp,hja,hjb⟩,hl1⟩
   ·exact kD ⟨r,rfl,hr,_,rfl⟩
   dsimp only;refine kE (jR (Qa ⟨rfl,?_⟩));refine kE (uz (pW
    (I:=fun y(c:Option (Array Keyed)×Nat×Nat×Array Keyed×Nat×Nat×Nat) st'=>((c.1=none/\J c.2.2.2.1 c.2.1 c.2.2.1/\0<c.2.1/\1<c.2.2.1)/\c.2.1+c.2.2.1+1<=na+nb)/\∃g,st'=gSt st g)
    (Q:=fun c st'=>((∃r,c.1=some r/\R r)∨((c.1=none/\J c.2.2.2.1 c.2.1 c.2.2.1/\0<c.2.1/\1<c.2.2.1)/\c.2.1+c.2.2.1+1<=na+nb))/\∃g,st'=gSt st g) ?_ (fun c st' z=>⟨.inr z.1,z.2⟩) ⟨⟨⟨rfl,hp,hja,hjb⟩,hl1⟩,_,rfl⟩) ?_)
   ·rintro y ⟨r2,ka,kb,out,mg2,ac2,bc2⟩ st' _ hy ⟨⟨⟨e2,hp,hka,hkb⟩,hl2⟩,g,rfl⟩;dsimp only at e2 hp hka hkb hl2⊢;have lka:=(L.le hp).1;have lkb:=(L.le hp).2
    by_cases mm:mg2>1
    ·rw[if_pos mm];refine kE (uH ?_);refine kE (el_at (show kb-1<b.size by omega) ?_)
     refine kE (galR T hq (eb (by omega)) ha (by omega) (by omega) hκ (zc6 sa (by omega)) fun k hk t1 t2=>?_)
     try dsimp only
     by_cases k0:ka-k>0
     ·rw[if_pos k0];have hp1:=L.ak hp (by omega) (by omega) hk t2
      by_cases d1:(k==0)=true
      ·rw[if_pos d1];exact kD ⟨.inl ⟨_,rfl,L.done hp1 (.inl (pA d1))⟩,_,rfl⟩
      rw[if_neg d1];have d1':k≠0:=fun z=>d1 (by rw[z];rfl)
      refine kE (el_at (show kb-1<b.size by omega) ?_)
      try dsimp only
      have hp2:=L.b1 hp1 (by omega) (by omega) (by omega) (by omega) (by have:=t1 (k-1) (by omega) (by omega);simpa using this)
      by_cases d3:(kb-1==1)=true
      ·rw[if_pos d3]
       exact kD ⟨.inl ⟨_,rfl,L.first hp2 (pA d3)⟩,_,rfl⟩
      rw[if_neg d3];have d3':kb-1≠1:=fun z=>d3 (by rw[z];rfl)
      refine kE (el_at (show k-1<a.size by omega) ?_)
      refine kE (galL T hq (ea (by omega)) hb (by omega) (by omega) hκ (zc6 sb (by omega)) fun k2 hk2 u1 u2=>?_)
      try dsimp only
      by_cases k20:kb-1-k2>0
      ·rw[if_pos k20];have hp3:=L.bk hp2 (by omega) (by omega) hk2 u2
       by_cases d4:(k2==1)=true
       ·rw[if_pos d4]
        exact kD ⟨.inl ⟨_,rfl,L.first hp3 (pA d4)⟩,_,rfl⟩
       rw[if_neg d4];have d4':k2≠1:=fun z=>d4 (by rw[z];rfl)
       by_cases d7:(k2==0)=true
       ·rw[if_pos d7];exact kD ⟨.inl ⟨_,rfl,L.done hp3 (.inr (pA d7))⟩,_,rfl⟩
       rw[if_neg d7];have d7':k2≠0:=fun z=>d7 (by rw[z];rfl)
       refine kE (el_at (show k-1<a.size by omega) ?_)
       try dsimp only
       have hp4:=L.a1 hp3 (by omega) (by omega) (by omega) (by omega) (by have:=u1 (k2-1) (by omega) (by omega);simpa using this)
       by_cases d5:(k-1==0)=true
       ·rw[if_pos d5];exact kD ⟨.inl ⟨_,rfl,L.done hp4 (.inl (pA d5))⟩,_,rfl⟩
       rw[if_neg d5];have d5':k-1≠0:=fun z=>d5 (by rw[z];rfl)
       by_cases d6:(decide (ka-k<7)&&decide (kb-1-k2<7))=true
       ·rw[if_pos d6];exact kD ⟨.inr ⟨⟨rfl,hp4,(by show 0<k-1;omega),(by show 1<k2;omega)⟩,(by show k-1+(k2)+1<=na+nb;omega)⟩,_,rfl⟩
       ·rw[if_neg d6];exact kD ⟨⟨⟨rfl,hp4,(by show 0<k-1;omega),(by show 1<k2;omega)⟩,(by show k-1+(k2)+1<=na+nb;omega)⟩,_,rfl⟩
      ·rw[if_neg k20];refine kE (el_at (show k-1<a.size by omega) ?_)
       try dsimp only
       have hp4:=L.a1 hp2 (by omega) (by omega) (by omega) (by omega) (by have:=u1 (kb-1-1) (by omega) (by omega);simpa using this)
       by_cases d5:(k-1==0)=true
       ·rw[if_pos d5];exact kD ⟨.inl ⟨_,rfl,L.done hp4 (.inl (pA d5))⟩,_,rfl⟩
       rw[if_neg d5];have d5':k-1≠0:=fun z=>d5 (by rw[z];rfl)
       by_cases d6:(decide (ka-k<7)&&decide (kb-1-k2<7))=true
       ·rw[if_pos d6];exact kD ⟨.inr ⟨⟨rfl,hp4,(by show 0<k-1;omega),(by show 1<kb-1;omega)⟩,(by show k-1+(kb-1)+1<=na+nb;omega)⟩,_,rfl⟩
       ·rw[if_neg d6];exact kD ⟨⟨⟨rfl,hp4,(by show 0<k-1;omega),(by show 1<kb-1;omega)⟩,(by show k-1+(kb-1)+1<=na+nb;omega)⟩,_,rfl⟩
     ·rw[if_neg k0];refine kE (el_at (show kb-1<b.size by omega) ?_)
      try dsimp only
      have hp2:=L.b1 hp (by omega) (by omega) (by omega) (by omega) (by have:=t1 (ka-1) (by omega) (by omega);simpa using this)
      by_cases d3:(kb-1==1)=true
      ·rw[if_pos d3]
       exact kD ⟨.inl ⟨_,rfl,L.first hp2 (pA d3)⟩,_,rfl⟩
      rw[if_neg d3];have d3':kb-1≠1:=fun z=>d3 (by rw[z];rfl)
      refine kE (el_at (show ka-1<a.size by omega) ?_)
      refine kE (galL T hq (ea (by omega)) hb (by omega) (by omega) hκ (zc6 sb (by omega)) fun k2 hk2 u1 u2=>?_)
      try dsimp only
      by_cases k20:kb-1-k2>0
      ·rw[if_pos k20];have hp3:=L.bk hp2 (by omega) (by omega) hk2 u2
       by_cases d4:(k2==1)=true
       ·rw[if_pos d4]
        exact kD ⟨.inl ⟨_,rfl,L.first hp3 (pA d4)⟩,_,rfl⟩
       rw[if_neg d4];have d4':k2≠1:=fun z=>d4 (by rw[z];rfl)
       by_cases d7:(k2==0)=true
       ·rw[if_pos d7];exact kD ⟨.inl ⟨_,rfl,L.done hp3 (.inr (pA d7))⟩,_,rfl⟩
       rw[if_neg d7];have d7':k2≠0:=fun z=>d7 (by rw[z];rfl)
       refine kE (el_at (show ka-1<a.size by omega) ?_)
       try dsimp only
       have hp4:=L.a1 hp3 (by omega) (by omega) (by omega) (by omega) (by have:=u1 (k2-1) (by omega) (by omega);simpa using this)
       by_cases d5:(ka-1==0)=true
       ·rw[if_pos d5];exact kD ⟨.inl ⟨_,rfl,L.done hp4 (.inl (pA d5))⟩,_,rfl⟩
       rw[if_neg d5];have d5':ka-1≠0:=fun z=>d5 (by rw[z];rfl)
       by_cases d6:(decide (ka-k<7)&&decide (kb-1-k2<7))=true
       ·rw[if_pos d6];exact kD ⟨.inr ⟨⟨rfl,hp4,(by show 0<ka-1;omega),(by show 1<k2;omega)⟩,(by show ka-1+(k2)+1<=na+nb;omega)⟩,_,rfl⟩
       ·rw[if_neg d6];exact kD ⟨⟨⟨rfl,hp4,(by show 0<ka-1;omega),(by show 1<k2;omega)⟩,(by show ka-1+(k2)+1<=na+nb;omega)⟩,_,rfl⟩
      ·rw[if_neg k20];refine kE (el_at (show ka-1<a.size by omega) ?_)
       try dsimp only
       have hp4:=L.a1 hp2 (by omega) (by omega) (by omega) (by omega) (by have:=u1 (kb-1-1) (by omega) (by omega);simpa using this)
       by_cases d5:(ka-1==0)=true
       ·rw[if_pos d5];exact kD ⟨.inl ⟨_,rfl,L.done hp4 (.inl (pA d5))⟩,_,rfl⟩
       rw[if_neg d5];have d5':ka-1≠0:=fun z=>d5 (by rw[z];rfl)
       by_cases d6:(decide (ka-k<7)&&decide (kb-1-k2<7))=true
       ·rw[if_pos d6];exact kD ⟨.inr ⟨⟨rfl,hp4,(by show 0<ka-1;omega),(by show 1<kb-1;omega)⟩,(by show ka-1+(kb-1)+1<=na+nb;omega)⟩,_,rfl⟩
       ·rw[if_neg d6];exact kD ⟨⟨⟨rfl,hp4,(by show 0<ka-1;omega),(by show 1<kb-1;omega)⟩,(by show ka-1+(kb-1)+1<=na+nb;omega)⟩,_,rfl⟩
    ·rw[if_neg mm];refine kE (uH ?_);refine kE (el_at (show kb-1<b.size by omega) ?_)
     refine kE (galR T hq (eb (by omega)) ha (by omega) (by omega) hκ (zc6 sa (by omega)) fun k hk t1 t2=>?_)
     try dsimp only
     by_cases k0:ka-k>0
     ·rw[if_pos k0];have hp1:=L.ak hp (by omega) (by omega) hk t2
      by_cases d1:(k==0)=true
      ·rw[if_pos d1];exact kD ⟨.inl ⟨_,rfl,L.done hp1 (.inl (pA d1))⟩,_,rfl⟩
      rw[if_neg d1];have d1':k≠0:=fun z=>d1 (by rw[z];rfl)
      refine kE (el_at (show kb-1<b.size by omega) ?_)
      try dsimp only
      have hp2:=L.b1 hp1 (by omega) (by omega) (by omega) (by omega) (by have:=t1 (k-1) (by omega) (by omega);simpa using this)
      by_cases d3:(kb-1==1)=true
      ·rw[if_pos d3]
       exact kD ⟨.inl ⟨_,rfl,L.first hp2 (pA d3)⟩,_,rfl⟩
      rw[if_neg d3];have d3':kb-1≠1:=fun z=>d3 (by rw[z];rfl)
      refine kE (el_at (show k-1<a.size by omega) ?_)
      refine kE (galL T hq (ea (by omega)) hb (by omega) (by omega) hκ (zc6 sb (by omega)) fun k2 hk2 u1 u2=>?_)
      try dsimp only
      by_cases k20:kb-1-k2>0
      ·rw[if_pos k20];have hp3:=L.bk hp2 (by omega) (by omega) hk2 u2
       by_cases d4:(k2==1)=true
       ·rw[if_pos d4]
        exact kD ⟨.inl ⟨_,rfl,L.first hp3 (pA d4)⟩,_,rfl⟩
       rw[if_neg d4];have d4':k2≠1:=fun z=>d4 (by rw[z];rfl)
       by_cases d7:(k2==0)=true
       ·rw[if_pos d7];exact kD ⟨.inl ⟨_,rfl,L.done hp3 (.inr (pA d7))⟩,_,rfl⟩
       rw[if_neg d7];have d7':k2≠0:=fun z=>d7 (by rw[z];rfl)
       refine kE (el_at (show k-1<a.size by omega) ?_)
       try dsimp only
       have hp4:=L.a1 hp3 (by omega) (by omega) (by omega) (by omega) (by have:=u1 (k2-1) (by omega) (by omega);simpa using this)
       by_cases d5:(k-1==0)=true
       ·rw[if_pos d5];exact kD ⟨.inl ⟨_,rfl,L.done hp4 (.inl (pA d5))⟩,_,rfl⟩
       rw[if_neg d5];have d5':k-1≠0:=fun z=>d5 (by rw[z];rfl)
       by_cases d6:(decide (ka-k<7)&&decide (kb-1-k2<7))=true
       ·rw[if_pos d6];exact kD ⟨.inr ⟨⟨rfl,hp4,(by show 0<k-1;omega),(by show 1<k2;omega)⟩,(by show k-1+(k2)+1<=na+nb;omega)⟩,_,rfl⟩
       ·rw[if_neg d6];exact kD ⟨⟨⟨rfl,hp4,(by show 0<k-1;omega),(by show 1<k2;omega)⟩,(by show k-1+(k2)+1<=na+nb;omega)⟩,_,rfl⟩
      ·rw[if_neg k20];refine kE (el_at (show k-1<a.size by omega) ?_)
       try dsimp only
       have hp4:=L.a1 hp2 (by omega) (by omega) (by omega) (by omega) (by have:=u1 (kb-1-1) (by omega) (by omega);simpa using this)
       by_cases d5:(k-1==0)=true
       ·rw[if_pos d5];exact kD ⟨.inl ⟨_,rfl,L.done hp4 (.inl (pA d5))⟩,_,rfl⟩
       rw[if_neg d5];have d5':k-1≠0:=fun z=>d5 (by rw[z];rfl)
       by_cases d6:(decide (ka-k<7)&&decide (kb-1-k2<7))=true
       ·rw[if_pos d6];exact kD ⟨.inr ⟨⟨rfl,hp4,(by show 0<k-1;omega),(by show 1<kb-1;omega)⟩,(by show k-1+(kb-1)+1<=na+nb;omega)⟩,_,rfl⟩
       ·rw[if_neg d6];exact kD ⟨⟨⟨rfl,hp4,(by show 0<k-1;omega),(by show 1<kb-1;omega)⟩,(by show k-1+(kb-1)+1<=na+nb;omega)⟩,_,rfl⟩
     ·rw[if_neg k0];refine kE (el_at (show kb-1<b.size by omega) ?_)
      try dsimp only
      have hp2:=L.b1 hp (by omega) (by omega) (by omega) (by omega) (by have:=t1 (ka-1) (by omega) (by omega);simpa using this)
      by_cases d3:(kb-1==1)=true
      ·rw[if_pos d3]
       exact kD ⟨.inl ⟨_,rfl,L.first hp2 (pA d3)⟩,_,rfl⟩
      rw[if_neg d3];have d3':kb-1≠1:=fun z=>d3 (by rw[z];rfl)
      refine kE (el_at (show ka-1<a.size by omega) ?_)
      refine kE (galL T hq (ea (by omega)) hb (by omega) (by omega) hκ (zc6 sb (by omega)) fun k2 hk2 u1 u2=>?_)
      try dsimp only
      by_cases k20:kb-1-k2>0
      ·rw[if_pos k20];have hp3:=L.bk hp2 (by omega) (by omega) hk2 u2
       by_cases d4:(k2==1)=true
       ·rw[if_pos d4]
        exact kD ⟨.inl ⟨_,rfl,L.first hp3 (pA d4)⟩,_,rfl⟩
       rw[if_neg d4];have d4':k2≠1:=fun z=>d4 (by rw[z];rfl)
       by_cases d7:(k2==0)=true
       ·rw[if_pos d7];exact kD ⟨.inl ⟨_,rfl,L.done hp3 (.inr (pA d7))⟩,_,rfl⟩
       rw[if_neg d7];have d7':k2≠0:=fun z=>d7 (by rw[z];rfl)
       refine kE (el_at (show ka-1<a.size by omega) ?_)
       try dsimp only
       have hp4:=L.a1 hp3 (by omega) (by omega) (by omega) (by omega) (by have:=u1 (k2-1) (by omega) (by omega);simpa using this)
       by_cases d5:(ka-1==0)=true
       ·rw[if_pos d5];exact kD ⟨.inl ⟨_,rfl,L.done hp4 (.inl (pA d5))⟩,_,rfl⟩
       rw[if_neg d5];have d5':ka-1≠0:=fun z=>d5 (by rw[z];rfl)
       by_cases d6:(decide (ka-k<7)&&decide (kb-1-k2<7))=true
       ·rw[if_pos d6];exact kD ⟨.inr ⟨⟨rfl,hp4,(by show 0<ka-1;omega),(by show 1<k2;omega)⟩,(by show ka-1+(k2)+1<=na+nb;omega)⟩,_,rfl⟩
       ·rw[if_neg d6];exact kD ⟨⟨⟨rfl,hp4,(by show 0<ka-1;omega),(by show 1<k2;omega)⟩,(by show ka-1+(k2)+1<=na+nb;omega)⟩,_,rfl⟩
      ·rw[if_neg k20];refine kE (el_at (show ka-1<a.size by omega) ?_)
       try dsimp only
       have hp4:=L.a1 hp2 (by omega) (by omega) (by omega) (by omega) (by have:=u1 (kb-1-1) (by omega) (by omega);simpa using this)
       by_cases d5:(ka-1==0)=true
       ·rw[if_pos d5];exact kD ⟨.inl ⟨_,rfl,L.done hp4 (.inl (pA d5))⟩,_,rfl⟩
       rw[if_neg d5];have d5':ka-1≠0:=fun z=>d5 (by rw[z];rfl)
       by_cases d6:(decide (ka-k<7)&&decide (kb-1-k2<7))=true
       ·rw[if_pos d6];exact kD ⟨.inr ⟨⟨rfl,hp4,(by show 0<ka-1;omega),(by show 1<kb-1;omega)⟩,(by show ka-1+(kb-1)+1<=na+nb;omega)⟩,_,rfl⟩
       ·rw[if_neg d6];exact kD ⟨⟨⟨rfl,hp4,(by show 0<ka-1;omega),(by show 1<kb-1;omega)⟩,(by show ka-1+(kb-1)+1<=na+nb;omega)⟩,_,rfl⟩
   ·rintro⟨r2,ka,kb,out,mg2,ac2,bc2⟩ st' ⟨hc,g,rfl⟩;dsimp only at hc⊢;rcases hc with⟨r,rfl,hr⟩|⟨⟨rfl,hp,hka,hkb⟩,hl2⟩
    ·exact kD ⟨r,rfl,hr,_,rfl⟩
    dsimp only;refine kE (uH (kD ⟨⟨⟨rfl,hp,hka,hkb⟩,(by show ka+kb+(x+1)+1<=a.size+b.size;omega)⟩,_,rfl⟩))
 ·rintro c st' ⟨⟨⟨e0,hp,hna,hnb⟩,hlo⟩,_⟩
  exfalso
  omega
 ·rintro⟨r0,na,nb,out,mg⟩ st' ⟨r,e,hr,g,rfl⟩;dsimp only at e⊢;subst e;exact kD (h r g hr)
end
section
variable{an:Keyed->Keyed->Bool}{a b:Array Keyed}
theorem zbb{l m:List Keyed}:UpL an (l++m)↔UpL an l/\UpL an m/\∀x,x∈l->∀y,y∈m->an y x=false:=by
 unfold UpL;rw[List.pairwise_append]
theorem ze0{l:List Keyed}(h:UpL an l)(n:Nat):UpL an (l.drop n):=gk (Ap n l) h
theorem zdy{l:List Keyed}(h:UpL an l)(n:Nat):UpL an (l.take n):=gk (Ad n l) h
theorem zhg(T:WkT an){a:Array Keyed}(h:UpL an a.toList){i:Nat}(hi:i<a.size):∀y,y∈a.toList.drop i->an y a[i]=false:=fun y hy=>by
 have hi':i<a.toList.length:=by simpa using hi
 have e:a.toList[i]=a[i]:=by simp
 have d:=ze0 h i;rw[UD hi',e] at d hy;rcases kh.mp hy with z|z
 ·rw[z];exact T.irr _
 ·exact(Ub.mp d).1 y z
theorem zhv(T:WkT an){a:Array Keyed}(h:UpL an a.toList){n:Nat}(h0:0<n)(hn:n-1<a.size):∀y,y∈a.toList.take n->an a[n-1] y=false:=fun y hy=>by
 have hn':n-1<a.toList.length:=by simpa using hn
 have e:a.toList[n-1]=a[n-1]:=by simp
 have d:=zdy h n;have en:n=n-1+1:=by omega
 rw[en,vV hn',e] at d hy;rcases kf.mp hy with z|z
 ·exact(zbb.mp d).2.2 y z _ (kr.mpr rfl)
 ·rw[kr.mp z];exact T.irr _
def LoJ(an:Keyed->Keyed->Bool)(a b out:Array Keyed)(ia ib:Nat):Prop:=Prm a b out ia ib/\UpL an out.toList/\(∀x,x∈out.toList->∀y,y∈a.toList.drop ia->an y x=false)/\∀x,x∈out.toList->∀y,y∈b.toList.drop ib->an y x=false
def MgR(an:Keyed->Keyed->Bool)(a b r:Array Keyed):Prop:=r.toList.Perm (a.toList++b.toList)/\UpL an r.toList
theorem zg2(l:List Keyed)(i k:Nat):l.drop i=(l.drop i).take k++l.drop (i+k):=by rw[←Qk,uJ]
theorem loIv(T:WkT an)(ua:UpL an a.toList)(ub:UpL an b.toList)(a1:0<a.size)(b1:0<b.size)(hz:∀y,y∈a.toList->an y b[0]=false)(hl:∀y,y∈b.toList->an a[a.size-1] y=false):LoIv an a b (LoJ an a b) (MgR an a b):=by
 have ak:∀{out:Array Keyed}{ia ib k:Nat},LoJ an a b out ia ib->∀hb:ib<b.size,ia+k<=a.size->(∀i,i<k->∀(h:ia+i<a.size),an b[ib] a[ia+i]=false)->LoJ an a b (out++a.extract ia (ia+k)) (ia+k) ib:=fun{out ia ib k} J hb hk h=>by
  obtain⟨p,u,ja,jb⟩:=J;have et:(out++a.extract ia (ia+k)).toList=out.toList++(a.toList.drop ia).take k:=by rw[kj,ext_k]
  have cut:=ze0 ua ia;rw[zg2 a.toList ia k,zbb] at cut;have sub:∀y,y∈(a.toList.drop ia).take k->y∈a.toList.drop ia:=fun y hy=>Qm hy;have subd:∀y,y∈a.toList.drop (ia+k)->y∈a.toList.drop ia:=fun y hy=>by rw[zg2 a.toList ia k];exact kJ _ hy
  have hx:∀x,x∈(a.toList.drop ia).take k->an b[ib] x=false:=fun x hx=>by
   obtain⟨i,hi,e⟩:=po.mp hx;rw[kP,ki,kO] at hi;rw[←e,uX,uN,pS];exact h i (by omega) (by omega)
  refine⟨prm_a p k hk,?_,?_,?_⟩
  ·rw[et,zbb];exact⟨u,cut.1,fun x hx y hy=>ja x hx y (sub y hy)⟩
  ·rw[et];intro x hx' y hy;rcases kf.mp hx' with z|z
   ·exact ja x z y (subd y hy)
   ·exact cut.2.2 x z y hy
  ·rw[et];intro x hx' y hy;rcases kf.mp hx' with z|z
   ·exact jb x z y hy
   ·exact T.cut _ _ _ (zhg T ub hb y hy) (hx x z)
 have bk:∀{out:Array Keyed}{ia ib k:Nat},LoJ an a b out ia ib->∀ha:ia<a.size,ib+k<=b.size->(∀i,i<k->∀(h:ib+i<b.size),an b[ib+i] a[ia]=true)->LoJ an a b (out++b.extract ib (ib+k)) ia (ib+k):=fun{out ia ib k} J ha hk h=>by
  obtain⟨p,u,ja,jb⟩:=J;have et:(out++b.extract ib (ib+k)).toList=out.toList++(b.toList.drop ib).take k:=by rw[kj,ext_k]
  have cut:=ze0 ub ib;rw[zg2 b.toList ib k,zbb] at cut;have sub:∀y,y∈(b.toList.drop ib).take k->y∈b.toList.drop ib:=fun y hy=>Qm hy;have subd:∀y,y∈b.toList.drop (ib+k)->y∈b.toList.drop ib:=fun y hy=>by rw[zg2 b.toList ib k];exact kJ _ hy
  have hx:∀x,x∈(b.toList.drop ib).take k->an x a[ia]=true:=fun x hx=>by
   obtain⟨i,hi,e⟩:=po.mp hx;rw[kP,ki,kO] at hi;rw[←e,uX,uN,pS];exact h i (by omega) (by omega)
  refine⟨prm_b p k hk,?_,?_,?_⟩
  ·rw[et,zbb];exact⟨u,cut.1,fun x hx y hy=>jb x hx y (sub y hy)⟩
  ·rw[et];intro x hx' y hy;rcases kf.mp hx' with z|z
   ·exact ja x z y hy
   ·exact T.cut _ _ _ (zhg T ua ha y hy) (T.asymm (hx x z))
  ·rw[et];intro x hx' y hy;rcases kf.mp hx' with z|z
   ·exact jb x z y (subd y hy)
   ·exact cut.2.2 x z y hy
 refine⟨fun h=>?_,fun{out ia ib} J h=>?_,fun{out ia ib} J h=>?_,fun{out ia ib} J ha hb e=>?_,fun{out ia ib} J ha hb e=>?_,ak,bk⟩
 ·refine⟨prm_0 h,Qo _ _,fun x hx y hy=>?_,fun x hx y hy=>?_⟩
  ·rw[show x=b[0] by simpa using hx]
   exact hz y (by simpa using hy)
  ·rw[show x=b[0] by simpa using hx]
   exact zhg T ub h y (QU (i:=1) (by simpa using hy))
 ·obtain⟨p,u,ja,jb⟩:=J;refine⟨prm_done p,?_⟩;rw[kj,kj,zed,zed];rcases h with h|h
  ·have e:b.toList.drop ib=[]:=vW (by rw[kO];omega)
   rw[e,QL,zbb];exact⟨u,ze0 ua _,ja⟩
  ·have e:a.toList.drop ia=[]:=vW (by rw[kO];omega)
   rw[e,QL,zbb];exact⟨u,ze0 ub _,jb⟩
 ·obtain⟨p,u,ja,jb⟩:=J;refine⟨prm_last p,?_⟩;rw[kj,kj,zed,zed,zbb,zbb];refine⟨⟨u,ze0 ub _,jb⟩,ze0 ua _,fun x hx y hy=>?_⟩;have hi:ia<a.toList.length:=by rw[kO];omega
  have ey:y=a[a.size-1]:=by
   rw[UD hi,vW (by rw[kO];omega),kr] at hy
   rw[hy,pS]
   congr 1
   omega
  rcases kf.mp hx with z|z
  ·exact ja x z y hy
  ·rw[ey];exact hl x (QU z)
 ·rw[zg0 _ _ _ hb];refine bk J ha (by omega) fun i hi h=>?_
  have e0:i=0:=by omega
  subst e0;exact e
 ·rw[zg0 _ _ _ ha];refine ak J hb (by omega) fun i hi h=>?_
  have e0:i=0:=by omega
  subst e0;exact e
def HiJ(an:Keyed->Keyed->Bool)(a b out:Array Keyed)(na nb:Nat):Prop:=PrmH a b out na nb/\UpL an out.toList.reverse/\(∀x,x∈out.toList->∀y,y∈a.toList.take na->an x y=false)/\∀x,x∈out.toList->∀y,y∈b.toList.take nb->an x y=false
theorem zfc(l:List Keyed){k n:Nat}(h:k<=n):l.take n=l.take k++(l.take n).drop k:=by
 have:=uJ k (l.take n);rw[jQ,UI h] at this;exact this.symm
theorem zlq(a:Array Keyed)(k n:Nat):(a.extract k n).reverse.toList=((a.toList.take n).drop k).reverse:=by
 rw[ul,zbm,vT]
theorem hiIv(T:WkT an)(ua:UpL an a.toList)(ub:UpL an b.toList)(a1:0<a.size)(b1:0<b.size)(hz:∀y,y∈a.toList->an y b[0]=false)(hl:∀y,y∈b.toList->an a[a.size-1] y=false):HiIv an a b (HiJ an a b) (MgR an a b):=by
 have ak:∀{out:Array Keyed}{na nb k:Nat},HiJ an a b out na nb->∀(_:0<nb)(hb:nb-1<b.size),k<=na->(∀i,k<=i->i<na->∀(h:0+i<a.size),an b[nb-1] a[0+i]=true)->HiJ an a b (out++(a.extract k na).reverse) k nb:=fun{out na nb k} J h0 hb hk h=>by
  obtain⟨p,u,ja,jb⟩:=J;have lna:=p.2.1;have et:(out++(a.extract k na).reverse).toList=out.toList++((a.toList.take na).drop k).reverse:=by rw[kj,zlq]
  have cut:=zdy ua na;rw[zfc a.toList hk,zbb] at cut;have sub:∀y,y∈(a.toList.take na).drop k->y∈a.toList.take na:=fun y hy=>QU hy;have subd:∀y,y∈a.toList.take k->y∈a.toList.take na:=fun y hy=>by rw[zfc a.toList hk];exact pi _ hy
  have hx:∀x,x∈(a.toList.take na).drop k->an b[nb-1] x=true:=fun x hx=>by
   obtain⟨i,hi,e⟩:=po.mp hx;rw[ki,kP,kO] at hi;rw[←e,uN,uX,pS];have:=h (k+i) (by omega) (by omega) (by omega)
   simpa using this
  refine⟨zlz p k hk,?_,?_,?_⟩
  ·rw[et,AH,AC,zbb];exact⟨cut.2.1,u,fun x hx y hy=>ja y (uw.mp hy) x (sub x hx)⟩
  ·rw[et];intro x hx' y hy;rcases kf.mp hx' with z|z
   ·exact ja x z y (subd y hy)
   ·exact cut.2.2 y hy x (uw.mp z)
  ·rw[et];intro x hx' y hy;rcases kf.mp hx' with z|z
   ·exact jb x z y hy
   ·exact T.cut _ _ _ (T.asymm (hx x (uw.mp z))) (zhv T ub h0 hb y hy)
 have bk:∀{out:Array Keyed}{na nb k:Nat},HiJ an a b out na nb->∀(_:0<na)(ha:na-1<a.size),k<=nb->(∀i,k<=i->i<nb->∀(h:0+i<b.size),an b[0+i] a[na-1]=false)->HiJ an a b (out++(b.extract k nb).reverse) na k:=fun{out na nb k} J h0 ha hk h=>by
  obtain⟨p,u,ja,jb⟩:=J;have lnb:=p.2.2;have et:(out++(b.extract k nb).reverse).toList=out.toList++((b.toList.take nb).drop k).reverse:=by rw[kj,zlq]
  have cut:=zdy ub nb;rw[zfc b.toList hk,zbb] at cut;have sub:∀y,y∈(b.toList.take nb).drop k->y∈b.toList.take nb:=fun y hy=>QU hy;have subd:∀y,y∈b.toList.take k->y∈b.toList.take nb:=fun y hy=>by rw[zfc b.toList hk];exact pi _ hy
  have hx:∀x,x∈(b.toList.take nb).drop k->an x a[na-1]=false:=fun x hx=>by
   obtain⟨i,hi,e⟩:=po.mp hx;rw[ki,kP,kO] at hi;rw[←e,uN,uX,pS];have:=h (k+i) (by omega) (by omega) (by omega)
   simpa using this
  refine⟨prmh_b p k hk,?_,?_,?_⟩
  ·rw[et,AH,AC,zbb];exact⟨cut.2.1,u,fun x hx y hy=>jb y (uw.mp hy) x (sub x hx)⟩
  ·rw[et];intro x hx' y hy;rcases kf.mp hx' with z|z
   ·exact ja x z y hy
   ·exact T.cut _ _ _ (hx x (uw.mp z)) (zhv T ua h0 ha y hy)
  ·rw[et];intro x hx' y hy;rcases kf.mp hx' with z|z
   ·exact jb x z y (subd y hy)
   ·exact cut.2.2 y hy x (uw.mp z)
 refine⟨fun h=>?_,fun{out na nb} J=>J.1.2,fun{out na nb} J h=>?_,fun{out na nb} J h=>?_,fun{out na nb} J h0 h1 ha hb e=>?_,fun{out na nb} J h0 h1 ha hb e=>?_,ak,bk⟩
 ·refine⟨prmh_0 h,Qo _ _,fun x hx y hy=>?_,fun x hx y hy=>?_⟩
  ·rw[show x=a[a.size-1] by simpa using hx]
   exact zhv T ua h (by omega) y (by rw[kx (by rw[kO];exact kI _)];exact Qm hy)
  ·rw[show x=a[a.size-1] by simpa using hx]
   exact hl y (Qm hy)
 ·obtain⟨p,u,ja,jb⟩:=J;refine⟨prmh_done p,?_⟩;rw[kj,kj,ext_0,ext_0,ul];have ju:∀x,x∈a.toList.take na->∀y,y∈out.toList.reverse->an y x=false:=fun x hx y hy=>ja y (uw.mp hy) x hx;have jv:∀x,x∈b.toList.take nb->∀y,y∈out.toList.reverse->an y x=false:=fun x hx y hy=>jb y (uw.mp hy) x hx;rcases h with h|h
  ·subst h;rw[uO,Ug,zbb];exact⟨zdy ub _,u,jv⟩
  ·subst h;rw[uO,QL,zbb];exact⟨zdy ua _,u,ju⟩
 ·obtain⟨p,u,ja,jb⟩:=J;refine⟨prmh_first p,?_⟩;rw[kj,kj,ext_0,ext_0,ul,zbb,zbb];subst h;refine⟨⟨zdy ub _,zdy ua _,fun x hx y hy=>?_⟩,u,fun x hx y hy=>?_⟩
  ·have hb':0<b.toList.length:=by rw[kO];exact b1
   have ex:x=b[0]:=by
    rw[show(1:Nat)=0+1 from rfl,vV hb',uO,Ug,kr] at hx;rw[hx,pS]
   rw[ex];exact hz y (Qm hy)
  ·rcases kf.mp hx with z|z
   ·exact jb y (uw.mp hy) x z
   ·exact ja y (uw.mp hy) x z
 ·rw[zho _ _ _ h0 ha];refine ak J h1 hb (by omega) fun i hi hi' h=>?_
  have e0:i=na-1:=by omega
  subst e0
  simpa using e
 ·rw[zho _ _ _ h1 hb];refine bk J h0 ha (by omega) fun i hi hi' h=>?_
  have e0:i=nb-1:=by omega
  subst e0
  simpa using e
end
section
variable{prog:Program}{w:World}{A:Around}{E:Value->Shared->Prop}{s:Shared}{a₀:Array Keyed}{κ:SortKind}{an:Keyed->Keyed->Bool}
abbrev gK(xs:Array Keyed)(lo k:Nat):Keyed:=xs.getD (lo+k) (.none,.none)
def UpF(an:Keyed->Keyed->Bool)(f:Nat->Keyed)(m:Nat):Prop:=∀i j,i<j->j<m->an (f j) (f i)=false
def DnF(an:Keyed->Keyed->Bool)(f:Nat->Keyed)(m:Nat):Prop:=∀i j,i<j->j<m->an (f i) (f j)=false
def EqF(an:Keyed->Keyed->Bool)(f:Nat->Keyed)(m q:Nat):Prop:=∀i j,m<=i+q+1->i<m->m<=j+q+1->j<m->an (f i) (f j)=false
def FrL(xs ys:Array Keyed)(lo:Nat):Prop:=∀k,k<lo->xs[k]?=ys[k]?
theorem UpF.step(T:WkT an){f:Nat->Keyed}{m:Nat}(u:UpF an f m)(h:1<=m->an (f m) (f (m-1))=false):UpF an f (m+1):=fun i j hij hj=>by
 by_cases e:j=m
 ·subst e;have h':=h (by omega)
  by_cases e2:i=j-1
  ·rw[e2];exact h'
  ·exact T.cut _ _ _ h' (u i (j-1) (by omega) (by omega))
 ·exact u i j hij (by omega)
theorem DnF.step(T:WkT an){f:Nat->Keyed}{m:Nat}(u:DnF an f m)(h:1<=m->an (f (m-1)) (f m)=false):DnF an f (m+1):=fun i j hij hj=>by
 by_cases e:j=m
 ·subst e;have h':=h (by omega)
  by_cases e2:i=j-1
  ·rw[e2];exact h'
  ·exact T.cut _ _ _ (u i (j-1) (by omega) (by omega)) h'
 ·exact u i j hij (by omega)
theorem zes{xs:Array Keyed}{lo a m:Nat}(hm:lo+m<=xs.size)(k:Nat):gK (mirror xs (lo+a) (lo+m) ((lo+m-(lo+a))/2)) lo k=if a<=k/\k<m then gK xs lo (a+m-1-k) else gK xs lo k:=by
 unfold gK;rw[kR,Ux hm]
 by_cases c:a<=k/\k<m
 ·rw[if_pos c,if_pos (by omega),kR]
  congr 2
  omega
 ·rw[if_neg c,if_neg (by omega),kR]
theorem zdu{xs ys:Array Keyed}{lo a m:Nat}(hm:lo+m<=xs.size)(h:FrL xs ys lo):FrL (mirror xs (lo+a) (lo+m) ((lo+m-(lo+a))/2)) ys lo:=fun k hk=>by
 rw[Ux hm,if_neg (by omega)]
 exact h k hk
theorem zkk(T:WkT an){xs:Array Keyed}{lo m q:Nat}(hm:lo+m<=xs.size)(d:DnF an (gK xs lo) m)(e:EqF an (gK xs lo) m q):DnF an (gK (mirror xs (lo+(m-(q+1))) (lo+m) ((lo+m-(lo+(m-(q+1))))/2)) lo) m:=fun i j hij hj=>by
 rw[zes hm,zes hm]
 by_cases c1:m-(q+1)<=i/\i<m
 ·rw[if_pos c1,if_pos (by omega)]
  exact e _ _ (by omega) (by omega) (by omega) (by omega)
 ·rw[if_neg c1]
  by_cases c2:m-(q+1)<=j/\j<m
  ·rw[if_pos c2];exact d _ _ (by omega) (by omega)
  ·rw[if_neg c2];exact d _ _ hij hj
theorem zjm{xs:Array Keyed}{lo m:Nat}(hm:lo+m<=xs.size)(d:DnF an (gK xs lo) m):UpF an (gK (mirror xs (lo+0) (lo+m) ((lo+m-(lo+0))/2)) lo) m:=fun i j hij hj=>by
 rw[zes hm,zes hm,if_pos (by omega),if_pos (by omega)]
 exact d _ _ (by omega) (by omega)
theorem zl1(T:WkT an){xs:Array Keyed}{lo m q:Nat}(hm:lo+m<xs.size)(h1:q+1<=m)(d:DnF an (gK xs lo) m)(e:EqF an (gK xs lo) m q)(c:an (gK xs lo m) (gK xs lo (m-1))=true):DnF an (gK (mirror xs (lo+(m-(q+1))) (lo+m) ((lo+m-(lo+(m-(q+1))))/2)) lo) (m+1):=by
 refine(zkk T (by omega) d e).step T fun h1=>?_
 rw[zes (by omega),zes (by omega),if_pos (by omega),if_neg (by omega)]
 refine T.asymm ?_
 cases y:an (gK xs lo m) (gK xs lo (m-(q+1)+m-1-(m-1))) with
 |true=>rfl
 |false=>
  have:=T.cut _ _ _ y (e (m-(q+1)+m-1-(m-1)) (m-1) (by omega) (by omega) (by omega) (by omega))
  rw[c] at this
  cases this
theorem zhb(T:WkT an){f:Nat->Keyed}(m:Nat):EqF an f (m+1) 0:=fun i j a b a' b'=>by
 have e1:i=m:=by omega
 have e2:j=m:=by omega
 rw[e1,e2];exact T.irr _
theorem zks(T:WkT an){f:Nat->Keyed}{m q:Nat}(h1:1<=m)(e:EqF an f m q)(c:an (f m) (f (m-1))=false)(y:an (f (m-1)) (f m)=false):EqF an f (m+1) (q+1):=fun i j i1 i2 j1 j2=>by
 by_cases ei:i=m
 ·subst ei
  by_cases ej:j=i
  ·rw[ej];exact T.irr _
  ·exact T.cut _ _ _ c (e (i-1) j (by omega) (by omega) (by omega) (by omega))
 ·by_cases ej:j=m
  ·subst ej;exact T.cut _ _ _ (e i (j-1) (by omega) (by omega) (by omega) (by omega)) y
  ·exact e i j (by omega) (by omega) (by omega) (by omega)
theorem all_eq(T:WkT an){f:Nat->Keyed}{m:Nat}(u:UpF an f m)(c:an (f 0) (f (m-1))=false):∀i j,i<m->j<m->an (f i) (f j)=false:=fun i j hi hj=>by
 have le:∀a b,a<=b->b<m->an (f b) (f a)=false:=fun a b hab hb=>by
  rcases Ua hab with z|z
  ·exact u a b z hb
  ·rw[z];exact T.irr _
 exact T.cut _ _ _ (T.cut _ _ _ (le 0 i (by omega) hi) c) (le j (m-1) (by omega) (by omega))
theorem ltG(hq:QR prog w A E s κ a₀ an){lo i j i' j':Nat}{st:SortSt}{Q:Option Bool->SortSt->Prop}(hp:(arrOf st).Perm a₀)(ei:i'=lo+i)(ej:j'=lo+j)(hi:lo+i<a₀.size)(hj:lo+j<a₀.size)(hκ:kindOf st=κ)(h:Q (some (an (gK (arrOf st) lo i) (gK (arrOf st) lo j))) st):wpS (model prog w) A E s (ltAt' i' j') Q st:=by
 have sz:(arrOf st).size=a₀.size:=hp.size_eq;subst ei ej;rw[ltAt'_eq];refine kE (vF ?_);refine kE (el_at (show lo+i<(arrOf st).size by omega) (kE (el_at (show lo+j<(arrOf st).size by omega) ?_)))
 refine hq _ _ _ _ (hp.mem_iff.mp (QD _)) (hp.mem_iff.mp (QD _)) hκ ?_;have e:∀{k:Nat}(h:lo+k<(arrOf st).size),gK (arrOf st) lo k=(arrOf st)[lo+k]:=fun{k} h=>by
  unfold gK;rw[kR,pH h];rfl
 rw[e (by omega),e (by omega)] at h
 exact h
theorem countG(T:WkT an)(hq:QR prog w A E s κ a₀ an){lo nrem:Nat}{st:SortSt}{Q:Option Nat->SortSt->Prop}(hp:(arrOf st).Perm a₀)(h1:1<=nrem)(hz:lo+nrem<=a₀.size)(hκ:kindOf st=κ)
  (h:∀m xs,1<=m->m<=nrem->xs.Perm a₀->FrL xs (arrOf st) lo->UpF an (gK xs lo) m->Q (some m) (setArr st xs)):wpS (model prog w) A E s (countRun' lo nrem) Q st:=by
 have sz:(arrOf st).size=a₀.size:=hp.size_eq;have f0:FrL (arrOf st) (arrOf st) lo:=fun _ _=>rfl;refine kE (uz (pW (I:=fun x(c:Option (Option Nat)×Nat) st'=>st=st'/\c.1=none/\1<=c.2/\c.2=x/\UpF an (gK (arrOf st) lo) c.2) (Q:=fun c st'=>st=st'/\c.1=none/\1<=c.2/\c.2<=nrem/\UpF an (gK (arrOf st) lo) c.2/\(c.2<nrem->an (gK (arrOf st) lo c.2) (gK (arrOf st) lo (c.2-1))=true)) ?_ ?_ ⟨rfl,rfl,kI _,rfl,fun i j _ hj=>(by have:j<1:=hj;omega)⟩) ?_)
 ·rintro x ⟨r,n⟩ st' hx1 hx ⟨rfl,e,hn1,hn2,u⟩;dsimp only at e hn1 hn2 u⊢;refine kE (ltG hq hp (i:=n) (j:=n-1) rfl (by omega) (by omega) (by omega) hκ ?_)
  cases eb:an (gK (arrOf st) lo n) (gK (arrOf st) lo (n-1)) with
  |true=>exact kD ⟨rfl,rfl,hn1,(by show n<=nrem;omega),u,fun _=>eb⟩
  |false=>exact kD ⟨rfl,rfl,(by show 1<=n+1;omega),(by show n+1=x+1;omega),u.step T fun _=>eb⟩
 ·rintro⟨r,n⟩ st' ⟨e,e1,hn1,hn2,u⟩;dsimp only at e e1 hn1 hn2 u⊢;exact⟨e,e1,hn1,by show n<=nrem;omega,u,fun z=>by have:n<nrem:=z;omega⟩
 rintro⟨r,n⟩ st' ⟨rfl,e,hn1,hn2,u,us⟩;dsimp only at e hn1 hn2 u us⊢;subst e;dsimp only
 by_cases c1:(n==nrem)=true
 ·rw[if_pos c1];exact kD (h n (arrOf st) hn1 hn2 hp f0 u)
 rw[if_neg c1];have c1':n≠nrem:=fun z=>c1 (by rw[z];exact beq_self_eq_true _)
 have us':=us (by omega)
 by_cases c2:n>1
 ·rw[if_pos c2];refine kE (ltG hq hp (i:=0) (j:=n-1) rfl (by omega) (by omega) (by omega) hκ ?_)
  cases er:an (gK (arrOf st) lo 0) (gK (arrOf st) lo (n-1)) with
  |true=>exact kD (h n (arrOf st) hn1 hn2 hp f0 u)
  |false=>
   have al:=all_eq T u er;have d1:DnF an (gK (mirror (arrOf st) (lo+0) (lo+n) ((lo+n-(lo+0))/2)) lo) (n+1):=by
    refine DnF.step T (fun i j hij hj=>?_) fun _=>?_
    ·rw[zes (by omega),zes (by omega),if_pos (by omega),if_pos (by omega)]
     exact al _ _ (by omega) (by omega)
    ·rw[zes (by omega),zes (by omega),if_pos (by omega),if_neg (by omega)]
     refine T.asymm ?_
     cases y:an (gK (arrOf st) lo n) (gK (arrOf st) lo (0+n-1-(n-1))) with
     |true=>rfl
     |false=>
      have:=T.cut _ _ _ y (al (0+n-1-(n-1)) (n-1) (by omega) (by omega))
      rw[us'] at this
      cases this
   refine kE (uH ?_);refine kE (jR (Qa ⟨rfl,?_⟩));refine kE (uz (pW (I:=fun x(c:Option (Option Nat)×Nat×Nat) st'=>(c.1=none/\1<=c.2.1/\c.2.1=x/\c.2.2+1<=c.2.1)/\∃xs,xs.Perm a₀/\FrL xs (arrOf st) lo/\DnF an (gK xs lo) c.2.1/\EqF an (gK xs lo) c.2.1 c.2.2/\st'=setArr st xs) (Q:=fun c st'=>(c.1=none/\1<=c.2.1/\c.2.1<=nrem/\c.2.2+1<=c.2.1)/\∃xs,xs.Perm a₀/\FrL xs (arrOf st) lo/\DnF an (gK xs lo) c.2.1/\EqF an (gK xs lo) c.2.1 c.2.2/\st'=setArr st xs) ?_ ?_ ⟨⟨rfl,(by show 1<=n+1;omega),rfl,(by show 0+1<=n+1;omega)⟩,_,(UM _ _ _ _).trans hp,zdu (a:=0) (by omega) f0,d1,zhb T n,rfl⟩) ?_)
   ·rintro x ⟨r,n2,q2⟩ st' hx1 hx ⟨⟨e,hn1,hn2,hq2⟩,xs,px,fx,dx,ex,rfl⟩;dsimp only at e hn1 hn2 hq2 dx ex⊢;have sx:xs.size=a₀.size:=px.size_eq;refine kE (ltG hq px (i:=n2) (j:=n2-1) rfl (by omega) (by omega) (by omega) hκ ?_)
    cases eb:an (gK (arrOf (setArr st xs)) lo n2) (gK (arrOf (setArr st xs)) lo (n2-1)) with
    |true=>
     try dsimp only
     rw[if_pos rfl]
     by_cases qq:q2>0
     ·rw[if_pos qq];refine kE (uH (kD ⟨⟨rfl,(by show 1<=n2+1;omega),(by show n2+1=x+1;omega),(by show 0+1<=n2+1;omega)⟩,mirror xs (lo+(n2-(q2+1))) (lo+n2) ((lo+n2-(lo+(n2-(q2+1))))/2),(UM _ _ _ _).trans px,zdu (by omega) fx,zl1 T (by omega) hq2 dx ex eb,zhb T n2,?_⟩))
      rw[show lo+n2-(q2+1)=lo+(n2-(q2+1)) by omega];rfl
     ·rw[if_neg qq];exact kD ⟨⟨rfl,(by show 1<=n2+1;omega),(by show n2+1=x+1;omega),(by show 0+1<=n2+1;omega)⟩,_,px,fx,dx.step T fun _=>T.asymm eb,zhb T n2,rfl⟩
    |false=>
     refine kE (ltG hq px (i:=n2-1) (j:=n2) (by omega) rfl (by omega) (by omega) hκ ?_)
     cases ec:an (gK (arrOf (setArr st xs)) lo (n2-1)) (gK (arrOf (setArr st xs)) lo n2) with
     |true=>exact kD ⟨⟨rfl,hn1,(by show n2<=nrem;omega),hq2⟩,_,px,fx,dx,ex,rfl⟩
     |false=>exact kD ⟨⟨rfl,(by show 1<=n2+1;omega),(by show n2+1=x+1;omega),(by show q2+1+1<=n2+1;omega)⟩,_,px,fx,dx.step T fun _=>ec,zks T hn1 ex eb ec,rfl⟩
   ·rintro⟨r,n2,q2⟩ st' ⟨⟨e,hn1,hn2,hq2⟩,z⟩;dsimp only at e hn1 hn2 hq2 z⊢;exact⟨⟨e,hn1,by show n2<=nrem;omega,hq2⟩,z⟩
   ·rintro⟨r,n2,q2⟩ st' ⟨⟨e,hn1,hn2,hq2⟩,xs2,px2,fx2,dx2,ex2,rfl⟩;dsimp only at e hn1 hn2 hq2 dx2 ex2⊢;subst e;dsimp only;have sx:xs2.size=a₀.size:=px2.size_eq
    by_cases qq:q2>0
    ·rw[if_pos qq];have dr:=zkk T (by omega) dx2 ex2
     have er:lo+n2-(q2+1)=lo+(n2-(q2+1)):=by omega
     refine kE (uH ?_);refine kE (uH ?_);rw[er];have pr:(mirror xs2 (lo+(n2-(q2+1))) (lo+n2) ((lo+n2-(lo+(n2-(q2+1))))/2)).Perm a₀:=(UM _ _ _ _).trans px2;have fr:FrL (mirror xs2 (lo+(n2-(q2+1))) (lo+n2) ((lo+n2-(lo+(n2-(q2+1))))/2)) (arrOf st) lo:=zdu (by omega) fx2
     have sx3:(mirror xs2 (lo+(n2-(q2+1))) (lo+n2) ((lo+n2-(lo+(n2-(q2+1))))/2)).size=a₀.size:=pr.size_eq;refine kE (uz (pW (I:=fun x(c:Option (Option Nat)×Nat) st'=>(c.1=none/\1<=c.2/\c.2=x)/\∃xs,xs.Perm a₀/\FrL xs (arrOf st) lo/\UpF an (gK xs lo) c.2/\st'=setArr st xs) (Q:=fun c st'=>(c.1=none/\1<=c.2/\c.2<=nrem)/\∃xs,xs.Perm a₀/\FrL xs (arrOf st) lo/\UpF an (gK xs lo) c.2/\st'=setArr st xs) ?_ ?_ ⟨⟨rfl,(by show 1<=n2;omega),rfl⟩,_,(UM _ _ _ _).trans pr,zdu (a:=0) (by omega) fr,zjm (by omega) dr,rfl⟩) ?_)
     ·rintro x ⟨r,n3⟩ st' hx1 hx ⟨⟨e,hn1,hn2'⟩,xs,px,fx,ux,rfl⟩;dsimp only at e hn1 hn2' ux⊢;refine kE (ltG hq px (i:=n3) (j:=n3-1) rfl (by omega) (by omega) (by omega) hκ ?_)
      cases eb:an (gK (arrOf (setArr st xs)) lo n3) (gK (arrOf (setArr st xs)) lo (n3-1)) with
      |true=>exact kD ⟨⟨rfl,hn1,(by show n3<=nrem;omega)⟩,_,px,fx,ux,rfl⟩
      |false=>exact kD ⟨⟨rfl,(by show 1<=n3+1;omega),(by show n3+1=x+1;omega)⟩,_,px,fx,ux.step T fun _=>eb,rfl⟩
     ·rintro⟨r,n3⟩ st' ⟨⟨e,hn1,hn2'⟩,z⟩;dsimp only at e hn1 hn2' z⊢;exact⟨⟨e,hn1,by show n3<=nrem;omega⟩,z⟩
     ·rintro⟨r,n3⟩ st' ⟨⟨e,hn1,hn2'⟩,xs,px,fx,ux,rfl⟩;dsimp only at e hn1 hn2' ux⊢;subst e;exact kD (h n3 xs hn1 hn2' px fx ux)
    ·rw[if_neg qq];refine kE (uH ?_);refine kE (uz (pW (I:=fun x(c:Option (Option Nat)×Nat) st'=>(c.1=none/\1<=c.2/\c.2=x)/\∃xs,xs.Perm a₀/\FrL xs (arrOf st) lo/\UpF an (gK xs lo) c.2/\st'=setArr st xs) (Q:=fun c st'=>(c.1=none/\1<=c.2/\c.2<=nrem)/\∃xs,xs.Perm a₀/\FrL xs (arrOf st) lo/\UpF an (gK xs lo) c.2/\st'=setArr st xs) ?_ ?_ ⟨⟨rfl,(by show 1<=n2;omega),rfl⟩,_,(UM _ _ _ _).trans px2,zdu (a:=0) (by omega) fx2,zjm (by omega) dx2,rfl⟩) ?_)
     ·rintro x ⟨r,n3⟩ st' hx1 hx ⟨⟨e,hn1,hn2'⟩,xs,px,fx,ux,rfl⟩;dsimp only at e hn1 hn2' ux⊢;refine kE (ltG hq px (i:=n3) (j:=n3-1) rfl (by omega) (by omega) (by omega) hκ ?_)
      cases eb:an (gK (arrOf (setArr st xs)) lo n3) (gK (arrOf (setArr st xs)) lo (n3-1)) with
      |true=>exact kD ⟨⟨rfl,hn1,(by show n3<=nrem;omega)⟩,_,px,fx,ux,rfl⟩
      |false=>exact kD ⟨⟨rfl,(by show 1<=n3+1;omega),(by show n3+1=x+1;omega)⟩,_,px,fx,ux.step T fun _=>eb,rfl⟩
     ·rintro⟨r,n3⟩ st' ⟨⟨e,hn1,hn2'⟩,z⟩;dsimp only at e hn1 hn2' z⊢;exact⟨⟨e,hn1,by show n3<=nrem;omega⟩,z⟩
     ·rintro⟨r,n3⟩ st' ⟨⟨e,hn1,hn2'⟩,xs,px,fx,ux,rfl⟩;dsimp only at e hn1 hn2' ux⊢;subst e;exact kD (h n3 xs hn1 hn2' px fx ux)
 ·rw[if_neg c2];have n1:n=1:=by omega
  have d1:DnF an (gK (arrOf st) lo) (n+1):=DnF.step T (fun i j hij hj=>by omega) fun _=>T.asymm us'
  refine kE (jR (Qa ⟨rfl,?_⟩));refine kE (uz (pW (I:=fun x(c:Option (Option Nat)×Nat×Nat) st'=>(c.1=none/\1<=c.2.1/\c.2.1=x/\c.2.2+1<=c.2.1)/\∃xs,xs.Perm a₀/\FrL xs (arrOf st) lo/\DnF an (gK xs lo) c.2.1/\EqF an (gK xs lo) c.2.1 c.2.2/\st'=setArr st xs) (Q:=fun c st'=>(c.1=none/\1<=c.2.1/\c.2.1<=nrem/\c.2.2+1<=c.2.1)/\∃xs,xs.Perm a₀/\FrL xs (arrOf st) lo/\DnF an (gK xs lo) c.2.1/\EqF an (gK xs lo) c.2.1 c.2.2/\st'=setArr st xs) ?_ ?_ ⟨⟨rfl,(by show 1<=n+1;omega),rfl,(by show 0+1<=n+1;omega)⟩,_,hp,f0,d1,zhb T n,rfl⟩) ?_)
  ·rintro x ⟨r,n2,q2⟩ st' hx1 hx ⟨⟨e,hn1,hn2,hq2⟩,xs,px,fx,dx,ex,rfl⟩;dsimp only at e hn1 hn2 hq2 dx ex⊢;have sx:xs.size=a₀.size:=px.size_eq;refine kE (ltG hq px (i:=n2) (j:=n2-1) rfl (by omega) (by omega) (by omega) hκ ?_)
   cases eb:an (gK (arrOf (setArr st xs)) lo n2) (gK (arrOf (setArr st xs)) lo (n2-1)) with
   |true=>
    try dsimp only
    rw[if_pos rfl]
    by_cases qq:q2>0
    ·rw[if_pos qq];refine kE (uH (kD ⟨⟨rfl,(by show 1<=n2+1;omega),(by show n2+1=x+1;omega),(by show 0+1<=n2+1;omega)⟩,mirror xs (lo+(n2-(q2+1))) (lo+n2) ((lo+n2-(lo+(n2-(q2+1))))/2),(UM _ _ _ _).trans px,zdu (by omega) fx,zl1 T (by omega) hq2 dx ex eb,zhb T n2,?_⟩))
     rw[show lo+n2-(q2+1)=lo+(n2-(q2+1)) by omega];rfl
    ·rw[if_neg qq];exact kD ⟨⟨rfl,(by show 1<=n2+1;omega),(by show n2+1=x+1;omega),(by show 0+1<=n2+1;omega)⟩,_,px,fx,dx.step T fun _=>T.asymm eb,zhb T n2,rfl⟩
   |false=>
    refine kE (ltG hq px (i:=n2-1) (j:=n2) (by omega) rfl (by omega) (by omega) hκ ?_)
    cases ec:an (gK (arrOf (setArr st xs)) lo (n2-1)) (gK (arrOf (setArr st xs)) lo n2) with
    |true=>exact kD ⟨⟨rfl,hn1,(by show n2<=nrem;omega),hq2⟩,_,px,fx,dx,ex,rfl⟩
    |false=>exact kD ⟨⟨rfl,(by show 1<=n2+1;omega),(by show n2+1=x+1;omega),(by show q2+1+1<=n2+1;omega)⟩,_,px,fx,dx.step T fun _=>ec,zks T hn1 ex eb ec,rfl⟩
  ·rintro⟨r,n2,q2⟩ st' ⟨⟨e,hn1,hn2,hq2⟩,z⟩;dsimp only at e hn1 hn2 hq2 z⊢;exact⟨⟨e,hn1,by show n2<=nrem;omega,hq2⟩,z⟩
  ·rintro⟨r,n2,q2⟩ st' ⟨⟨e,hn1,hn2,hq2⟩,xs2,px2,fx2,dx2,ex2,rfl⟩;dsimp only at e hn1 hn2 hq2 dx2 ex2⊢;subst e;dsimp only;have sx:xs2.size=a₀.size:=px2.size_eq
   by_cases qq:q2>0
   ·rw[if_pos qq];have dr:=zkk T (by omega) dx2 ex2
    have er:lo+n2-(q2+1)=lo+(n2-(q2+1)):=by omega
    refine kE (uH ?_);refine kE (uH ?_);rw[er];have pr:(mirror xs2 (lo+(n2-(q2+1))) (lo+n2) ((lo+n2-(lo+(n2-(q2+1))))/2)).Perm a₀:=(UM _ _ _ _).trans px2;have fr:FrL (mirror xs2 (lo+(n2-(q2+1))) (lo+n2) ((lo+n2-(lo+(n2-(q2+1))))/2)) (arrOf st) lo:=zdu (by omega) fx2
    have sx3:(mirror xs2 (lo+(n2-(q2+1))) (lo+n2) ((lo+n2-(lo+(n2-(q2+1))))/2)).size=a₀.size:=pr.size_eq;refine kE (uz (pW (I:=fun x(c:Option (Option Nat)×Nat) st'=>(c.1=none/\1<=c.2/\c.2=x)/\∃xs,xs.Perm a₀/\FrL xs (arrOf st) lo/\UpF an (gK xs lo) c.2/\st'=setArr st xs) (Q:=fun c st'=>(c.1=none/\1<=c.2/\c.2<=nrem)/\∃xs,xs.Perm a₀/\FrL xs (arrOf st) lo/\UpF an (gK xs lo) c.2/\st'=setArr st xs) ?_ ?_ ⟨⟨rfl,(by show 1<=n2;omega),rfl⟩,_,(UM _ _ _ _).trans pr,zdu (a:=0) (by omega) fr,zjm (by omega) dr,rfl⟩) ?_)
    ·rintro x ⟨r,n3⟩ st' hx1 hx ⟨⟨e,hn1,hn2'⟩,xs,px,fx,ux,rfl⟩;dsimp only at e hn1 hn2' ux⊢;refine kE (ltG hq px (i:=n3) (j:=n3-1) rfl (by omega) (by omega) (by omega) hκ ?_)
     cases eb:an (gK (arrOf (setArr st xs)) lo n3) (gK (arrOf (setArr st xs)) lo (n3-1)) with
     |true=>exact kD ⟨⟨rfl,hn1,(by show n3<=nrem;omega)⟩,_,px,fx,ux,rfl⟩
     |false=>exact kD ⟨⟨rfl,(by show 1<=n3+1;omega),(by show n3+1=x+1;omega)⟩,_,px,fx,ux.step T fun _=>eb,rfl⟩
    ·rintro⟨r,n3⟩ st' ⟨⟨e,hn1,hn2'⟩,z⟩;dsimp only at e hn1 hn2' z⊢;exact⟨⟨e,hn1,by show n3<=nrem;omega⟩,z⟩
    ·rintro⟨r,n3⟩ st' ⟨⟨e,hn1,hn2'⟩,xs,px,fx,ux,rfl⟩;dsimp only at e hn1 hn2' ux⊢;subst e;exact kD (h n3 xs hn1 hn2' px fx ux)
   ·rw[if_neg qq];refine kE (uH ?_);refine kE (uz (pW (I:=fun x(c:Option (Option Nat)×Nat) st'=>(c.1=none/\1<=c.2/\c.2=x)/\∃xs,xs.Perm a₀/\FrL xs (arrOf st) lo/\UpF an (gK xs lo) c.2/\st'=setArr st xs) (Q:=fun c st'=>(c.1=none/\1<=c.2/\c.2<=nrem)/\∃xs,xs.Perm a₀/\FrL xs (arrOf st) lo/\UpF an (gK xs lo) c.2/\st'=setArr st xs) ?_ ?_ ⟨⟨rfl,(by show 1<=n2;omega),rfl⟩,_,(UM _ _ _ _).trans px2,zdu (a:=0) (by omega) fx2,zjm (by omega) dx2,rfl⟩) ?_)
    ·rintro x ⟨r,n3⟩ st' hx1 hx ⟨⟨e,hn1,hn2'⟩,xs,px,fx,ux,rfl⟩;dsimp only at e hn1 hn2' ux⊢;refine kE (ltG hq px (i:=n3) (j:=n3-1) rfl (by omega) (by omega) (by omega) hκ ?_)
     cases eb:an (gK (arrOf (setArr st xs)) lo n3) (gK (arrOf (setArr st xs)) lo (n3-1)) with
     |true=>exact kD ⟨⟨rfl,hn1,(by show n3<=nrem;omega)⟩,_,px,fx,ux,rfl⟩
     |false=>exact kD ⟨⟨rfl,(by show 1<=n3+1;omega),(by show n3+1=x+1;omega)⟩,_,px,fx,ux.step T fun _=>eb,rfl⟩
    ·rintro⟨r,n3⟩ st' ⟨⟨e,hn1,hn2'⟩,z⟩;dsimp only at e hn1 hn2' z⊢;exact⟨⟨e,hn1,by show n3<=nrem;omega⟩,z⟩
    ·rintro⟨r,n3⟩ st' ⟨⟨e,hn1,hn2'⟩,xs,px,fx,ux,rfl⟩;dsimp only at e hn1 hn2' ux⊢;subst e;exact kD (h n3 xs hn1 hn2' px fx ux)
end
section
variable{prog:Program}{w:World}{A:Around}{E:Value->Shared->Prop}{s:Shared}{a₀:Array Keyed}{κ:SortKind}{an:Keyed->Keyed->Bool}
theorem zm5{xs:Array Keyed}{lo l k:Nat}(hk:lo+k<xs.size)(hl:l<=k)(j:Nat):gK (bubble xs (lo+k) (lo+k-(lo+l))) lo j=if j=l then gK xs lo k else if l<j/\j<=k then gK xs lo (j-1) else gK xs lo j:=by
 unfold gK;rw[kR,gY hk _ (by omega)]
 by_cases c1:j=l
 ·rw[if_pos c1,if_pos (by omega),kR]
 ·rw[if_neg c1,if_neg (by omega)]
  by_cases c2:l<j/\j<=k
  ·rw[if_pos c2,if_pos (by omega),kR]
   congr 2
   omega
  ·rw[if_neg c2,if_neg (by omega),kR]
theorem frL_bub{xs ys:Array Keyed}{lo l k:Nat}(hk:lo+k<xs.size)(hl:l<=k)(h:FrL xs ys lo):FrL (bubble xs (lo+k) (lo+k-(lo+l))) ys lo:=fun j hj=>by
 rw[gY hk _ (by omega),if_neg (by omega),if_neg (by omega)]
 exact h j hj
theorem up_bub(T:WkT an){xs:Array Keyed}{lo l k:Nat}(hk:lo+k<xs.size)(hl:l<=k)(u:UpF an (gK xs lo) k)(h1:∀i,i<l->an (gK xs lo k) (gK xs lo i)=false)(h2:∀i,l<=i->i<k->an (gK xs lo k) (gK xs lo i)=true):UpF an (gK (bubble xs (lo+k) (lo+k-(lo+l))) lo) (k+1):=fun i j hij hj=>by
 rw[zm5 hk hl,zm5 hk hl]
 by_cases a1:j=l
 ·rw[if_pos a1,if_neg (by omega),if_neg (by omega)]
  exact h1 i (by omega)
 ·rw[if_neg a1]
  by_cases a2:l<j/\j<=k
  ·rw[if_pos a2]
   by_cases b1:i=l
   ·rw[if_pos b1];exact T.asymm (h2 (j-1) (by omega) (by omega))
   ·rw[if_neg b1]
    by_cases b2:l<i/\i<=k
    ·rw[if_pos b2];exact u (i-1) (j-1) (by omega) (by omega)
    ·rw[if_neg b2];exact u i (j-1) (by omega) (by omega)
  ·rw[if_neg a2,if_neg (by omega),if_neg (by omega)]
   exact u i j hij (by omega)
theorem binG(T:WkT an)(hq:QR prog w A E s κ a₀ an){lo n ok:Nat}{st:SortSt}{Q:Bool->SortSt->Prop}(hp:(arrOf st).Perm a₀)(hz:lo+n<=a₀.size)(hκ:kindOf st=κ)(u:UpF an (gK (arrOf st) lo) ok)
  (h:∀xs,xs.Perm a₀->FrL xs (arrOf st) lo->UpF an (gK xs lo) n->Q true (setArr st xs)):wpS (model prog w) A E s (binarySort' lo n ok) Q st:=by
 refine kE (uz (pW (I:=fun x(c:Option Bool×Unit) st'=>c.1=none/\∃xs,xs.Perm a₀/\FrL xs (arrOf st) lo/\UpF an (gK xs lo) x/\st'=setArr st xs) (Q:=fun c st'=>c.1=none/\∃xs,xs.Perm a₀/\FrL xs (arrOf st) lo/\UpF an (gK xs lo) n/\st'=setArr st xs) ?_ ?_ ⟨rfl,_,hp,fun _ _=>rfl,fun i j hij hj=>?_,rfl⟩) ?_)
 ·rintro x ⟨r,un⟩ st' hx1 hx ⟨e,xs,px,fx,ux,rfl⟩;dsimp only at e⊢;have sx:xs.size=a₀.size:=px.size_eq;refine kE (uz (pW (I:=fun y(c:Option Bool×Nat×Nat) st'=>c.1=none/\(c.2.1<=c.2.2/\c.2.2<=x/\c.2.2-c.2.1<=x-y)/\(∀i,i<c.2.1->an (gK xs lo x) (gK xs lo i)=false)/\(∀i,c.2.2<=i->i<x->an (gK xs lo x) (gK xs lo i)=true)/\st'=setArr st xs) (Q:=fun c st'=>c.1=none/\c.2.1<=x/\(∀i,i<c.2.1->an (gK xs lo x) (gK xs lo i)=false)/\(∀i,c.2.1<=i->i<x->an (gK xs lo x) (gK xs lo i)=true)/\st'=setArr st xs) ?_ ?_ ⟨rfl,⟨pI _,kI _,(by show x-0<=x-0;omega)⟩,fun i hi=>absurd hi (BZ _),fun i hi hi'=>(by have:x<=i:=hi;omega),rfl⟩) ?_)
  ·rintro y ⟨r1,l,r⟩ st' _ hy ⟨e1,⟨q1,q2,q3⟩,q4,q5,rfl⟩;dsimp only at e1 q1 q2 q3 q4 q5⊢
   by_cases c:l≥r
   ·rw[if_pos c];have el:l=r:=by omega
    subst el;exact kD ⟨rfl,q2,q4,q5,rfl⟩
   ·rw[if_neg c];refine kE (ltG hq px (i:=x) (j:=(l+r)/2) rfl rfl (by omega) (by omega) hκ ?_)
    cases eb:an (gK (arrOf (setArr st xs)) lo x) (gK (arrOf (setArr st xs)) lo ((l+r)/2)) with
    |true=>
     refine kD ⟨rfl,⟨(by show l<=(l+r)/2;omega),(by show(l+r)/2<=x;omega),(by show(l+r)/2-l<=x-(y+1);omega)⟩,q4,fun i hi hi'=>?_,rfl⟩
     have hi2:(l+r)/2<=i:=hi
     cases z:an (gK xs lo x) (gK xs lo i) with
     |true=>rfl
     |false=>
      rcases Ua hi2 with y1|y1
      ·have:=T.cut _ _ _ z (ux _ i y1 hi');rw[show an (gK xs lo x) (gK xs lo ((l+r)/2))=true from eb] at this
       cases this
      ·rw[←y1] at z;rw[show an (gK xs lo x) (gK xs lo ((l+r)/2))=true from eb] at z
       cases z
    |false=>
     refine kD ⟨rfl,⟨(by show(l+r)/2+1<=r;omega),q2,(by show r-((l+r)/2+1)<=x-(y+1);omega)⟩,fun i hi=>?_,q5,rfl⟩
     have hi2:i<(l+r)/2+1:=hi;rcases Ua (Nat.le_of_lt_succ hi2) with y1|y1
     ·exact T.cut _ _ _ eb (ux i _ y1 (by omega))
     ·rw[y1];exact eb
  ·rintro⟨r1,l,r⟩ st' ⟨e1,⟨q1,q2,q3⟩,q4,q5,rfl⟩;dsimp only at e1 q1 q2 q3 q4 q5⊢;have el:l=r:=by omega
   subst el;exact⟨e1,q2,q4,q5,rfl⟩
  ·rintro⟨r1,l,r⟩ st' ⟨e1,q2,q4,q5,rfl⟩;dsimp only at e1 q2 q4 q5⊢;subst e1;exact kE (uH (kD ⟨rfl,_,(BL _ _ _).trans px,frL_bub (by omega) q2 fx,up_bub T (by omega) q2 ux q4 q5,rfl⟩))
 ·rintro⟨r,un⟩ st' ⟨e,xs,px,fx,ux,rfl⟩;exact⟨e,xs,px,fx,fun i j hij hj=>ux i j hij (by omega),rfl⟩
 ·by_cases o:ok=0
  ·have:j<max ok 1:=hj;omega
  ·exact u i j hij (by have:j<max ok 1:=hj;omega)
 ·rintro⟨r,un⟩ st' ⟨e,xs,px,fx,ux,rfl⟩;dsimp only at e⊢;subst e;exact kD (h xs px fx ux)
end
section
variable{prog:Program}{w:World}{A:Around}{E:Value->Shared->Prop}{s:Shared}{a₀:Array Keyed}{κ:SortKind}{an:Keyed->Keyed->Bool}
theorem gK_at{xs:Array Keyed}{lo k:Nat}(h:lo+k<xs.size):gK xs lo k=xs[lo+k]:=by
 unfold gK;rw[kR,pH h];rfl
theorem ze9{xs:Array Keyed}{lo n:Nat}(h:lo+n<=xs.size):UpF an (gK xs lo) n↔UpL an ((xs.toList.drop lo).take n):=by
 have ln:((xs.toList.drop lo).take n).length=n:=by rw[kP,ki,kO];omega
 have at_:∀{i:Nat}(hi:i<((xs.toList.drop lo).take n).length),((xs.toList.drop lo).take n)[i]=gK xs lo i:=fun{i} hi=>by
  rw[ln] at hi;rw[uX,uN,pS,gK_at (by omega)]
 unfold UpL;rw[List.pairwise_iff_getElem]
 constructor
 ·intro u i j hi hj hij;rw[at_ hi,at_ hj];exact u i j hij (by omega)
 ·intro u i j hij hj;have:=u i j (by omega) (by omega) hij
  rw[at_ (by omega),at_ (by omega)] at this
  exact this
theorem zis{xs:Array Keyed}{lo n:Nat}(u:UpF an (gK xs lo) n):SrtS an xs lo n:=fun i j hij hj hi hj'=>by
 have:=u i j hij hj;rw[gK_at hj',gK_at hi] at this;exact this
theorem zht{a:Array Keyed}(u:UpL an a.toList):SrtS an a 0 a.size:=zis ((ze9 (by omega)).mpr (by
 rw[UT,kx (by rw[kO];exact kI _)]
 exact u))
def FrO(xs ys:Array Keyed)(lo hi:Nat):Prop:=∀k,k<lo∨hi<=k->xs[k]?=ys[k]?
theorem mergedS(T:WkT an){arr m:Array Keyed}{sa na nb k n:Nat}(hz:sa+na+nb<=arr.size)(hk:k<na)(hn:n<=nb)(ua:UpF an (gK arr sa) na)(ub:UpF an (gK arr (sa+na)) nb)
  (h1:∀i,i<k->an (gK arr (sa+na) 0) (gK arr sa i)=false)(h0:0<nb)(h2:∀i,n<=i->i<nb->an (gK arr (sa+na) i) (gK arr sa (na-1))=false)
  (hm:m.toList.Perm ((arr.extract (sa+k) (sa+na)).toList++(arr.extract (sa+na) (sa+na+n)).toList))(um:UpL an m.toList):
  UpF an (gK (m.toList.zipIdx.foldl (fun a(x:Keyed×Nat)=>match x with|(p,j)=>a.setIfInBounds (sa+k+j) p) arr) sa) (na+nb)/\
  FrO (m.toList.zipIdx.foldl (fun a(x:Keyed×Nat)=>match x with|(p,j)=>a.setIfInBounds (sa+k+j) p) arr) arr sa (sa+na+nb):=by
 have lm:m.toList.length=na-k+n:=by
  rw[hm.length_eq,kK,zbm,zbm,kP,kP,ki,ki,kO];omega
 have e:=ziw (sa+k) m.toList 0 arr (by omega)
 rw[CI,lm] at e;have pm:(m.toList.zipIdx.foldl (fun a(x:Keyed×Nat)=>match x with|(p,j)=>a.setIfInBounds (sa+k+j) p) arr).Perm arr:=zgj (sa:=sa+k) (sb:=sa+na) (nb:=n) (by omega) (by omega) hm
 have sz:=pm.size_eq;generalize m.toList.zipIdx.foldl (fun a(x:Keyed×Nat)=>match x with|(p,j)=>a.setIfInBounds (sa+k+j) p) arr=ys at*
 rw[ze9 (by omega)] at ua ub
 have eA:(arr.toList.drop sa).take na=(arr.toList.drop sa).take k++(arr.extract (sa+k) (sa+na)).toList:=by
  rw[zbm,show sa+na-(sa+k)=na-k by omega,←Qk]
  have:=uJ k ((arr.toList.drop sa).take na);rw[jQ,UI (by omega),vT] at this
  exact this.symm
 have eB:(arr.toList.drop (sa+na)).take nb=(arr.extract (sa+na) (sa+na+n)).toList++((arr.toList.drop (sa+na)).take nb).drop n:=by
  rw[ext_k];have:=uJ n ((arr.toList.drop (sa+na)).take nb);rw[jQ,UI hn] at this;exact this.symm
 have ey:(ys.toList.drop sa).take (na+nb)=(arr.toList.drop sa).take k++m.toList++((arr.toList.drop (sa+na)).take nb).drop n:=by
  rw[e,pG,List.drop_append_of_le_length (by rw[kP,kO];omega),vT,show sa+k-sa=k by omega,pG]
  rw[BE,kP,ki,kO,kx (by rw[kP];omega)]
  rw[BE,kx (l:=m.toList) (by rw[lm];omega),lm]
  congr 2
  rw[vT,Qk]
  congr 1
  ·omega
  ·congr 1
   omega
 rw[eA,zbb] at ua;rw[eB,zbb] at ub;have mA:∀x,x∈(arr.toList.drop sa).take k->an (gK arr (sa+na) 0) x=false:=fun x hx=>by
  obtain⟨i,hi,ei⟩:=po.mp hx;rw[kP,ki,kO] at hi;rw[←ei,uX,uN,pS,←gK_at (by omega)]
  exact h1 i (by omega)
 have b0:∀y,y∈(arr.toList.drop (sa+na)).take nb->an y (gK arr (sa+na) 0)=false:=fun y hy=>by
  have u:=(ze9 (an:=an) (xs:=arr) (lo:=sa+na) (n:=nb) (by omega)).mpr (by rw[eB,zbb];exact ub)
  obtain⟨i,hi,ei⟩:=po.mp hy;rw[kP,ki,kO] at hi;rw[←ei,uX,uN,pS,←gK_at (by omega)]
  by_cases z:i=0
  ·rw[z];exact T.irr _
  ·exact u 0 i (by omega) (by omega)
 have mB:∀y,y∈((arr.toList.drop (sa+na)).take nb).drop n->an y (gK arr sa (na-1))=false:=fun y hy=>by
  obtain⟨i,hi,ei⟩:=po.mp hy;rw[ki,kP,ki,kO] at hi;rw[←ei,uN,uX,uN,pS,←gK_at (by omega)]
  exact h2 (n+i) (by omega) (by omega)
 have al:∀x,x∈(arr.extract (sa+k) (sa+na)).toList->an (gK arr sa (na-1)) x=false:=fun x hx=>by
  have u:=(ze9 (an:=an) (xs:=arr) (lo:=sa) (n:=na) (by omega)).mpr (by rw[eA,zbb];exact ua)
  rw[zbm] at hx;obtain⟨i,hi,ei⟩:=po.mp hx;rw[kP,ki,kO] at hi;rw[←ei,uX,uN,pS];have ge:arr[sa+k+i]'(by omega)=gK arr sa (k+i):=by rw[gK_at (by omega)];congr 1;omega
  rw[ge]
  by_cases z:k+i=na-1
  ·rw[z];exact T.irr _
  ·exact u (k+i) (na-1) (by omega) (by omega)
 have mm:∀x,x∈m.toList->x∈(arr.extract (sa+k) (sa+na)).toList∨x∈(arr.extract (sa+na) (sa+na+n)).toList:=fun x hx=>kf.mp (hm.mem_iff.mp hx);have inB:∀x,x∈(arr.extract (sa+na) (sa+na+n)).toList->x∈(arr.toList.drop (sa+na)).take nb:=fun x hx=>by rw[eB];exact pi _ hx
 have inB2:∀x,x∈((arr.toList.drop (sa+na)).take nb).drop n->x∈(arr.toList.drop (sa+na)).take nb:=fun x hx=>by rw[eB];exact kJ _ hx
 refine⟨(ze9 (by omega)).mpr ?_,fun j hj=>?_⟩
 ·rw[ey,zbb,zbb];refine⟨⟨ua.1,um,fun x hx y hy=>?_⟩,ub.2.1,fun x hx y hy=>?_⟩
  ·rcases mm y hy with z|z
   ·exact ua.2.2 x hx y z
   ·exact T.cut _ _ _ (b0 y (inB y z)) (mA x hx)
  ·rcases kf.mp hx with hx|hx
   ·exact T.cut _ _ _ (b0 y (inB2 y hy)) (mA x hx)
   ·rcases mm x hx with z|z
    ·exact T.cut _ _ _ (mB y hy) (al x z)
    ·exact ub.2.2 x z y hy
 ·rw[←pY,e,←pY];rcases hj with hj|hj
  ·rw[pG,uY (by rw[kP,kO];omega),vH,if_pos (by omega)]
  ·rw[uV (by rw[kK,kP,kO,lm];omega),kK,kP,kO,lm,Qe]
   congr 1
   omega
end
section
variable{prog:Program}{w:World}{A:Around}{E:Value->Shared->Prop}{s:Shared}{a₀:Array Keyed}{κ:SortKind}{an:Keyed->Keyed->Bool}
theorem zia(xs:Array Keyed)(a n j:Nat):gK xs a (n+j)=gK xs (a+n) j:=by unfold gK;rw[Bx]
theorem upF_cat(T:WkT an){arr:Array Keyed}{sa na nb:Nat}(ua:UpF an (gK arr sa) na)(ub:UpF an (gK arr (sa+na)) nb)(h:∀i,i<na->an (gK arr (sa+na) 0) (gK arr sa i)=false):UpF an (gK arr sa) (na+nb):=fun i j hij hj=>by
 by_cases c1:j<na
 ·exact ua i j hij c1
 ·have ej:j=na+(j-na):=by omega
  have bj:∀x,x<nb->an (gK arr (sa+na) x) (gK arr (sa+na) 0)=false:=fun x hx=>by
   by_cases z:x=0
   ·rw[z];exact T.irr _
   ·exact ub 0 x (by omega) hx
  by_cases c2:i<na
  ·rw[ej,zia];exact T.cut _ _ _ (bj _ (by omega)) (h i c2)
  ·have ei:i=na+(i-na):=by omega
   rw[ej,ei,zia,zia];exact ub _ _ (by omega) (by omega)
theorem mergeG(T:WkT an)(hq:QR prog w A E s κ a₀ an){i sa na p1 nb p2:Nat}{st:SortSt}{Q:Bool->SortSt->Prop}(hp:(arrOf st).Perm a₀)(hκ:kindOf st=κ)(hf:failedOf st=none)(e1:(pendingOf st)[i]?=some (sa,na,p1))(e2:(pendingOf st)[i+1]?=some (sa+na,nb,p2))(n1:0<na)(n2:0<nb)(hz:sa+na+nb<=a₀.size)
  (ua:UpF an (gK (arrOf st) sa) na)(ub:UpF an (gK (arrOf st) (sa+na)) nb)
  (h:∀xs g,xs.Perm a₀->FrO xs (arrOf st) sa (sa+na+nb)->UpF an (gK xs sa) (na+nb)->Q true (pSt st xs (((pendingOf st).setIfInBounds i (sa,na+nb,p1)).eraseIdxIfInBounds (i+1)) g)):wpS (model prog w) A E s (mergeAt' i) Q st:=by
 have sz:(arrOf st).size=a₀.size:=hp.size_eq;have mem:∀x,x∈arrOf st->x∈a₀:=fun x hx=>hp.mem_iff.mp hx;refine kE (vF ?_);show wpS _ _ _ _ (match((pendingOf st)[i]?,(pendingOf st)[i+1]?) with|_=>_) _ _
 rw[e1,e2];dsimp only;refine kE (wpS_set ?_);refine kE (el_at (show sa+na<(arrOf st).size by omega) ?_)
 refine kE (galR T hq (mem _ (QD _)) mem (by show sa+na<=(arrOf st).size;omega) n1 hκ (zis ua) fun k hk t1 t2=>?_)
 dsimp only;have g0:gK (arrOf st) (sa+na) 0=(arrOf st)[sa+na]:=gK_at (by omega)
 have r1:∀j,j<k->an (gK (arrOf st) (sa+na) 0) (gK (arrOf st) sa j)=false:=fun j hj=>by
  rw[g0,gK_at (by omega)]
  exact t1 j hj (show sa+j<(arrOf st).size by omega)
 have r2:∀j,k<=j->j<na->an (gK (arrOf st) (sa+na) 0) (gK (arrOf st) sa j)=true:=fun j hj hj'=>by
  rw[g0,gK_at (by omega)]
  exact t2 j hj hj' (show sa+j<(arrOf st).size by omega)
 by_cases c1:(na-k==0)=true
 ·rw[if_pos c1];have z:na-k=0:=pA c1;exact kD (h _ _ hp (fun _ _=>rfl) (upF_cat T ua ub fun j hj=>r1 j (by omega)))
 rw[if_neg c1];have c1':na-k≠0:=fun z=>c1 (by rw[z];rfl)
 refine kE (el_at (show sa+k+(na-k)-1<(arrOf st).size by omega) ?_)
 refine kE (galL T hq (mem _ (QD _)) mem (by show sa+na+nb<=(arrOf st).size;omega) (by omega) hκ (zis ub) fun m hm u1 u2=>?_)
 dsimp only;have gl:(arrOf st)[sa+k+(na-k)-1]'(by omega)=gK (arrOf st) sa (na-1):=by
  rw[gK_at (by omega)]
  congr 1
  omega
 have v1:∀j,j<m->an (gK (arrOf st) (sa+na) j) (gK (arrOf st) sa (na-1))=true:=fun j hj=>by
  rw[gK_at (by omega),←gl]
  exact u1 j hj (show sa+na+j<(arrOf st).size by omega)
 have v2:∀j,m<=j->j<nb->an (gK (arrOf st) (sa+na) j) (gK (arrOf st) sa (na-1))=false:=fun j hj hj'=>by
  rw[gK_at (by omega),←gl]
  exact u2 j hj hj' (show sa+na+j<(arrOf st).size by omega)
 by_cases c2:(m==0)=true
 ·exfalso
  have z:m=0:=pA c2;have x1:=v2 0 (by omega) n2
  rw[r2 (na-1) (by omega) (by omega)] at x1
  cases x1
 rw[if_neg c2];have c2':m≠0:=fun z=>c2 (by rw[z];rfl)
 have s1:0<((arrOf st).extract (sa+k) (sa+na)).size:=by rw[vI];omega
 have s2:0<((arrOf st).extract (sa+na) (sa+na+m)).size:=by rw[vI];omega
 have z1:((arrOf st).extract (sa+k) (sa+na)).size=na-k:=by rw[vI];omega
 have z2:((arrOf st).extract (sa+na) (sa+na+m)).size=m:=by rw[vI];omega
 have inX:∀y,y∈((arrOf st).extract (sa+k) (sa+na)).toList->∃j,k<=j/\j<na/\y=gK (arrOf st) sa j:=fun y hy=>by
  rw[zbm] at hy;obtain⟨j,hj,ej⟩:=po.mp hy;rw[kP,ki,kO] at hj;refine⟨k+j,by omega,by omega,?_⟩
  rw[←ej,uX,uN,pS,gK_at (by omega)]
  congr 1
  omega
 have inY:∀y,y∈((arrOf st).extract (sa+na) (sa+na+m)).toList->∃j,j<m/\y=gK (arrOf st) (sa+na) j:=fun y hy=>by
  rw[ext_k] at hy;obtain⟨j,hj,ej⟩:=po.mp hy;rw[kP,ki,kO] at hj;exact⟨j,by omega,by rw[←ej,uX,uN,pS,gK_at (by omega)]⟩
 have ux:UpL an ((arrOf st).extract (sa+k) (sa+na)).toList:=by
  have:UpF an (gK (arrOf st) (sa+k)) (na-k):=fun a b hab hb=>by
   rw[←zia,←zia];exact ua _ _ (by omega) (by omega)
  rw[ze9 (by omega)] at this
  rw[zbm,show sa+na-(sa+k)=na-k by omega]
  exact this
 have uy:UpL an ((arrOf st).extract (sa+na) (sa+na+m)).toList:=by
  have:UpF an (gK (arrOf st) (sa+na)) m:=fun a b hab hb=>ub a b hab (by omega)
  rw[ze9 (by omega)] at this
  rw[ext_k];exact this
 have hz':∀y,y∈((arrOf st).extract (sa+k) (sa+na)).toList->an y ((arrOf st).extract (sa+na) (sa+na+m))[0]=false:=fun y hy=>by
  obtain⟨j,hj,hj',ey⟩:=inX y hy;have e0:((arrOf st).extract (sa+na) (sa+na+m))[0]=gK (arrOf st) (sa+na) 0:=by rw[gn,gK_at (by omega)]
  rw[e0,ey];exact T.asymm (r2 j hj hj')
 have hl':∀y,y∈((arrOf st).extract (sa+na) (sa+na+m)).toList->an (((arrOf st).extract (sa+k) (sa+na))[((arrOf st).extract (sa+k) (sa+na)).size-1]'(by omega)) y=false:=fun y hy=>by
  obtain⟨j,hj,ey⟩:=inY y hy;have e0:((arrOf st).extract (sa+k) (sa+na))[((arrOf st).extract (sa+k) (sa+na)).size-1]'(by omega)=gK (arrOf st) sa (na-1):=by
   rw[gn,gK_at (by omega)]
   congr 1
   omega
  rw[e0,ey];exact T.asymm (v1 j hj)
 have fin:∀(r:Array Keyed)(g:Nat),MgR an ((arrOf st).extract (sa+k) (sa+na)) ((arrOf st).extract (sa+na) (sa+na+m)) r->Q true (pSt st (r.toList.zipIdx.foldl (fun a(x:Keyed×Nat)=>match x with|(p,j)=>a.setIfInBounds (sa+k+j) p) (arrOf st)) (((pendingOf st).setIfInBounds i (sa,na+nb,p1)).eraseIdxIfInBounds (i+1)) g):=fun r g hr=>by
  have ms:=mergedS T (by omega) (show k<na by omega) hm ua ub r1 n2 v2 hr.1 hr.2
  exact h _ g ((zgj (by omega) (show sa+na+m<=(arrOf st).size by omega) hr.1).trans hp) ms.2 ms.1
 by_cases c3:na-k<=m
 ·rw[if_pos c3];refine kE (loG T hq (fun x hx=>mem x (zhw hx)) (fun x hx=>mem x (zhw hx)) s1 s2 hκ (loIv T ux uy s1 s2 hz' hl') (zht ux) (zht uy) fun r g hr=>?_);refine kE (uH (kE (vF (kD ?_))));show Q (failedOf st).isNone _;rw[hf];exact fin r g hr
 ·rw[if_neg c3];refine kE (hiG T hq (fun x hx=>mem x (zhw hx)) (fun x hx=>mem x (zhw hx)) s1 s2 hκ (hiIv T ux uy s1 s2 hz' hl') (zht ux) (zht uy) fun r g hr=>?_);refine kE (uH (kE (vF (kD ?_))));show Q (failedOf st).isNone _;rw[hf];exact fin r g hr
end
theorem Cov.in_:∀{l:List (Nat×Nat×Nat)}{b e j a n p:Nat},Cov l b e->l[j]?=some (a,n,p)->b<=a/\a+n<=e
 |(x,m,q)::r,b,e,0,a,n,p,h,e1=>by
  cases e1;obtain⟨h1,h2,h3⟩:=h;have:=Cov.le h3;exact⟨by omega,by omega⟩
 |(x,m,q)::r,b,e,j+1,a,n,p,h,e1=>by
  obtain⟨h1,h2,h3⟩:=h;have:=Cov.in_ h3 (show r[j]?=some (a,n,p) by simpa using e1)
  exact⟨by omega,this.2⟩
 |[],b,e,j,a,n,p,h,e1=>by cases j<;>cases e1
theorem Cov.lt_:∀{l:List (Nat×Nat×Nat)}{b e i j a n p a' n' p':Nat},Cov l b e->l[i]?=some (a,n,p)->l[j]?=some (a',n',p')->i<j->a+n<=a'
 |(x,m,q)::r,b,e,0,j+1,a,n,p,a',n',p',h,e1,e2,hij=>by
  cases e1;obtain⟨h1,h2,h3⟩:=h;have:=Cov.in_ h3 (show r[j]?=some (a',n',p') by simpa using e2)
  omega
 |(x,m,q)::r,b,e,i+1,j+1,a,n,p,a',n',p',h,e1,e2,hij=>Cov.lt_ h.2.2 (show r[i]?=some (a,n,p) by simpa using e1) (show r[j]?=some (a',n',p') by simpa using e2) (by omega)
 |[],b,e,i,j,a,n,p,a',n',p',h,e1,e2,hij=>by cases i<;>cases e1
 |_::_,b,e,i,0,a,n,p,a',n',p',h,e1,e2,hij=>by omega
theorem Cov.len:∀{l:List (Nat×Nat×Nat)}{b e:Nat},Cov l b e->l.length+b<=e
 |[],b,e,h=>by
  have h:b=e:=h
  simp[h]
 |(x,m,q)::r,b,e,h=>by
  obtain⟨h1,h2,h3⟩:=h;have:=Cov.len h3;rw[pQ];omega
theorem mem_merged{α:Type}{l:List α}{i:Nat}{x y:α}(h:y∈(l.set i x).eraseIdx (i+1)):y=x∨∃j,j≠i/\j≠i+1/\l[j]?=some y:=by
 obtain⟨j,hj⟩:=pZ.mp h;rw[List.getElem?_eraseIdx] at hj
 by_cases c:j<i+1
 ·rw[if_pos c] at hj
  by_cases e:i=j
  ·subst e
   by_cases c2:i<l.length
   ·rw[QZ c2] at hj;exact .inl (pJ hj).symm
   ·rw[Qd (by rw[UF];omega)] at hj
    cases hj
  ·rw[Qi e] at hj;exact .inr ⟨j,fun z=>e z.symm,by omega,hj⟩
 ·rw[if_neg c,Qi (by omega)] at hj
  exact .inr ⟨j+1,by omega,by omega,hj⟩
section
variable{prog:Program}{w:World}{A:Around}{E:Value->Shared->Prop}{s:Shared}{a₀:Array Keyed}{κ:SortKind}{an:Keyed->Keyed->Bool}
theorem zjf{xs ys:Array Keyed}{a n:Nat}(h:∀k,a<=k->k<a+n->xs[k]?=ys[k]?)(u:UpF an (gK ys a) n):UpF an (gK xs a) n:=fun i j hij hj=>by
 have e:∀k,k<n->gK xs a k=gK ys a k:=fun k hk=>by
  unfold gK;rw[kR,kR,h (a+k) (by omega) (by omega)]
 rw[e i (by omega),e j hj]
 exact u i j hij hj
def SIvG(an:Keyed->Keyed->Bool)(a₀:Array Keyed)(κ:SortKind)(lo:Nat)(st:SortSt):Prop:=SIv a₀ κ lo st/\∀a n p,(a,n,p)∈(pendingOf st).toList->UpF an (gK (arrOf st) a) n
theorem zg6(T:WkT an)(hq:QR prog w A E s κ a₀ an){i lo:Nat}{st:SortSt}{Q:Bool->SortSt->Prop}(iv:SIvG an a₀ κ lo st)(hi:i+1<(pendingOf st).size)(h:∀st',SIvG an a₀ κ lo st'->(pendingOf st').size+1=(pendingOf st).size->(∀k,lo<=k->(arrOf st')[k]?=(arrOf st)[k]?)->Q true st'):wpS (model prog w) A E s (mergeAt' i) Q st:=by
 obtain⟨⟨h1,h2,h3,h4,h5⟩,hr⟩:=iv;have e1:(pendingOf st)[i]?=some (pendingOf st)[i]:=pH (by omega)
 have e2:(pendingOf st)[i+1]?=some (pendingOf st)[i+1]:=pH hi;generalize (pendingOf st)[i]=u1 at e1;generalize (pendingOf st)[i+1]=u2 at e2;obtain⟨sa,na,p1⟩:=u1;obtain⟨sb,nb,p2⟩:=u2;have l1:(pendingOf st).toList[i]?=some (sa,na,p1):=by rw[pY];exact e1
 have l2:(pendingOf st).toList[i+1]?=some (sb,nb,p2):=by rw[pY];exact e2
 obtain⟨g1,g2,g3,g4,g5⟩:=h4.at l1 l2;subst g1;have ee:(((pendingOf st).setIfInBounds i (sa,na+nb,p1)).eraseIdxIfInBounds (i+1)).toList=((pendingOf st).toList.set i (sa,na+nb,p1)).eraseIdx (i+1):=by simp
 refine mergeG T hq h1 h2 h3 e1 e2 g2 g3 (by omega) (hr _ _ _ (kg l1)) (hr _ _ _ (kg l2)) fun xs g px fo uo=>h _ ⟨⟨px,h2,h3,?_,h5⟩,fun a n p hm=>?_⟩ ?_ fun k hk=>fo k (.inr (by omega))
 ·show Cov (((pendingOf st).setIfInBounds i (sa,na+nb,p1)).eraseIdxIfInBounds (i+1)).toList 0 lo
  rw[ee];exact g5
 ·have hm':(a,n,p)∈(((pendingOf st).setIfInBounds i (sa,na+nb,p1)).eraseIdxIfInBounds (i+1)).toList:=hm;rw[ee] at hm';rcases mem_merged hm' with z|⟨j,j1,j2,j3⟩
  ·cases z;exact uo
  ·refine zjf (fun k k1 k2=>fo k ?_) (hr a n p (kg j3));rcases Nat.lt_or_ge j i with z|z
   ·have:=Cov.lt_ h4 j3 l1 z;exact .inl (by omega)
   ·have:=Cov.lt_ h4 l2 j3 (by omega)
    exact .inr (by omega)
 ·show(((pendingOf st).setIfInBounds i (sa,na+nb,p1)).eraseIdxIfInBounds (i+1)).size+1=_
  have:=congrArg vK ee;rw[kO,List.length_eraseIdx,UF,kO,if_pos hi] at this;omega
theorem zg4{lo n:Nat}{st:SortSt}(iv:SIvG an a₀ κ lo st)(hn:0<n)(hz:lo+n<=a₀.size)(u:UpF an (gK (arrOf st) lo) n):SIvG an a₀ κ (lo+n) (setPending st ((pendingOf st).push (lo,n,0))):=by
 refine⟨push_iv iv.1 hn hz,fun a m p hm=>?_⟩;have hm':(a,m,p)∈((pendingOf st).push (lo,n,0)).toList:=hm;rw[jg] at hm';rcases kf.mp hm' with z|z
 ·exact iv.2 a m p z
 ·cases kr.mp z;exact u
theorem zi2{lo j w:Nat}{st:SortSt}(iv:SIvG an a₀ κ lo st):SIvG an a₀ κ lo (setPending st ((pendingOf st).modify j fun x=>(x.1,x.2.1,w))):=by
 refine⟨power_iv iv.1,fun a m p hm=>?_⟩;have hm':(a,m,p)∈((pendingOf st).modify j fun x=>(x.1,x.2.1,w)).toList:=hm;rw[AF] at hm';obtain⟨k,hk⟩:=pZ.mp hm';rw[List.getElem?_modify] at hk
 cases e:(pendingOf st).toList[k]? with
 |none=>rw[e] at hk;cases hk
 |some y=>
  rw[e] at hk;obtain⟨y1,y2,y3⟩:=y
  by_cases c:j=k
  ·simp only[c,if_true,uM,QB,By] at hk;obtain⟨rfl,rfl,_⟩:=hk;exact iv.2 _ _ _ (kg e)
  ·simp only[c,if_false,uM,QB,By] at hk;have hk':(y1,y2,y3)=(a,m,p):=by simpa using hk
   cases hk';exact iv.2 _ _ _ (kg e)
theorem SIvG.arr{lo:Nat}{st:SortSt}{xs:Array Keyed}(iv:SIvG an a₀ κ lo st)(px:xs.Perm a₀)(fx:FrL xs (arrOf st) lo):SIvG an a₀ κ lo (setArr st xs):=by
 refine⟨⟨px,iv.1.2.1,iv.1.2.2.1,iv.1.2.2.2.1,iv.1.2.2.2.2⟩,fun a n p hm=>?_⟩;have hm':(a,n,p)∈(pendingOf st).toList:=hm;obtain⟨j,hj⟩:=pZ.mp hm';have:=Cov.in_ iv.1.2.2.2.1 hj;exact zjf (fun k k1 k2=>fx k (by omega)) (iv.2 a n p hm')
theorem runsG(T:WkT an)(hq:QR prog w A E s κ a₀ an){st:SortSt}{Q:Unit->SortSt->Prop}(iv:SIvG an a₀ κ 0 st)(h:∀st',(arrOf st').Perm a₀->failedOf st'=none->UpL an (arrOf st').toList->Q () st'):wpS (model prog w) A E s sortRuns' Q st:=by
 have sz:(arrOf st).size=a₀.size:=iv.1.1.size_eq;rw[sortRuns'_eq];refine kE (vF ?_);dsimp only;rw[sz];refine kE (uz (pW (I:=fun x(c:Option Unit×Nat) st'=>c.1=none/\SIvG an a₀ κ c.2 st'/\x<=c.2) (Q:=fun c st'=>c.1=none/\SIvG an a₀ κ c.2 st'/\a₀.size<=c.2) ?_ (fun c _ z=>⟨z.1,z.2.1,kz (BF _ _) z.2.2⟩) ⟨rfl,iv,pI _⟩) ?_)
 ·rintro x ⟨r,lo⟩ st' _ hx ⟨e,iv,xl⟩;dsimp only at e iv xl⊢
  by_cases c1:lo≥a₀.size
  ·rw[if_pos c1];exact kD ⟨rfl,iv,c1⟩
  rw[if_neg c1];refine kE (countG T hq iv.1.1 (by omega) (by omega) iv.1.2.1 fun m xs hm1 hm2 px fx ux=>?_)
  dsimp only;have iv1:SIvG an a₀ κ lo (setArr st' xs):=iv.arr px fx
  by_cases c2:m<minRun' a₀.size a₀.size 0
  ·rw[if_pos c2];generalize minRun' a₀.size a₀.size 0=mr at*;refine kE (jR (Qa ⟨rfl,?_⟩));refine kE (binG T hq (st:=setArr st' xs) px (by omega) iv.1.2.1 ux fun ys py fy uy=>?_)
   rw[if_neg (by simp)]
   have iv2:SIvG an a₀ κ lo (setArr st' ys):=SIvG.arr (st:=setArr st' xs) iv1 py fy;refine kE (vF ?_)
   cases eb:(pendingOf (setArr st' ys)).back? with
   |none=>
    dsimp only;exact kE (uH (kD ⟨rfl,zg4 iv2 (by omega) (by omega) uy,(by show x+1<=lo+_;omega)⟩))
   |some q=>
    obtain⟨s1,n1,p1⟩:=q;dsimp only;refine kE (uz (pW (I:=fun _(c:Option Unit×Unit) st2=>c.1=none/\SIvG an a₀ κ lo st2/\UpF an (gK (arrOf st2) lo) (min (a₀.size-lo) mr)) (Q:=fun c st2=>c.1=none/\SIvG an a₀ κ lo st2/\UpF an (gK (arrOf st2) lo) (min (a₀.size-lo) mr)) ?_ (fun _ _ z=>z) ⟨rfl,iv2,uy⟩) ?_)
    ·rintro y ⟨r2,u⟩ st2 _ _ ⟨e2,iv2,uu⟩;dsimp only at e2 iv2 uu⊢;refine kE (vF ?_)
     by_cases c2:(pendingOf st2).size>1
     ·rw[if_pos c2,pH (show(pendingOf st2).size-2<(pendingOf st2).size by omega)]
      generalize (pendingOf st2)[(pendingOf st2).size-2]=q3;obtain⟨q31,q32,q33⟩:=q3;dsimp only
      split
      ·exact kD ⟨rfl,iv2,uu⟩
      ·exact kE (zg6 T hq iv2 (by omega) fun st3 iv3 _ fr3=>kD ⟨rfl,iv3,zjf (fun k k1 _=>fr3 k k1) uu⟩)
     ·rw[if_neg c2];exact kD ⟨rfl,iv2,uu⟩
    ·rintro⟨r2,u⟩ st2 ⟨e2,iv2,uu⟩;dsimp only at e2 iv2 uu⊢;subst e2;exact kE (uH (kE (uH (kD ⟨rfl,zg4 (zi2 iv2) (by omega) (by omega) uu,(by show x+1<=lo+_;omega)⟩))))
  ·rw[if_neg c2];refine kE (vF ?_)
   cases eb:(pendingOf (setArr st' xs)).back? with
   |none=>
    dsimp only;exact kE (uH (kD ⟨rfl,zg4 iv1 (by omega) (by omega) ux,(by show x+1<=lo+_;omega)⟩))
   |some q=>
    obtain⟨s1,n1,p1⟩:=q;dsimp only;refine kE (uz (pW (I:=fun _(c:Option Unit×Unit) st2=>c.1=none/\SIvG an a₀ κ lo st2/\UpF an (gK (arrOf st2) lo) (m)) (Q:=fun c st2=>c.1=none/\SIvG an a₀ κ lo st2/\UpF an (gK (arrOf st2) lo) (m)) ?_ (fun _ _ z=>z) ⟨rfl,iv1,ux⟩) ?_)
    ·rintro y ⟨r2,u⟩ st2 _ _ ⟨e2,iv2,uu⟩;dsimp only at e2 iv2 uu⊢;refine kE (vF ?_)
     by_cases c2:(pendingOf st2).size>1
     ·rw[if_pos c2,pH (show(pendingOf st2).size-2<(pendingOf st2).size by omega)]
      generalize (pendingOf st2)[(pendingOf st2).size-2]=q3;obtain⟨q31,q32,q33⟩:=q3;dsimp only
      split
      ·exact kD ⟨rfl,iv2,uu⟩
      ·exact kE (zg6 T hq iv2 (by omega) fun st3 iv3 _ fr3=>kD ⟨rfl,iv3,zjf (fun k k1 _=>fr3 k k1) uu⟩)
     ·rw[if_neg c2];exact kD ⟨rfl,iv2,uu⟩
    ·rintro⟨r2,u⟩ st2 ⟨e2,iv2,uu⟩;dsimp only at e2 iv2 uu⊢;subst e2;exact kE (uH (kE (uH (kD ⟨rfl,zg4 (zi2 iv2) (by omega) (by omega) uu,(by show x+1<=lo+_;omega)⟩))))
 ·rintro⟨r,lo⟩ st' ⟨e,iv,xl⟩;dsimp only at e iv xl⊢;subst e;dsimp only;have el:lo=a₀.size:=by have:=iv.1.2.2.2.2;omega
  have pl:(pendingOf st').size<=a₀.size:=by
   have:=Cov.len iv.1.2.2.2.1;rw[kO] at this;omega
  refine kE (uz (pW (I:=fun y(c:Option Unit×Unit) st2=>c.1=none/\SIvG an a₀ κ lo st2/\((pendingOf st2).size<=1∨(pendingOf st2).size+y<=a₀.size)) (Q:=fun c st2=>c.1=none/\SIvG an a₀ κ lo st2/\(pendingOf st2).size<=1) ?_ (fun c _ z=>⟨z.1,z.2.1,z.2.2.elim id fun z=>by have:=BF 0 a₀.size;omega⟩) ⟨rfl,iv,.inr pl⟩) ?_)
  ·rintro y ⟨r2,u⟩ st2 _ _ ⟨e2,iv2,ps⟩;dsimp only at e2 iv2 ps⊢;refine kE (vF ?_)
   by_cases c2:(pendingOf st2).size<=1
   ·rw[if_pos c2];exact kD ⟨rfl,iv2,c2⟩
   ·rw[if_neg c2];exact kE (zg6 T hq iv2 (ite_lt (by omega) (by omega)) fun st3 iv3 z3 _=>kD ⟨rfl,iv3,.inr (by omega)⟩)
  ·rintro⟨r2,u⟩ st2 ⟨e2,iv2,ps⟩;dsimp only at e2 iv2 ps⊢;subst e2;refine kD (h st2 iv2.1.1 iv2.1.2.2.1 ?_);have s2:(arrOf st2).size=a₀.size:=iv2.1.1.size_eq;have all:UpF an (gK (arrOf st2) 0) a₀.size:=by
    have cv:=iv2.1.2.2.2.1;have rr:=iv2.2;rw[el] at cv
    cases ep:(pendingOf st2).toList with
    |nil=>
     rw[ep] at cv;have z:0=a₀.size:=cv;exact fun i j hij hj=>by omega
    |cons q l=>
     obtain⟨qa,qn,qp⟩:=q;have hl:l=[]:=by
      have:=congrArg vK ep;rw[kO,pQ] at this;exact List.length_eq_zero_iff.mp (by omega)
     subst hl;rw[ep] at cv;obtain⟨z1,z2,z3⟩:=cv;have z3':0+qn=a₀.size:=z3;have:=rr qa qn qp (by rw[ep];exact kr.mpr rfl)
     rw[z1,show qn=a₀.size by omega] at this
     exact this
   rw[ze9 (by omega),UT,kx (by rw[kO];omega)] at all
   exact all
end
open PySem.W (kla_fn kla_obj envX tabObj CodeHd KasT kas_sort kas_ask kas_item)
theorem perm_map_inv{α β:Type}{g:α->β}:∀{l:List β}{m:List α},l.Perm (m.map g)->∃p:List α,p.Perm m/\l=p.map g:=by
 intro l m h;generalize e:m.map g=r at h
 induction h generalizing m with
 |nil=>
  cases m with
  |nil=>exact⟨[],.refl _,rfl⟩
  |cons x xs=>cases e
 |@cons x l1 l2 _ ih=>
  cases m with
  |nil=>cases e
  |cons y ys=>
   rw[pE] at e
   cases e;obtain⟨p,h1,h2⟩:=ih rfl;exact⟨y::p,h1.cons y,by rw[h2,pE]⟩
 |swap x y l=>
  cases m with
  |nil=>cases e
  |cons a as=>
   cases as with
   |nil=>cases e
   |cons b bs=>
    rw[pE,pE] at e
    cases e;exact⟨b::a::bs,.swap a b bs,rfl⟩
 |trans _ _ i1 i2=>
  obtain⟨p2,h1,h2⟩:=i2 e;obtain⟨p1,h3,h4⟩:=i1 h2.symm;exact⟨p1,h3.trans h1,h4⟩
section
variable{prog:Program}{w:World}{A:Around}{E:Value->Shared->Prop}{s:Shared}{vs ks:List Value}{g:Heap}{a kS:Addr}{e e1:Nat}{f:Value}
def KeyFinP2(prog:Program)(w:World)(A:Around)(a kS:Addr)(e1:Nat)(vs ks:List Value)(P:Qv->Shared->Prop)(s:Shared):Prop:=
 s.heap.get? a=some (seqObj "list" #[] e1)/\∃(κ:SortKind)(ans:Nat->Nat->Bool),Wk ans/\(∀i j,i<ks.length->j<ks.length->ks[i]?=ks[j]?->∀k,ans i k=ans j k/\ans k i=ans k j)/\
  (2<=vs.length->∀Q':SortKind->Shared->Prop,Q' κ s->wpAny (model prog w) A (keyKind' ks.toArray) Q' (fun _ _=>False) s)/\
  (2<=vs.length->∀i j,i<ks.length->j<ks.length->∀C,C (ans i j) s->wpAny (model prog w) A (keyLt' κ (ks.getD i .none) (ks.getD j .none)) C (fun _ _=>False) s)/\
  ∀p:List Nat,p.Perm (uP vs.length)->p.Pairwise (fun i j=>ans j i=false)->P (.done (.ret .none)) {s with heap:=(s.heap.update kS (kq fun _=>(#[]:Array Value))).update a (kq fun _=>(p.map fun i=>vs.getD i .none).toArray)}
open Classical in
noncomputable def kIdx(ks:List Value)(u:Value):Nat:=if h:∃i,i<ks.length/\ks[i]?=some u then Classical.choose h else 0
theorem zhq{ks:List Value}{i:Nat}{u:Value}(h:ks[i]?=some u):kIdx ks u<ks.length/\ks[kIdx ks u]?=some u:=by
 have ex:∃i,i<ks.length/\ks[i]?=some u:=⟨i,(kG.mp h).1,h⟩;unfold kIdx;rw[dif_pos ex];exact Classical.choose_spec ex
theorem qr_ofK{κ:SortKind}{ans:Nat->Nat->Bool}(hc:∀i j,i<ks.length->j<ks.length->∀C,C (ans i j) s->wpAny (model prog w) A (keyLt' κ (ks.getD i .none) (ks.getD j .none)) C (fun _ _=>False) s):QR prog w A E s κ (ks.toArray.zip vs.toArray) (fun x y=>ans (kIdx ks x.1) (kIdx ks y.1)):=by
 intro x y st Q hx hy hκ h;rw[lt'_eq];refine kE (vF ?_);rw[hκ];obtain⟨i,hi⟩:=pZ.mp (zjv hx);obtain⟨j,hj⟩:=pZ.mp (zjv hy);obtain⟨i1,i2⟩:=zhq hi;obtain⟨j1,j2⟩:=zhq hj;have z:=hc _ _ i1 j1 (fun b s'=>b=ans (kIdx ks x.1) (kIdx ks y.1)/\s'=s) ⟨rfl,rfl⟩;rw[kB,kB,i2,j2] at z;refine kE (jR (Uh (uL z (fun b s' e=>?_) fun _ _ z=>z.elim)));obtain⟨e1,e2⟩:=e;subst e1 e2;exact⟨rfl,kD h⟩
theorem keyedG_end{P:Qv->Shared->Prop}(hl:ks.length=vs.length)(zl:vs.length<=sizeLine)(nak:a≠kS)(hk:s.heap.get? kS=some (seqObj "list" ks.toArray e))(h:KeyFinP2 prog w A a kS e1 vs ks P s):
  wpAny (model prog w) A (CG a false vs.toArray e1 (.ref kS) ks.toArray) P E s:=by
 obtain⟨ha,κ,ans,wk,cons,hkind,hask,q⟩:=h;have z0:vs.toArray.size=vs.length:=rfl;have zz:(ks.toArray.zip vs.toArray).toList=(uP vs.length).map fun i=>(ks.getD i .none,vs.getD i .none):=by
  rw[BC];refine vR fun i=>?_;rw[ke]
  by_cases c:i<vs.length
  ·rw[jA c,kL (by simp[hl,c])]
   simp[List.getElem_zip,kB,c,hl]
  ·rw[Qd (by simp;omega),Qd (by simp;omega)]
   rfl
 have tk:WkT (fun x y:Keyed=>ans (kIdx ks x.1) (kIdx ks y.1)):=⟨fun _=>wk.irr _,fun _ _ _ h1 h2=>wk.tr _ _ _ h1 h2,fun _ _ _ h1 h2=>wk.cut _ _ _ h1 h2⟩;have fin:∀st:SortSt,(arrOf st).Perm (ks.toArray.zip vs.toArray)->UpL (fun x y:Keyed=>ans (kIdx ks x.1) (kIdx ks y.1)) (arrOf st).toList->∃p:List Nat,p.Perm (uP vs.length)/\p.Pairwise (fun i j=>ans j i=false)/\(arrOf st).map (·.2)=(p.map fun i=>vs.getD i .none).toArray:=fun st hp hu=>by
  have h1:=jN.mp hp;rw[zz] at h1;obtain⟨p,p1,p2⟩:=perm_map_inv h1;refine⟨p,p1,?_,?_⟩
  ·rw[p2] at hu;have hu':=List.pairwise_map.mp hu;refine vB (fun{i j} hi hj z=>?_) hu';have bi:i<ks.length:=by rw[hl];exact QF.mp (p1.mem_iff.mp hi)
   have bj:j<ks.length:=by rw[hl];exact QF.mp (p1.mem_iff.mp hj)
   have gi:ks[i]?=some (ks.getD i .none):=by rw[kB,kL bi];rfl
   have gj:ks[j]?=some (ks.getD j .none):=by rw[kB,kL bj];rfl
   obtain⟨k1,k2⟩:=zhq gi;obtain⟨l1,l2⟩:=zhq gj;have c1:=(cons _ _ l1 bj (l2.trans gj.symm) (kIdx ks (ks.getD i .none))).1;have c2:=(cons _ _ k1 bi (k2.trans gi.symm) j).2;rw[←c2,←c1];exact z
  ·apply vd.mp
   rw[Array.toList_map,p2,UN];rfl
 unfold CG;dsimp only;simp only[pR,if_false]
 by_cases h2:vs.length<2
 ·rw[z0,if_pos h2,if_pos h2,CC];rw[BQ];refine kA (kM ?_);obtain⟨p,p1,p2,p3⟩:=fin (AT general' (ks.toArray.zip vs.toArray) #[] 7 none) (Ba _) (by
   show UpL _ (ks.toArray.zip vs.toArray).toList
   have ll:(ks.toArray.zip vs.toArray).toList.length<2:=by rw[zz,kN,pd];exact h2
   generalize (ks.toArray.zip vs.toArray).toList=l at ll
   cases l with
   |nil=>exact .nil
   |cons x l=>cases l with
    |nil=>exact Qo _ _
    |cons y l=>exact absurd ll (by simp only[pQ];omega))
  exact zge (ys:=p.map fun i=>vs.getD i .none) p3 rfl (by rw[kN,p1.length_eq,pd]) zl (by omega) nak hk ha (q p p1 p2)
 ·have h2':2<=vs.length:=by omega
  rw[z0,if_neg h2,if_neg h2];refine kA (uL (hkind h2' (fun κ' s'=>κ'=κ/\s'=s) ⟨rfl,rfl⟩) (fun κ' s' hs=>?_) fun _ _ z=>z.elim);obtain⟨rfl,rfl⟩:=hs;have run:=runsG (E:=E) tk (qr_ofK (vs:=vs) (hask h2')) (st:=AT κ' (ks.toArray.zip vs.toArray) #[] 7 none) (Q:=fun _ st'=>(arrOf st').Perm (ks.toArray.zip vs.toArray)/\failedOf st'=none/\UpL (fun x y:Keyed=>ans (kIdx ks x.1) (kIdx ks y.1)) (arrOf st').toList) ⟨⟨Ba _,rfl,rfl,rfl,pI _⟩,fun a n p hm=>by cases hm⟩ fun st' x y z=>⟨x,y,z⟩
  refine kA (uL run ?_ fun _ _ e=>e);rintro⟨⟨⟩,st⟩ s'' ⟨rfl,hp,hf,hu⟩;dsimp only at hp hf hu⊢;obtain⟨p,p1,p2,p3⟩:=fin st hp hu;exact zge (ys:=p.map fun i=>vs.getD i .none) p3 hf (by rw[kN,p1.length_eq,pd]) zl (by omega) nak hk ha (q p p1 p2)
structure KeyRunG(prog:Program)(w:World)(A:Around)(a kS:Addr)(e1:Nat)(f:Value)(vs:List Value)(P:Qv->Shared->Prop)(J:Nat->List Value->Nat->Shared->Prop):Prop where
 store:∀i ks e s,J i ks e s->s.heap.get? kS=some (seqObj "list" ks.toArray e)/\ks.length=i
 turn:∀i x ks e s,vs[i]?=some x->J i ks e s->wpAny (model prog w) A (call f [x]) (fun k s'=>s'.heap.get? kS=some (seqObj "list" ks.toArray e)/\
  ∀c,(s'.heap.update kS (kq (·.push k))).get? kS=some (seqObj "list" (ks++[k]).toArray c)->J (i+1) (ks++[k]) c {s' with heap:=s'.heap.update kS (kq (·.push k))}) (fun _ _=>False) s
 fin:∀ks e s,J vs.length ks e s->KeyFinP2 prog w A a kS e1 vs ks P s
theorem zgb{P:Qv->Shared->Prop}{J:Nat->List Value->Nat->Shared->Prop}{body:Value->PUnit->Sem (ForInStep PUnit)}(R:KeyRunG prog w A a kS e1 f vs P J)
  (hb:∀i x ks e(s:Shared),vs[i]?=some x->J i ks e s->wpAny (model prog w) A (body x ⟨⟩) (fun r s'=>r=.yield ⟨⟩/\∃k c,J (i+1) (ks++[k]) c s') E s):
  ∀(r:List Value)(i:Nat)(ks:List Value)(e:Nat)(s:Shared),i<=vs.length->vs.drop i=r->J i ks e s->wpAny (model prog w) A (forIn r Cb body) (fun _ s'=>∃ks e,J vs.length ks e s') E s
 |[],i,ks,e,s,hi,hr,h=>by
  rw[jM];have e0:i=vs.length:=BR hi (AA.mp hr);subst e0;exact kM ⟨ks,e,h⟩
 |x::r,i,ks,e,s,hi,hr,h=>by
  rw[vC];have hx:vs[i]?=some x:=by
   have z:=congrArg (fun l=>l[0]?) hr
   simpa[Qe] using z
  have hr2:vs.drop (i+1)=r:=by
   have z:=congrArg (List.drop 1) hr
   simpa[Qk,gI] using z
  refine kA (uL (hb i x ks e s hx h) (fun q s' hq=>?_) fun _ _ z=>z);obtain⟨rfl,k,c,h2⟩:=hq;exact zgb R hb r (i+1) (ks++[k]) c s' (kG.mp hx).1 hr2 h2
theorem keyedG_rest{P:Qv->Shared->Prop}{J:Nat->List Value->Nat->Shared->Prop}(R:KeyRunG prog w A a kS e1 f vs P J)(zl:vs.length<=sizeLine)(nak:a≠kS)(h0:J 0 [] 0 s):
  wpAny (model prog w) A (Bl a f false vs.toArray e1 (.ref kS)) P E s:=by
 unfold Bl;refine kA (Qa ?_);rw[AR];refine kA (uL (zgb R (fun i x ks e s' hx hJ=>?_) vs 0 [] 0 s (pI _) UT h0) (fun _ s' hd=>?_) fun _ _ z=>z)
 ·have hi:=(kG.mp hx).1;have hl:=(R.store i ks e s' hJ).2;refine kA (Uh (uL (R.turn i x ks e s' hx hJ) (fun k s'' hk=>?_) fun _ _ hF=>hF.elim));obtain⟨hk1,hk2⟩:=hk;have pk:(ue ks).push k=ue (ks++[k]):=by rw[Ai]
  obtain⟨c2,hc2⟩:∃c2,(s''.heap.update kS (kq (·.push k))).get? kS=some (seqObj "list" (ue (ks++[k])) c2):=⟨_,by rw[←pk];exact Qp hk1 (·.push k)⟩
  try dsimp only
  refine kA (UP hk1 rfl ?_ (by rw[kZ];omega) (kz (Qq (BS ..)) (by rw[kZ];omega)))
  exact kM ⟨rfl,k,c2,hk2 c2 hc2⟩
 ·obtain⟨ks,e,hJ⟩:=hd;obtain⟨hk,hl⟩:=R.store _ _ _ _ hJ
  try dsimp only
  refine kA (gJ hk rfl ?_);exact keyedG_end hl zl nak hk (R.fin ks e s' hJ)
theorem keyedG_tree{n:Nat}{P:Qv->Shared->Prop}(hg:Keeps g s.heap)(ga:g.objs.size<=a)(ho:s.heap.get? a=some (seqObj "list" vs.toArray n))(zl:vs.length<=sizeLine)
  (h:∀kS e1 h',Keeps g h'->a<kS->h'.get? a=some (seqObj "list" #[] e1)->h'.get? kS=some (seqObj "list" #[] 0)->∃J,KeyRunG prog w A a kS e1 f vs P J/\J 0 [] 0 {s with heap:=h'}):
  wpAny (model prog w) A (Bm a f false) P E s:=by
 have k1:Keeps g (s.heap.update a (kq fun _=>(#[]:Array Value))):=hg.upd ga;obtain⟨c1,o1⟩:∃c1,(s.heap.update a (kq fun _=>(#[]:Array Value))).get? a=some (seqObj "list" #[] c1):=⟨_,Qp ho _⟩;have k3:=(k1.push (seqObj "tuple" vs.toArray 0)).push (seqObj "list" #[] 0);have o3:=kF (seqObj "list" #[] 0) (kF (seqObj "tuple" vs.toArray 0) o1);have lt:a<((s.heap.update a (kq fun _=>(#[]:Array Value))).push (seqObj "tuple" vs.toArray 0)).objs.size:=kT (kF _ o1);obtain⟨J,R,h0⟩:=h _ c1 _ k3 lt o3 (kY _ rfl);unfold Bm;refine kA (gJ ho rfl (kA (UP ho rfl (kA (gz o1 rfl (kA (gv (kA (Uy (QY ?_) (pI _))) zl)))) zl (pI _))));exact keyedG_rest (s:={s with heap:=((s.heap.update a (kq fun _=>(#[]:Array Value))).push (seqObj "tuple" vs.toArray 0)).push (seqObj "list" #[] 0)}) R zl (pD lt) h0
theorem sortedKG_at{l fa:Addr}{Q:Value->Shared->Prop}(hl:s.heap.IsList l vs.toArray)(zl:vs.length<=sizeLine)
  (h:∀D kS e1 h',D=s.heap.objs.size+1->Keeps s.heap h'->D<kS->h'.get? D=some (seqObj "list" #[] e1)->h'.get? kS=some (seqObj "list" #[] 0)->∃J,KeyRunG prog w A.in1.in1 D kS e1 (.ref fa) vs (fun r s'=>r=.done (.ret .none)->Q (.ref D) s') J/\J 0 [] 0 {s with heap:=h'}):
  wpAny (model prog w) A (call (.builtin "sorted") [.ref l] [(pK "key",.ref fa)]) Q E s:=by
 have k0:Keeps s.heap s.heap:=fun _ _ e=>e;have k2:=((k0.push (seqObj "list" #[] 0)).upd (a:=s.heap.objs.size) (f:=kq (·++vs.toArray)) (kI _)).push (seqObj "list" vs.toArray 0);have z2:((s.heap.push (seqObj "list" #[] 0)).update s.heap.objs.size (kq (·++vs.toArray))).objs.size=s.heap.objs.size+1:=by
  rw[BD,size_push']
 have o2:(((s.heap.push (seqObj "list" #[] 0)).update s.heap.objs.size (kq (·++vs.toArray))).push (seqObj "list" vs.toArray 0)).get? (s.heap.objs.size+1)=some (seqObj "list" vs.toArray 0):=
  z2▸kY _ rfl
 refine gN kind_sorted plain_sorted entry_sorted (ksk_s1 _ _) ?_;unfold Builtin.«sorted»;refine kA (m:=checkCount _ _ _ _) (kM (kA (collect_list hl (kA (Uy ?_ zl)) zl)));rw[show(({s with heap:=(s.heap.push (seqObj "list" #[] 0)).update s.heap.objs.size (kq (·++vs.toArray))}:Shared).heap.objs.size)=s.heap.objs.size+1 from z2];refine kA (QY (AG slot_list_sort ⟨_,o2,rfl⟩ BW ?body (ksk_l1 _ _)))
 case body=>
  show wpAny (model prog w) A.in1.in1 (Builtin.«list.sort» ⟨[.ref (s.heap.objs.size+1)],[(pK "key",.ref fa)]⟩) _ _ _
  rw[ksk_t1];refine uL (keyedG_tree (s:={s with heap:=((s.heap.push (seqObj "list" #[] 0)).update s.heap.objs.size (kq (·++vs.toArray))).push (seqObj "list" vs.toArray 0)}) (P:=fun r s'=>r=.done (.ret .none)/\(r=.done (.ret .none)->Q (.ref (s.heap.objs.size+1)) s')) k2 (Qt _) o2 zl fun kS e1 h' kk lt ha hk=>?_) (fun r s' hq=>?_) fun _ _ z=>z
  ·obtain⟨J,R,h0⟩:=h _ kS e1 h' rfl kk lt ha hk;refine⟨J,⟨R.store,R.turn,fun ks e s' hJ=>?_⟩,h0⟩;obtain⟨f1,κ,ans,f0,f5,f2,f3,f4⟩:=R.fin ks e s' hJ;exact⟨f1,κ,ans,f0,f5,f2,f3,fun p p1 p2=>⟨rfl,f4 p p1 p2⟩⟩
  ·obtain⟨rfl,hq⟩:=hq;exact⟨_,rfl,kM ⟨_,rfl,hq rfl⟩⟩
end
open PySem.W (kla_fn kla_obj envX tabObj CodeHd KasT kas_sort kas_ask kas_item)
structure KPGood(KP:KPT):Prop where
 wk:∀{H zs ans},KP H zs ans->Wk ans
 cons:∀{H zs ans},KP H zs ans->∀i j,i<zs.length->j<zs.length->zs[i]?=zs[j]?->∀k,ans i k=ans j k/\ans k i=ans k j
structure KeyRS(KP:KPT)(te:TE)(vy:V)(c':Addr)(q:Str)(vs:List V)(H:Hp)(Q:VK)(Pv:Nat->List V->Hp->Prop):Prop where
 start:Pv 0 [] H
 code:∀i zs H',Pv i zs H'->H' c'=some (codeX c' q)
 len:∀i zs H',Pv i zs H'->zs.length=i
 turn:∀i zs H' v,vs[i]?=some v->Pv i zs H'->te [some v,some vy] H' fun k H''=>Pv (i+1) (zs++[k]) H''
 fin:∀zs H',Pv vs.length zs H'->∃ans,KP H' zs ans/\∀D(p:List Nat),H' D=none->p.Perm (uP vs.length)->p.Pairwise (fun i j=>ans j i=false)->Q (.ref D) (upd H' D (.lst (p.map fun i=>vs.getD i .non)))
theorem zio{vs:List V}{us:List Value}(r:Vals vs us):∀{p:List Nat},(∀i,i∈p->i<vs.length)->Vals (p.map fun i=>vs.getD i .non) (p.map fun i=>us.getD i .none)
 |[],_=>.nil
 |i::p,h=>by
  have hi:=h i ku;obtain⟨u,hu,ru⟩:=r.get (kL hi);refine .cons ?_ (zio r fun j hj=>h j (pB _ hj));show RelV (vs.getD i .non) (us.getD i .none);rw[kB,kL hi,kB,hu];exact ru
section
variable{X:Cx}{pins:List (Addr×Obj)}{σ:St}{H:Hp}{s:Shared}
theorem sortKS_run{KP:KPT}{k i0:Nat}{x y ql:Str}{params:Arguments}{body:Expr}{sc:Scope}{fa c c' l:Addr}{pm ctv:Value}{vy:V}{vs:List V}{te:TE}{Q:VK}{Pv:Nat->List V->Hp->Prop}(I:Inv X pins σ H s)(hKP:KeyKP X KP)(hG:KPGood KP)(hr:Room (k+2) X.A)(S:LamScope x y sc)
  (hN:X.N[i0]?=some y)(hσ:σ[i0]?=some (some vy))(hk:X.env.scope.names.lookup y=some .cell)(hcl:X.env.cells.lookup y=some c)(hfa:FpOk X pins H fa)(hfo:s.heap.get? fa=some (kla_obj "<lambda>" ql params body sc [(y,c)] pm c' ctv))
  (hbind:∀u,bindArgs (kla_fn "<lambda>" ql params body sc [(y,c)] pm (.ref c') ctv) ⟨[u],[]⟩=pure [(x,u)])(hbody:∀(A:Around)(s:Shared)(H:Hp),A.units+64<cLine->PE (cxLam X.prog X.w X.K X.mg X.base x y ql sc fa (.ref c') c A X.stack s H) body te)
  (hl:H l=some (.lst vs))(zl':vs.length<=sizeLine)(R:KeyRS KP te vy c' ql vs H Q Pv):wpAny (model X.prog X.w) X.A (call (.builtin "sorted") [.ref l] [(pK "key",.ref fa)]) (EP X pins σ Q) X.xe s:=by
 obtain⟨its,rv,pl,hz⟩:=I.list (.of hl);have len:vs.length=its.length:=rv.length;have un:=hr.un;refine sortedKG_at (vs:=its) pl.isList (by omega) fun D kS e1 h' eD kk lt hD hkS=>?_
 have sD:s.heap.objs.size<=D:=by omega
 have sK:s.heap.objs.size<=kS:=by omega
 have fD:=I.fpOk sD (I.hok.fresh sD);have fK:=I.fpOk sK (I.hok.fresh sK);have faD:fa≠D:=pD (ko (kT hfo) sD);have faK:fa≠kS:=pD (ko (kT hfo) sK);have DK:D≠kS:=pD lt;have nseq:∀(b:Array Value)(m:Nat)(v:Option Value),(seqObj "list" b m).data≠.cell v:=fun b m v z=>nomatch (show CS b m=jw v from z);have nfun:∀v,(kla_obj "<lambda>" ql params body sc [(y,c)] pm c' ctv).data≠.cell v:=fun v z=>nomatch (show Data.func _=jw v from z);have pin3:∀{ks:List Value}{e:Nat}{H':Hp}{s':Shared},Inv X pins σ H' s'->H' fa=none->H' D=none->H' kS=none->s'.heap.get? fa=some (kla_obj "<lambda>" ql params body sc [(y,c)] pm c' ctv)->s'.heap.get? D=some (seqObj "list" #[] e1)->s'.heap.get? kS=some (seqObj "list" ks.toArray e)->
   Inv X (pins++[(fa,kla_obj "<lambda>" ql params body sc [(y,c)] pm c' ctv),(D,seqObj "list" #[] e1),(kS,seqObj "list" ks.toArray e)]) σ H' s':=fun{ks e H' s'} J n1 n2 n3 o1 o2 o3=>by
  refine J.pins_of fun p hp=>?_;rcases kf.mp hp with hp|hp
  ·exact J.pin p (kJ _ hp)
  ·simp only[kh,pP,or_false] at hp;rcases hp with rfl|rfl|rfl
   ·exact⟨o1,n1,hfa.2.1,hfa.2.2.1,nfun⟩
   ·exact⟨o2,n2,fD.2.1,fD.2.2.1,nseq _ _⟩
   ·exact⟨o3,n3,fK.2.1,fK.2.2.1,nseq _ _⟩
 have of3:∀{ks:List Value}{e:Nat}{H':Hp}{s':Shared},Inv X (pins++[(fa,kla_obj "<lambda>" ql params body sc [(y,c)] pm c' ctv),(D,seqObj "list" #[] e1),(kS,seqObj "list" ks.toArray e)]) σ H' s'->
   Inv X pins σ H' s'/\(H' fa=none/\H' D=none/\H' kS=none)/\s'.heap.get? fa=some (kla_obj "<lambda>" ql params body sc [(y,c)] pm c' ctv)/\s'.heap.get? D=some (seqObj "list" #[] e1)/\s'.heap.get? kS=some (seqObj "list" ks.toArray e):=fun{ks e H' s'} J=>by
  have p1:=J.pin (fa,kla_obj "<lambda>" ql params body sc [(y,c)] pm c' ctv) (kJ _ (kJ _ (by simp)))
  have p2:=J.pin (D,seqObj "list" #[] e1) (kJ _ (kJ _ (by simp)))
  have p3:=J.pin (kS,seqObj "list" ks.toArray e) (kJ _ (kJ _ (by simp)))
  exact⟨J.unpinned,⟨p1.2.1,p2.2.1,p3.2.1⟩,p1.1,p2.1,p3.1⟩
 refine⟨fun i ks e s'=>∃H' zs,Inv X (pins++[(fa,kla_obj "<lambda>" ql params body sc [(y,c)] pm c' ctv),(D,seqObj "list" #[] e1),(kS,seqObj "list" ks.toArray e)]) σ H' s'/\Vals zs ks/\Pv i zs H',⟨fun i ks e s' hJ=>?_,fun i u ks e s' hu hJ=>?_,fun ks e s' hJ=>?_⟩,H,[],?_,.nil,R.start⟩
 ·obtain⟨H',zs,J,r,p⟩:=hJ;exact⟨(of3 J).2.2.2.2,by rw[←r.length];exact R.len _ _ _ p⟩
 ·obtain⟨H',zs,J,r,p⟩:=hJ;obtain⟨J0,⟨n1,n2,n3⟩,o1,o2,o3⟩:=of3 J;obtain⟨v,hv,ru⟩:=vals_get? rv hu;obtain⟨uy,ry,hcell⟩:=zk4 J hN hσ hk hcl;have hcd:s'.heap.CodeRec (.ref c') ql:=(J.hok c' _ (R.code _ _ _ p)).1;refine uL (lam_run J J.env0.in1.in1 (hr.in1.in1) S o1 hcd (hbind u) ru ry hcell (J.freeC _ _ hcl) (hbody _ s' H' (by show X.A.units+1+1+64<cLine;omega)) (R.turn i zs H' v hv p)) (fun u' s'' hs=>?_) fun _ _ z=>z
  obtain⟨kv,H'',J',rk,p'⟩:=hs;obtain⟨J1,⟨m1,m2,m3⟩,q1,q2,q3⟩:=of3 J';refine⟨q3,fun c2 hc2=>⟨H'',zs++[kv],?_,zfk r rk,p'⟩⟩;have J2:Inv X pins σ H'' {s'' with heap:=s''.heap.update kS (kq (·.push u')),toks:=s''.toks}:=J1.turned (it:=kS) (fun b o hb e=>by rw[pO _ _ _ _ hb];exact e) m3 fK.2.1 fK.2.2.2.1 fK.2.2.2.2.1 fK.2.2.2.2.2
  exact pin3 J2 m1 m2 m3 (by show(s''.heap.update kS _).get? fa=_;rw[pO _ _ _ _ faK];exact q1) (by show(s''.heap.update kS _).get? D=_;rw[pO _ _ _ _ DK];exact q2) hc2
 ·obtain⟨H',zs,J,r,p⟩:=hJ;obtain⟨J0,⟨n1,n2,n3⟩,o1,o2,o3⟩:=of3 J;rw[←len] at p;obtain⟨ans,ok,q⟩:=R.fin zs H' p;have zl:=R.len _ _ _ p;have kl:ks.length=its.length:=by rw[←r.length,zl,len]
  obtain⟨κ,k1,k2⟩:=hKP _ _ _ _ _ _ _ J0 r ok;rw[kl] at k1 k2;have zk:zs.length=ks.length:=r.length;have kv:∀{i:Nat},i<ks.length->∃v u,zs[i]?=some v/\ks[i]?=some u/\RelV v u:=fun{i} hi=>by
   obtain⟨u,hu,ru⟩:=r.get (kL (show i<zs.length by omega))
   exact⟨_,u,kL (by omega),hu,ru⟩
  refine⟨o2,κ,ans,hG.wk ok,fun i j hi hj e=>hG.cons ok i j (by omega) (by omega) ?_,k1,fun h2 i j hi hj C hC=>?_,fun p p1 p2 _=>?_⟩
  ·obtain⟨v,u,a1,a2,a3⟩:=kv hi;obtain⟨v',u',b1,b2,b3⟩:=kv hj;rw[a2,b2] at e
   cases e;rw[a1,b1,RelV.inj a3 b3]
  ·exact k2 h2 i j C (by omega) (by omega) hC
  ·have J2:Inv X pins σ H' {s' with heap:=s'.heap.update kS (kq fun _=>(#[]:Array Value)),toks:=s'.toks}:=J0.turned (it:=kS) (fun b o hb e=>by rw[pO _ _ _ _ hb];exact e) n3 fK.2.1 fK.2.2.2.1 fK.2.2.2.2.1 fK.2.2.2.2.2
   have o4:(s'.heap.update kS (kq fun _=>(#[]:Array Value))).get? D=some (seqObj "list" #[] e1):=by rw[pO _ _ _ _ DK];exact o2
   rw[←len] at p1;have rp:=zio rv (p:=p) fun i hi=>QF.mp (p1.mem_iff.mp hi);obtain⟨c5,o5⟩:∃c5,((s'.heap.update kS (kq fun _=>(#[]:Array Value))).update D (kq fun _=>(p.map fun i=>its.getD i .none).toArray)).get? D=some (seqObj "list" (p.map fun i=>its.getD i .none).toArray c5):=⟨_,Qp o4 _⟩;exact⟨.ref D,upd H' D (.lst (p.map fun i=>vs.getD i .non)),J2.track (t':=s'.toks) ⟨n2,fD.2⟩ (fun b o hb e=>by rw[pO _ _ _ _ hb];exact e) (by rw[kN,p1.length_eq,pd];exact zl') rp o5,rfl,q D p n2 p1 p2⟩
 ·have J0:Inv X pins σ H {s with heap:=h',toks:=s.toks}:=I.kept kk;exact pin3 J0 hfa.1 (I.hok.fresh sD) (I.hok.fresh sK) (kk _ _ hfo) hD hkS
end
section
variable{X:Cx}{p pos lpos kpos:Pos}{e body:Expr}{params:Arguments}{sc:Scope}{x y:Str}{c c0 P:Addr}{i0 k:Nat}{te tl:TE}
def tSortS(KP:KPT)(P:Addr)(lpos:Pos)(ql:Str)(i0:Nat)(te tl:TE):TE:=fun σ H Q=>tCons tl tNil σ H fun xs H1=>∃l vs vy,xs=[.ref l]/\H1 l=some (.lst vs)/\vs.length<=sizeLine/\σ[i0]?=some (some vy)/\LamTab H1 P lpos ql/\
 ∀c' H2,SameT P H1 H2->LamTab H2 P lpos ql->H2 c'=some (codeX c' ql)->∃Pv,KeyRS KP te vy c' ql vs H2 Q Pv
theorem pe_sortS{KP:KPT}(hKP:KeyKP X KP)(hG:KPGood KP)(hr:Room (k+2) X.A)(hg:Gl X "sorted")(hm:X.mg "sorted"=none)(ha:PA X [e] (tCons tl tNil))(S:LamScope x y sc)(hN:X.N[i0]?=some y)(hk:X.env.scope.names.lookup y=some .cell)(hcl:X.env.cells.lookup y=some c)
  (hclos:closureFor sc X.env=pure [(y,c)])(hdef:defaultsOf params X.env=([],[]))(hcode:X.env.code=.ref c0)(C:CodeHd X.base c0 P)(hB:X.base.BuiltinsAt X.mg P)
  (hbind:∀(pm cd ctv u:Value),bindArgs (kla_fn "<lambda>" (X.env.qual++"<lambda>") params body sc [(y,c)] pm cd ctv) ⟨[u],[]⟩=pure [(x,u)])
  (hbody:∀(fa c':Addr)(A:Around)(s:Shared)(H:Hp),A.units+64<cLine->PE (cxLam X.prog X.w X.K X.mg X.base x y (X.env.qual++"<lambda>") sc fa (.ref c') c A X.stack s H) body te)
  (he:backTo pos (pX [e] X.env)=(false,eval e X.env)::backTo pos (pX [] X.env):=by rfl)(hpl:(backTo pos (pX [e] X.env)).any (·.1)=false:=by rfl):
  PE X (.Call (.Name "sorted" p) [e] [⟨some "key",.Lambda params body sc lpos,kpos⟩] pos) (tSortS KP P lpos (X.env.qual++"<lambda>") i0 te tl):=by
 intro pins s σ H Q I h;refine Qw (ze2 I hg hm zg7 ?_);refine BM (thn (ha pos pins s σ H _ I h) fun us s1⟨vs',H1,I1,r1,q1⟩=>?_) he hpl rfl rfl;obtain⟨l,vs,vy,ev,hl,h64,hσ,ht,q⟩:=q1;subst ev;obtain⟨u,rfl,ru⟩:=vals1 r1
 cases ru;refine kws_cons (zj7 (C:=C) I1 hcode hB hclos hdef ht fun fa c' ctv H2 s2 I2 st lt hfo hc' ffa=>kws_nil ?_);obtain⟨Pv,R⟩:=q c' H2 st lt hc';have nl:l≠P:=fun z=>by
  obtain⟨ps,hP,_⟩:=ht;rw[z,hP] at hl
  cases hl
 exact sortKS_run I2 hKP hG hr S hN hσ hk hcl ffa hfo (fun u=>hbind _ _ _ u) (hbody fa c') (st l _ nl hl) h64 R
end
theorem sto_K:STO ltK:=by
 have e:ltK=lt2:=by
  funext a b
  unfold ltK lt2 lexB
  by_cases h:a.1=b.1
  ·rw[if_pos h,if_pos h]
   by_cases h2:a.2=b.2
   ·rw[if_pos h2];exact(decide_eq_false (by omega)).symm
   ·rw[if_neg h2]
  ·rw[if_neg h,if_neg h]
 rw[e];exact sto2
theorem kpG_pairs:KPGood KPp:=by
 refine⟨fun{H zs ans} h=>?_,fun{H zs ans} h i j hi hj e k=>?_⟩
 ·obtain⟨kp,_,rfl⟩:=h;exact Wk.of sto_K kp
 ·obtain⟨kp,ok,rfl⟩:=h;obtain⟨q,e1,h1⟩:=ok i hi;obtain⟨q',e2,h2⟩:=ok j hj;rw[e,e2] at e1
  cases e1;rw[h1] at h2;have:kp i=kp j:=by
   injection h2 with h2
   injection h2 with h2
   injection h2 with x1 h2
   injection h2 with x2 _
   injection x1 with x1
   injection x2 with x2
   exact Prod.ext x1 x2
  show ltK (kp i) (kp k)=ltK (kp j) (kp k)/\ltK (kp k) (kp i)=ltK (kp k) (kp j)
  rw[this];exact⟨rfl,rfl⟩
section
variable{t u:TS}{te ta tb:TE}{c c':TT}{D:Ends}{σ:St}{H:Hp}{Q:VK}{g:TG}{gs:TGs}{a:TA}{v w x y:V}{xs l:List V}{p:Addr}{i j k:Int}{b:Bool}
def yB(v:V)(Q:Bool->Prop):Prop:=∃k,v=.bl k/\Q k
def yI(v:V)(Q:Int->Prop):Prop:=∃k,v=.int k/\Q k
def yTw(vs:List V)(Q:V->V->Prop):Prop:=∃v w,vs=[v,w]/\Q v w
def yX(xs:List V)(i:Int)(Q:V->Prop):Prop:=∃v,atI xs i=some v/\Q v
def yJ(o:Option Nat)(Q:Nat->Prop):Prop:=∃j,o=some j/\Q j
theorem yB_bl{Q:Bool->Prop}:yB (.bl b) Q=Q b:=propext ⟨fun⟨k,e,q⟩=>by cases e;exact q,fun q=>⟨_,rfl,q⟩⟩
theorem yI_int{Q:Int->Prop}:yI (.int i) Q=Q i:=propext ⟨fun⟨k,e,q⟩=>by cases e;exact q,fun q=>⟨_,rfl,q⟩⟩
theorem yTw_two{Q:V->V->Prop}:yTw [v,w] Q=Q v w:=propext ⟨fun⟨k,e,f,q⟩=>by cases f;exact q,fun q=>⟨_,_,rfl,q⟩⟩
theorem yX_of{Q:V->Prop}{v:V}(h:atI xs i=some v):yX xs i Q=Q v:=propext ⟨fun⟨k,e,q⟩=>by rw[h] at e;cases e;exact q,fun q=>⟨_,h,q⟩⟩
theorem yX_0{Q:V->Prop}{x0:V}:yX (x0::l) 0 Q=Q x0:=yX_of at0
theorem yX_1{Q:V->Prop}{x0 x1:V}:yX (x0::x1::l) 1 Q=Q x1:=yX_of at1
theorem yX_2{Q:V->Prop}{x0 x1 x2:V}:yX (x0::x1::x2::l) 2 Q=Q x2:=yX_of at2
theorem y_next:tNext D σ H=D.nx σ H:=rfl
theorem y_seq:tSeq t u D σ H=t {D with nx:=u D} σ H:=rfl
theorem y_ret:tRet te D σ H=te σ H D.rt:=rfl
theorem y_ifS:tIfS c t u D σ H=c σ H fun b H1=>if b=true then t D σ H1 else u D σ H1:=rfl
theorem y_asg:tAsg te g D σ H=te σ H fun x H1=>g x σ H1 D.nx:=rfl
theorem y_drop:tDrop te D σ H=te σ H fun _ H1=>D.nx σ H1:=rfl
theorem y_par{i j:Nat}:tPar i j a D σ H=a σ H fun vs H1=>yTw vs fun v w=>gName i v σ H1 fun σ' H'=>gName j w σ' H' D.nx:=rfl
theorem y_c:tC v σ H Q=Q v H:=rfl
theorem y_op{r:R2}:tOp r ta tb σ H Q=ta σ H fun x H1=>tb σ H1 fun y H2=>r x y H2 Q:=rfl
theorem y_un{r:V->Hp->VK->Prop}:tUn r ta σ H Q=ta σ H fun x H1=>r x H1 Q:=rfl
theorem y_rI{C:Int->Int->Prop}{g:Int->Int->V}:rI C g (.int i) (.int j) H Q=(C i j/\Q (g i j) H):=propext ⟨fun⟨a,b,e,f,q⟩=>by cases e;cases f;exact q,fun q=>⟨_,_,rfl,rfl,q⟩⟩
theorem y_rI0{g:Int->Int->V}:rI0 g (.int i) (.int j) H Q=Q (g i j) H:=propext ⟨fun⟨a,b,e,f,q⟩=>by cases e;cases f;exact q,fun q=>⟨_,_,rfl,rfl,q⟩⟩
theorem y_rU{g:Int->V}:rU g (.int i) H Q=Q (g i) H:=propext ⟨fun⟨a,e,q⟩=>by cases e;exact q,fun q=>⟨_,rfl,q⟩⟩
theorem dec_yint:decide (V.int i=V.int j)=decide (i=j):=by
 by_cases h:i=j
 ·subst h;rw[decide_eq_true rfl,decide_eq_true rfl]
 ·rw[decide_eq_false h,decide_eq_false (fun z=>h (by cases z;rfl))]
theorem y_eq:rEq x y H Q=(scal x y=true/\Q (.bl (decide (x=y))) H):=rfl
theorem y_ne:rNe x y H Q=(scal x y=true/\Q (.bl (!decide (x=y))) H):=rfl
section
variable{Q:Bool->Hp->Prop}
theorem y_test:tTest te σ H Q=te σ H fun x H'=>yB x fun k=>Q k H':=rfl
theorem y_B:tB te σ H Q=te σ H fun x H'=>yB x fun k=>Q k H':=rfl
theorem y_not:tNot c σ H Q=c σ H fun c H1=>Q (!c) H1:=rfl
theorem y_and:tAnd c c' σ H Q=c σ H fun b H1=>if b=true then c' σ H1 Q else Q false H1:=rfl
theorem y_or:tOr c c' σ H Q=c σ H fun b H1=>if b=true then Q true H1 else c' σ H1 Q:=rfl
theorem y_yes:tYes σ H Q=Q true H:=rfl
end
theorem y_andV:tAndV ta tb σ H Q=ta σ H fun x H1=>yB x fun c=>if c=true then tb σ H1 Q else Q (.bl false) H1:=rfl
theorem y_notV:tNotV ta σ H Q=ta σ H fun x H1=>yB x fun c=>Q (.bl (!c)) H1:=rfl
theorem y_if:tIf c ta tb σ H Q=c σ H fun c H1=>if c=true then ta σ H1 Q else tb σ H1 Q:=rfl
theorem y_cb{r:List V->Hp->VK->Prop}:tCB r a σ H Q=a σ H fun vs H1=>r vs H1 Q:=rfl
theorem y_call{sp:Sp}{dvs:List V}{E:XK}:tCall sp dvs E a σ H Q=a σ H fun vs H1=>sp (vs++dvs) H1 Q E:=rfl
section
variable{Q:List V->Hp->Prop}
theorem y_nil:tNil σ H Q=Q [] H:=rfl
theorem y_cons:tCons te a σ H Q=te σ H fun x H1=>a σ H1 fun xs H2=>Q (x::xs) H2:=rfl
end
theorem y_tup:tTup a σ H Q=a σ H fun xs H1=>xs.length<=sizeLine/\∀p,H1 p=none->Q (.ref p) (upd H1 p (.tup xs)):=rfl
theorem y_lst:tLst a σ H Q=a σ H fun xs H1=>xs.length<=sizeLine/\∀p,H1 p=none->Q (.ref p) (upd H1 p (.lst xs)):=rfl
section
variable{Q:St->Hp->Prop}
theorem y_gnil:gNil [] σ H Q=Q σ H:=propext ⟨fun h=>h.2,fun h=>⟨rfl,h⟩⟩
theorem y_gcons:gCons g gs (v::l) σ H Q=g v σ H fun σ' H'=>gs l σ' H' Q:=propext ⟨fun⟨a,b,e,q⟩=>by cases e;exact q,fun q=>⟨_,_,rfl,q⟩⟩
theorem y_gtup{n:Nat}:gTupH n gs (.ref p) σ H Q=match H p with|some (.tup xs)=>(xs.length=n/\gs xs σ H Q)|_=>False:=by
 refine propext ⟨fun⟨a,xs,e,h,q⟩=>?_,fun q=>?_⟩
 ·cases e;rw[h];exact q
 ·split at q
  ·exact⟨_,_,rfl,‹_›,q⟩
  ·exact q.elim
theorem y_gsub{s:TSet}:gSub ta tb s v σ H Q=ta σ H fun o H1=>tb σ H1 fun i H2=>s o i v H2 fun H3=>Q σ H3:=rfl
end
theorem y_ixT:rIxTH (.ref p) (.int i) H Q=match H p with|some (.tup xs)=>yX xs i fun v=>Q v H|_=>False:=by
 refine propext ⟨fun⟨a,xs,k,v,e,f,h,g,q⟩=>?_,fun q=>?_⟩
 ·cases e;cases f;rw[h];exact⟨v,g,q⟩
 ·split at q
  ·obtain⟨v,g,q⟩:=q;exact⟨_,_,_,v,rfl,rfl,‹_›,g,q⟩
  ·exact q.elim
theorem y_ixL:rIxLH (.ref p) (.int i) H Q=match H p with|some (.lst xs)=>yX xs i fun v=>Q v H|_=>False:=by
 refine propext ⟨fun⟨a,xs,k,v,e,f,h,g,q⟩=>?_,fun q=>?_⟩
 ·cases e;cases f;rw[h];exact⟨v,g,q⟩
 ·split at q
  ·obtain⟨v,g,q⟩:=q;exact⟨_,_,_,v,rfl,rfl,‹_›,g,q⟩
  ·exact q.elim
theorem y_len:rLenH [.ref p] H Q=match H p with|some (.lst ys)=>Q (.int ys.length) H|some (.tup ys)=>Q (.int ys.length) H|_=>False:=by
 refine propext ⟨fun⟨a,xs,e,h,q⟩=>?_,fun q=>?_⟩
 ·cases e;rcases h with h|h<;>(rw[h];exact q)
 ·split at q
  ·exact⟨_,_,rfl,.inl ‹_›,q⟩
  ·exact⟨_,_,rfl,.inr ‹_›,q⟩
  ·exact q.elim
theorem y_list:rListH [.ref p] H Q=match H p with|some (.lst ys)=>(∀l,H l=none->Q (.ref l) (upd H l (.lst ys)))|some (.tup ys)=>(∀l,H l=none->Q (.ref l) (upd H l (.lst ys)))|_=>False:=by
 refine propext ⟨fun⟨a,xs,e,h,q⟩=>?_,fun q=>?_⟩
 ·cases e;rcases h with h|h<;>(rw[h];exact q)
 ·split at q
  ·exact⟨_,_,rfl,.inl ‹_›,q⟩
  ·exact⟨_,_,rfl,.inr ‹_›,q⟩
  ·exact q.elim
theorem y_slH{lo hi:Option Int}:rSlH (.ref p) lo hi H Q=match H p with|some (.lst xs)=>(∀q,H q=none->Q (.ref q) (upd H q (.lst (cutV xs lo hi))))|_=>False:=by
 refine propext ⟨fun⟨a,xs,e,h,q⟩=>?_,fun q=>?_⟩
 ·cases e;rw[h];exact q
 ·split at q
  ·exact⟨_,_,rfl,‹_›,q⟩
  ·exact q.elim
theorem y_isi{T:String}:rIsiF T [x,.ty T] H Q=match tyF H x with|some S=>Q (.bl (isiB S T)) H|none=>False:=by
 refine propext ⟨fun⟨a,S,e,h,q⟩=>?_,fun q=>?_⟩
 ·cases e;rw[h];exact q
 ·split at q
  ·exact⟨_,_,rfl,‹_›,q⟩
  ·exact q.elim
theorem y_append:rAppend (.ref p) [y] H Q=match H p with|some (.lst xs)=>(xs.length<sizeLine/\Q .non (upd H p (.lst (xs++[y]))))|_=>False:=by
 refine propext ⟨fun⟨a,xs,z,e,f,h,q⟩=>?_,fun q=>?_⟩
 ·cases e;cases f;rw[h];exact q
 ·split at q
  ·exact⟨_,_,_,rfl,rfl,‹_›,q⟩
  ·exact q.elim
theorem y_clear:rClear (.ref p) [] H Q=match H p with|some (.lst xs)=>Q .non (upd H p (.lst []))|_=>False:=by
 refine propext ⟨fun⟨a,xs,e,f,h,q⟩=>?_,fun q=>?_⟩
 ·cases e;rw[h];exact q
 ·split at q
  ·exact⟨_,_,rfl,rfl,‹_›,q⟩
  ·exact q.elim
theorem ym_tup{o:Option HO}{Q:List V->Prop}:(match o with|some (.tup xs)=>Q xs|_=>False)=∃xs,o=some (.tup xs)/\Q xs:=by
 refine propext ⟨fun q=>?_,fun⟨xs,e,q⟩=>by subst e;exact q⟩
 split at q
 ·exact⟨_,rfl,q⟩
 ·exact q.elim
theorem ym_lst{o:Option HO}{Q:List V->Prop}:(match o with|some (.lst xs)=>Q xs|_=>False)=∃xs,o=some (.lst xs)/\Q xs:=by
 refine propext ⟨fun q=>?_,fun⟨xs,e,q⟩=>by subst e;exact q⟩
 split at q
 ·exact⟨_,rfl,q⟩
 ·exact q.elim
theorem ym_two{o:Option HO}{Q:List V->Prop}:(match o with|some (.lst xs)=>Q xs|some (.tup xs)=>Q xs|_=>False)=∃xs,(o=some (.lst xs)∨o=some (.tup xs))/\Q xs:=by
 refine propext ⟨fun q=>?_,fun⟨xs,e,q⟩=>by rcases e with e|e<;>(subst e;exact q)⟩
 split at q
 ·exact⟨_,.inl rfl,q⟩
 ·exact⟨_,.inr rfl,q⟩
 ·exact q.elim
theorem ym_ty{o:Option String}{Q:String->Prop}:(match o with|some S=>Q S|none=>False)=∃S,o=some S/\Q S:=by
 refine propext ⟨fun q=>?_,fun⟨xs,e,q⟩=>by subst e;exact q⟩
 split at q
 ·exact⟨_,rfl,q⟩
 ·exact q.elim
section
variable{Q:Option Int->Hp->Prop}
theorem y_nopart:tNoPart σ H Q=Q none H:=rfl
theorem y_part:tPart te σ H Q=te σ H fun x H1=>yI x fun i=>Q (some i) H1:=rfl
end
theorem y_sl{r:V->Option Int->Option Int->Hp->VK->Prop}{tl th:TO}:tSl r te tl th σ H Q=te σ H fun x H1=>tl σ H1 fun l H2=>th σ H2 fun u H3=>r x l u H3 Q:=rfl
theorem y_bm0{K:kC}{T:String}{r:V->List V->Hp->VK->Prop}:tBM0 K T r te σ H Q=te σ H fun x H1=>tyV K T x H1/\r x [] H1 Q:=rfl
theorem y_bm{K:kC}{T:String}{r:V->List V->Hp->VK->Prop}:tBM K T r te a σ H Q=te σ H fun x H1=>tyV K T x H1/\a σ H1 fun xs H2=>r x xs H2 Q:=rfl
theorem y_v0:tVar 0 (some v::σ) H Q=Q v H:=propext ⟨fun⟨_,e,q⟩=>by cases e;exact q,fun q=>⟨v,rfl,q⟩⟩
theorem y_n0{a0:Option V}{Q:St->Hp->Prop}:gName 0 v (a0::σ) H Q=Q (some v::σ) H:=rfl
theorem y_v1{a0:Option V}:tVar 1 (a0::some v::σ) H Q=Q v H:=propext ⟨fun⟨_,e,q⟩=>by cases e;exact q,fun q=>⟨v,rfl,q⟩⟩
theorem y_n1{a0 a1:Option V}{Q:St->Hp->Prop}:gName 1 v (a0::a1::σ) H Q=Q (a0::some v::σ) H:=rfl
theorem y_v2{a0 a1:Option V}:tVar 2 (a0::a1::some v::σ) H Q=Q v H:=propext ⟨fun⟨_,e,q⟩=>by cases e;exact q,fun q=>⟨v,rfl,q⟩⟩
theorem y_n2{a0 a1 a2:Option V}{Q:St->Hp->Prop}:gName 2 v (a0::a1::a2::σ) H Q=Q (a0::a1::some v::σ) H:=rfl
theorem y_v3{a0 a1 a2:Option V}:tVar 3 (a0::a1::a2::some v::σ) H Q=Q v H:=propext ⟨fun⟨_,e,q⟩=>by cases e;exact q,fun q=>⟨v,rfl,q⟩⟩
theorem y_n3{a0 a1 a2 a3:Option V}{Q:St->Hp->Prop}:gName 3 v (a0::a1::a2::a3::σ) H Q=Q (a0::a1::a2::some v::σ) H:=rfl
theorem y_v4{a0 a1 a2 a3:Option V}:tVar 4 (a0::a1::a2::a3::some v::σ) H Q=Q v H:=propext ⟨fun⟨_,e,q⟩=>by cases e;exact q,fun q=>⟨v,rfl,q⟩⟩
theorem y_n4{a0 a1 a2 a3 a4:Option V}{Q:St->Hp->Prop}:gName 4 v (a0::a1::a2::a3::a4::σ) H Q=Q (a0::a1::a2::a3::some v::σ) H:=rfl
theorem y_v5{a0 a1 a2 a3 a4:Option V}:tVar 5 (a0::a1::a2::a3::a4::some v::σ) H Q=Q v H:=propext ⟨fun⟨_,e,q⟩=>by cases e;exact q,fun q=>⟨v,rfl,q⟩⟩
theorem y_n5{a0 a1 a2 a3 a4 a5:Option V}{Q:St->Hp->Prop}:gName 5 v (a0::a1::a2::a3::a4::a5::σ) H Q=Q (a0::a1::a2::a3::a4::some v::σ) H:=rfl
theorem y_v6{a0 a1 a2 a3 a4 a5:Option V}:tVar 6 (a0::a1::a2::a3::a4::a5::some v::σ) H Q=Q v H:=propext ⟨fun⟨_,e,q⟩=>by cases e;exact q,fun q=>⟨v,rfl,q⟩⟩
theorem y_n6{a0 a1 a2 a3 a4 a5 a6:Option V}{Q:St->Hp->Prop}:gName 6 v (a0::a1::a2::a3::a4::a5::a6::σ) H Q=Q (a0::a1::a2::a3::a4::a5::some v::σ) H:=rfl
theorem y_v7{a0 a1 a2 a3 a4 a5 a6:Option V}:tVar 7 (a0::a1::a2::a3::a4::a5::a6::some v::σ) H Q=Q v H:=propext ⟨fun⟨_,e,q⟩=>by cases e;exact q,fun q=>⟨v,rfl,q⟩⟩
theorem y_n7{a0 a1 a2 a3 a4 a5 a6 a7:Option V}{Q:St->Hp->Prop}:gName 7 v (a0::a1::a2::a3::a4::a5::a6::a7::σ) H Q=Q (a0::a1::a2::a3::a4::a5::a6::some v::σ) H:=rfl
theorem y_v8{a0 a1 a2 a3 a4 a5 a6 a7:Option V}:tVar 8 (a0::a1::a2::a3::a4::a5::a6::a7::some v::σ) H Q=Q v H:=propext ⟨fun⟨_,e,q⟩=>by cases e;exact q,fun q=>⟨v,rfl,q⟩⟩
theorem y_n8{a0 a1 a2 a3 a4 a5 a6 a7 a8:Option V}{Q:St->Hp->Prop}:gName 8 v (a0::a1::a2::a3::a4::a5::a6::a7::a8::σ) H Q=Q (a0::a1::a2::a3::a4::a5::a6::a7::some v::σ) H:=rfl
theorem y_v9{a0 a1 a2 a3 a4 a5 a6 a7 a8:Option V}:tVar 9 (a0::a1::a2::a3::a4::a5::a6::a7::a8::some v::σ) H Q=Q v H:=propext ⟨fun⟨_,e,q⟩=>by cases e;exact q,fun q=>⟨v,rfl,q⟩⟩
theorem y_n9{a0 a1 a2 a3 a4 a5 a6 a7 a8 a9:Option V}{Q:St->Hp->Prop}:gName 9 v (a0::a1::a2::a3::a4::a5::a6::a7::a8::a9::σ) H Q=Q (a0::a1::a2::a3::a4::a5::a6::a7::a8::some v::σ) H:=rfl
theorem y_v10{a0 a1 a2 a3 a4 a5 a6 a7 a8 a9:Option V}:tVar 10 (a0::a1::a2::a3::a4::a5::a6::a7::a8::a9::some v::σ) H Q=Q v H:=propext ⟨fun⟨_,e,q⟩=>by cases e;exact q,fun q=>⟨v,rfl,q⟩⟩
theorem y_n10{a0 a1 a2 a3 a4 a5 a6 a7 a8 a9 a10:Option V}{Q:St->Hp->Prop}:gName 10 v (a0::a1::a2::a3::a4::a5::a6::a7::a8::a9::a10::σ) H Q=Q (a0::a1::a2::a3::a4::a5::a6::a7::a8::a9::some v::σ) H:=rfl
theorem y_v11{a0 a1 a2 a3 a4 a5 a6 a7 a8 a9 a10:Option V}:tVar 11 (a0::a1::a2::a3::a4::a5::a6::a7::a8::a9::a10::some v::σ) H Q=Q v H:=propext ⟨fun⟨_,e,q⟩=>by cases e;exact q,fun q=>⟨v,rfl,q⟩⟩
theorem y_n11{a0 a1 a2 a3 a4 a5 a6 a7 a8 a9 a10 a11:Option V}{Q:St->Hp->Prop}:gName 11 v (a0::a1::a2::a3::a4::a5::a6::a7::a8::a9::a10::a11::σ) H Q=Q (a0::a1::a2::a3::a4::a5::a6::a7::a8::a9::a10::some v::σ) H:=rfl
theorem y_n12{a0 a1 a2 a3 a4 a5 a6 a7 a8 a9 a10 a11 a12:Option V}{Q:St->Hp->Prop}:gName 12 v (a0::a1::a2::a3::a4::a5::a6::a7::a8::a9::a10::a11::a12::σ) H Q=Q (a0::a1::a2::a3::a4::a5::a6::a7::a8::a9::a10::a11::some v::σ) H:=rfl
theorem y_n13{a0 a1 a2 a3 a4 a5 a6 a7 a8 a9 a10 a11 a12 a13:Option V}{Q:St->Hp->Prop}:gName 13 v (a0::a1::a2::a3::a4::a5::a6::a7::a8::a9::a10::a11::a12::a13::σ) H Q=Q (a0::a1::a2::a3::a4::a5::a6::a7::a8::a9::a10::a11::a12::some v::σ) H:=rfl
end
section
variable{K:kC}{a l l1 l2:Addr}{xs ys:List V}{lo:Int}{n:Nat}{g:TG}{tb:TS}{D:Ends}{σ:St}{H:Hp}
theorem zdp(Pv:Nat->St->Hp->Prop)(h0:Pv 0 σ H)(hl:∀i σ H,i<=xs.length->Pv i σ H->SqL K H a xs)(hs:∀bk ct i x σ H,xs[i]?=some x->Pv i σ H->g x σ H fun σ2 H2=>tb {D with nx:=Pv (i+1),ct:=ct,bk:=bk} σ2 H2)(hd:∀σ H,Pv xs.length σ H->D.nx σ H):ForW (Itl K a) g tb D σ H:=for_list Pv h0 hl (fun i=>hs D.nx (Pv (i+1)) i) hd
theorem zjr(Pv:Nat->St->Hp->Prop)(h0:Pv 0 σ H)(hl:∀i σ H,i<=xs.length->Pv i σ H->SqT K H a xs)(hs:∀bk ct i x σ H,xs[i]?=some x->Pv i σ H->g x σ H fun σ2 H2=>tb {D with nx:=Pv (i+1),ct:=ct,bk:=bk} σ2 H2)(hd:∀σ H,Pv xs.length σ H->D.nx σ H):ForW (Itt K a) g tb D σ H:=for_tup Pv h0 hl (fun i=>hs D.nx (Pv (i+1)) i) hd
theorem zd4(Pv:Nat->St->Hp->Prop)(h0:Pv 0 σ H)(hs:∀bk ct i σ H,i<n->Pv i σ H->g (.int (lo+i)) σ H fun σ2 H2=>tb {D with nx:=Pv (i+1),ct:=ct,bk:=bk} σ2 H2)(hd:∀σ H,Pv n σ H->D.nx σ H):ForW (Itr lo n) g tb D σ H:=for_range Pv h0 (fun i=>hs D.nx (Pv (i+1)) i) hd
theorem for_enuO(Pv:Nat->St->Hp->Prop)(h0:Pv 0 σ H)(hl:∀i σ H,Pv i σ H->H l=some (.lst xs))(hs:∀bk ct i x T σ H,xs[i]?=some x->Pv i σ H->H T=none->g (.ref T) σ (upd H T (.tup [.int (i:Int),x])) fun σ2 H2=>tb {D with nx:=Pv (i+1),ct:=ct,bk:=bk} σ2 H2)(hd:∀σ H,Pv xs.length σ H->D.nx σ H):ForW (Ite K l) g tb D σ H:=for_enu Pv h0 hl (fun i=>hs D.nx (Pv (i+1)) i) hd
theorem forW_zipTO(Pv:Nat->St->Hp->Prop)(h0:Pv 0 σ H)(hl:∀i σ H,Pv i σ H->H l1=some (.tup xs)/\H l2=some (.tup ys))(he:xs.length=ys.length)(hs:∀bk ct i x y T σ H,xs[i]?=some x->ys[i]?=some y->Pv i σ H->H T=none->g (.ref T) σ (upd H T (.tup [x,y])) fun σ2 H2=>tb {D with nx:=Pv (i+1),ct:=ct,bk:=bk} σ2 H2)(hd:∀σ H,Pv xs.length σ H->D.nx σ H):ForW (Ity K l1 l2) g tb D σ H:=forW_zipT Pv h0 hl he (fun i=>hs D.nx (Pv (i+1)) i) hd
end
end L2
namespace My
def G(a b:Int):Int:=(CJ a b:Nat)
theorem G_nonneg(a b:Int):0<=G a b:=Int.natCast_nonneg _
theorem G_abs(a b:Int):G (if a<0 then-a else a) (if b<0 then-b else b)=G a b:=by
 unfold G
 split<;>split<;>simp[Int.gcd_neg,Int.neg_gcd]
theorem G_zero{a b:Int}(h:0<=a)(hb:b=0):a=G a b:=by
 subst hb;unfold G;rw[AW];omega
theorem G_mod(a b:Int)(hb:0<b):G b (Bp a b)=G a b:=by
 unfold G;rw[uG a (uU hb),CK a b];have e:a%b+a/b*b=a:=by rw[uf];exact Int.emod_add_mul_ediv a b
 rw[←jG b (a%b) (a/b),e]
theorem turn{c a b:Int}(h:G a b=c)(hb:0<b):0<=b/\0<=Bp a b/\G b (Bp a b)=c:=
 ⟨uU hb,gO a hb,by rw[G_mod a b hb,h]⟩
theorem less{a b:Int}(hb:0<b):(Bp a b).toNat<b.toNat:=by
 have h0:=gO a hb;have h1:=Int.fmod_lt_of_pos a hb;omega
end My
namespace My
theorem zbi{a b:Int}(h:b ∣ a):a.fdiv b*b=a:=by
 have e:=gq a b;have z:a.fmod b=0:=Int.fmod_eq_zero_of_dvd h;rw[z] at e;rw[uf];omega
theorem zcx{x f y:Int}(e:x*f=y)(hf:f≠0):x.natAbs<=y.natAbs:=by
 rw[←e,Qy];exact Nat.le_mul_of_pos_right _ (by omega)
theorem pos_of_mul{x f y:Int}(e:x*f=y)(h:(0<f/\0<y)∨(f<0/\y<0)):0<x:=by
 rcases(by omega:0<x∨x=0∨x<0) with hx|hx|hx
 ·exact hx
 ·rw[hx,gP] at e;omega
 ·exfalso
  rcases h with⟨h1,h2⟩|⟨h1,h2⟩
  ·have:=uc hx h1;omega
  ·have:=jZ hx h1;omega
theorem zap{a b:Int}{m n:Nat}(h1:a.natAbs<2^m)(h2:b.natAbs<2^n):(a*b).natAbs<2^(m+n):=by
 rw[Qy,CV];exact BG h1 h2
theorem zk8{a b:Int}{m:Nat}(h1:a.natAbs<2^m)(h2:b.natAbs<2^m):(a+b).natAbs<2^(m+1):=by
 rw[gQ];omega
theorem zdb{a b:Int}{m:Nat}(h1:a.natAbs<2^m)(h2:b.natAbs<2^m):(a-b).natAbs<2^(m+1):=by
 rw[gQ];omega
theorem zag{a:Int}{m n:Nat}(h:a.natAbs<2^m)(hm:m<=n):a.natAbs<2^n:=ko h (UL (by decide) hm)
end My
namespace My
end My
namespace My
end My
namespace My
def g3(a b c:Int):Nat:=vX (vX a.natAbs b.natAbs) c.natAbs
theorem G_nat(a b:Int):(G a b).natAbs=vX a.natAbs b.natAbs:=by unfold G;rw[Int.natAbs_natCast];rfl
theorem G3(a b c:Int):G (G a b) c=(g3 a b c:Int):=by
 have h:(G (G a b) c).natAbs=g3 a b c:=by rw[G_nat,G_nat];rfl
 have h0:=G_nonneg (G a b) c;omega
theorem zk3(a b c:Int):g3 c a b=g3 a b c:=by
 unfold g3;rw[jo,Aq]
theorem zkf(a b c f:Int):g3 (a*f) (b*f) (c*f)=g3 a b c*f.natAbs:=by
 unfold g3;rw[Qy,Qy,Qy,Ar,Ar]
theorem zkh{a b c:Int}(h:c≠0):0<g3 a b c:=by
 unfold g3;exact Nat.gcd_pos_of_pos_right _ (by omega)
theorem g3_da(a b c:Int):((g3 a b c:Nat):Int) ∣ a:=jS.mpr (Bz (gB _ _) (gB _ _))
theorem g3_db(a b c:Int):((g3 a b c:Nat):Int) ∣ b:=jS.mpr (Bz (gB _ _) (vY _ _))
theorem g3_dc(a b c:Int):((g3 a b c:Nat):Int) ∣ c:=jS.mpr (vY _ _)
structure Pt(n:Nat)(x y w:Int):Prop where
 pos:0<w
 one:g3 x y w=1
 lx:x.natAbs<2^n
 ly:y.natAbs<2^n
 lw:w.natAbs<2^n
theorem Pt.ne{n:Nat}{x y w:Int}(h:Pt n x y w):w≠0:=by have:=h.pos;omega
theorem Pt.mono{m n:Nat}{x y w:Int}(h:Pt m x y w)(hm:m<=n):Pt n x y w:=⟨h.pos,h.one,zag h.lx hm,zag h.ly hm,zag h.lw hm⟩
theorem pt_of{n:Nat}{x y w f:Int}(hf:f.natAbs=g3 x y w)(hs:(0<f/\0<w)∨(f<0/\w<0))(lx:x.natAbs<2^n)(ly:y.natAbs<2^n)(lw:w.natAbs<2^n):Pt n (x.fdiv f) (y.fdiv f) (w.fdiv f):=by
 have hd:∀z:Int,((g3 x y w:Nat):Int) ∣ z->f ∣ z:=fun z h=>by
  rw[←hf] at h;exact Bq.mp h
 have ex:=zbi (hd x (g3_da x y w));have ey:=zbi (hd y (g3_db x y w));have ew:=zbi (hd w (g3_dc x y w));have hw:w≠0:=by omega
 have fn:f≠0:=by omega
 refine⟨pos_of_mul ew hs,?_,QM (zcx ex fn) lx,QM (zcx ey fn) ly,QM (zcx ew fn) lw⟩;have e:=zkf (x.fdiv f) (y.fdiv f) (w.fdiv f) f;rw[ex,ey,ew,hf] at e;have hp:=zkh (a:=x) (b:=y) hw;have e':1*g3 x y w=g3 (x.fdiv f) (y.fdiv f) (w.fdiv f)*g3 x y w:=by omega
 exact(Nat.eq_of_mul_eq_mul_right hp e').symm
def fac3(x y w:Int):Int:=if w<0 then-G (G w x) y else G (G w x) y
theorem zhp(x y w:Int):(fac3 x y w).natAbs=g3 x y w:=by
 unfold fac3;rw[G3,zk3]
 split<;>simp
theorem zif{x y w:Int}(h:w≠0):(0<fac3 x y w/\0<w)∨(fac3 x y w<0/\w<0):=by
 unfold fac3;have hp:=zkh (a:=x) (b:=y) h;rw[G3,zk3]
 split
 ·exact .inr ⟨by omega,by omega⟩
 ·exact .inl ⟨by omega,by omega⟩
theorem zj1{x y w:Int}(h:w≠0):fac3 x y w≠0:=by rcases zif (x:=x) (y:=y) h with z|z<;>omega
theorem zhx(x y w z:Int)(h:((g3 x y w:Nat):Int) ∣ z):fac3 x y w ∣ z:=by
 rw[←zhp] at h;exact Bq.mp h
theorem fac3_le{x y w:Int}(h:w≠0):(fac3 x y w).natAbs<=w.natAbs:=by
 rw[zhp];exact CA (by omega) (vY _ _)
def ptX(x y w:Int):Int:=x.fdiv (fac3 x y w)
def ptY(x y w:Int):Int:=y.fdiv (fac3 x y w)
def ptW(x y w:Int):Int:=w.fdiv (fac3 x y w)
theorem pt_mk{n:Nat}{x y w:Int}(h:w≠0)(lx:x.natAbs<2^n)(ly:y.natAbs<2^n)(lw:w.natAbs<2^n):Pt n (ptX x y w) (ptY x y w) (ptW x y w):=pt_of (zhp x y w) (zif h) lx ly lw
theorem zl0(x y w:Int):ptX x y w*fac3 x y w=x:=zbi (zhx _ _ _ _ (g3_da x y w))
theorem zlr(x y w:Int):ptY x y w*fac3 x y w=y:=zbi (zhx _ _ _ _ (g3_db x y w))
theorem zkj(x y w:Int):ptW x y w*fac3 x y w=w:=zbi (zhx _ _ _ _ (g3_dc x y w))
theorem zjz{a b f x w:Int}(e1:a*f=x)(e2:b*f=w):a*w=x*b:=by
 rw[←e1,←e2,uf b f,Int.mul_assoc]
end My
namespace My
theorem g3_gt{x y w:Int}(hw:0<w):0<G (G x y) w:=by
 rw[G3];have:=zkh (a:=x) (b:=y) (c:=w) (by omega)
 omega
theorem g3_ne{x y w:Int}(hw:0<w):G (G x y) w≠0:=by have:=g3_gt (x:=x) (y:=y) hw;omega
theorem zmi(x y w:Int):(G (G x y) w).natAbs=g3 x y w:=by rw[G3];simp
theorem g3_lt{n:Nat}{x y w:Int}(hw:0<w)(lw:w.natAbs<2^n):(G (G x y) w).natAbs<2^n:=by
 rw[zmi];exact QM (CA (by omega) (vY _ _)) lw
theorem g3_pt{n:Nat}{x y w:Int}(hw:0<w)(lx:x.natAbs<2^n)(ly:y.natAbs<2^n)(lw:w.natAbs<2^n):Pt n (x.fdiv (G (G x y) w)) (y.fdiv (G (G x y) w)) (w.fdiv (G (G x y) w)):=
 pt_of (zmi x y w) (.inl ⟨g3_gt hw,hw⟩) lx ly lw
end My
namespace My
end My
namespace My
def sgn(z:Int):Int:=if 0<z then 1 else if z<0 then-1 else 0
theorem sgn_pos{z:Int}(h:0<z):sgn z=1:=if_pos h
theorem sgn_neg{z:Int}(h:z<0):sgn z= -1:=by unfold sgn;rw[if_neg (by omega),if_pos h]
theorem zei:sgn 0=0:=by decide
theorem zd7(z:Int):(0<z/\sgn z=1)∨(z<0/\sgn z= -1)∨(z=0/\sgn z=0):=by
 rcases(by omega:0<z∨z<0∨z=0) with h|h|h
 ·exact .inl ⟨h,sgn_pos h⟩
 ·exact .inr (.inl ⟨h,sgn_neg h⟩)
 ·exact .inr (.inr ⟨h,by rw[h];rfl⟩)
theorem zaf{z:Int}:sgn z=0↔z=0:=by
 rcases zd7 z with⟨h,e⟩|⟨h,e⟩|⟨h,e⟩<;>rw[e]<;>omega
def bef(x1 y1 w1 x2 y2 w2:Int):Bool:=if x1*w2=x2*w1 then decide (y1*w2<y2*w1) else decide (x1*w2<x2*w1)
theorem ze1{a b c u v w:Int}(hu:0<u)(hv:0<v)(hw:0<w)(h1:a*v<=b*u)(h2:b*w<=c*v):a*w<=c*u/\((a*v<b*u∨b*w<c*v)->a*w<c*u):=by
 have e1:(a*v)*w<=(b*u)*w:=Qf h1 (uU hw);have e2:(b*w)*u<=(c*v)*u:=Qf h2 (uU hu);have i1:v*(a*w)=(a*v)*w:=by grind
 have i2:v*(c*u)=(c*v)*u:=by grind
 have i3:(b*u)*w=(b*w)*u:=by grind
 refine⟨Int.le_of_mul_le_mul_left (by omega) hv,fun h=>Int.lt_of_mul_lt_mul_left (a:=v) ?_ (uU hv)⟩
 rcases h with h|h
 ·have:=jH h hw;omega
 ·have:=jH h hu;omega
theorem bef_irr(x y w:Int):bef x y w x y w=false:=by
 unfold bef;rw[if_pos rfl];exact decide_eq_false (by omega)
theorem zbs{x1 y1 w1 x2 y2 w2:Int}:bef x1 y1 w1 x2 y2 w2=true↔(x1*w2<x2*w1∨(x1*w2=x2*w1/\y1*w2<y2*w1)):=by
 unfold bef
 split
 ·rename_i h
  rw[decide_eq_true_iff];omega
 ·rename_i h
  rw[decide_eq_true_iff];omega
theorem zd8{x1 y1 w1 x2 y2 w2:Int}:bef x1 y1 w1 x2 y2 w2=false↔(x2*w1<x1*w2∨(x1*w2=x2*w1/\y2*w1<=y1*w2)):=by
 rw[←gC,zbs];omega
theorem bef_trans{x1 y1 w1 x2 y2 w2 x3 y3 w3:Int}(h1:0<w1)(h2:0<w2)(h3:0<w3)(a:bef x1 y1 w1 x2 y2 w2=true)(b:bef x2 y2 w2 x3 y3 w3=true):bef x1 y1 w1 x3 y3 w3=true:=by
 rw[zbs] at a b⊢;have X:=ze1 (a:=x1) (b:=x2) (c:=x3) h1 h2 h3 (by omega) (by omega)
 rcases a with a|⟨a,a'⟩
 ·exact .inl (X.2 (.inl a))
 ·rcases b with b|⟨b,b'⟩
  ·exact .inl (X.2 (.inr b))
  ·have X':=ze1 (a:=x3) (b:=x2) (c:=x1) h3 h2 h1 (by omega) (by omega)
   have Y:=ze1 (a:=y1) (b:=y2) (c:=y3) h1 h2 h3 (by omega) (by omega)
   exact .inr ⟨Int.le_antisymm X.1 X'.1,Y.2 (.inl a')⟩
theorem zit{n:Nat}{x1 y1 w1 x2 y2 w2:Int}(p:Pt n x1 y1 w1)(q:Pt n x2 y2 w2)(ex:x1*w2=x2*w1)(ey:y1*w2=y2*w1):x1=x2/\y1=y2/\w1=w2:=by
 have a:=zkf x1 y1 w1 w2;have b:=zkf x2 y2 w2 w1;rw[p.one,CY] at a;rw[q.one,CY] at b;rw[ex,ey,uf w1 w2] at a;have hw:w1=w2:=by
  have:=p.pos;have:=q.pos;omega
 subst hw;exact⟨jT p.ne ex,jT p.ne ey,rfl⟩
theorem zlv{n:Nat}{x1 y1 w1 x2 y2 w2:Int}(p:Pt n x1 y1 w1)(q:Pt n x2 y2 w2)(h:bef x1 y1 w1 x2 y2 w2=bef x2 y2 w2 x1 y1 w1):x1=x2/\y1=y2/\w1=w2:=by
 cases e:bef x1 y1 w1 x2 y2 w2 with
 |true=>
  have e':=h.symm.trans e;rw[zbs] at e e';omega
 |false=>
  have e':=h.symm.trans e;rw[zd8] at e e';exact zit p q (by omega) (by omega)
def lnA(x1 y1 w1 x2 y2 w2:Int):Int:=y1*w2-w1*y2
def lnB(x1 y1 w1 x2 y2 w2:Int):Int:=w1*x2-x1*w2
def lnC(x1 y1 w1 x2 y2 w2:Int):Int:=x1*y2-y1*x2
def det3(x1 y1 w1 x2 y2 w2 x3 y3 w3:Int):Int:=lnA x1 y1 w1 x2 y2 w2*x3+lnB x1 y1 w1 x2 y2 w2*y3+lnC x1 y1 w1 x2 y2 w2*w3
end My
namespace My
end My
namespace My
theorem sgn_diff(l:Int):(if 0<l then(1:Int) else 0)-(if l<0 then(1:Int) else 0)=sgn l:=by
 unfold sgn
 split<;>split<;>omega
end My
namespace My
end My
namespace My
theorem G_fmod(x y:Int):G y (x.fmod y)=G x y:=by
 unfold G;rw[CK x y];have e:x.fmod y+x.fdiv y*y=x:=by rw[uf];exact gq x y
 rw[←jG y (x.fmod y) (x.fdiv y),e]
theorem fmod_small{x y:Int}(h:y≠0):(x.fmod y).natAbs<y.natAbs:=by
 have h0:=Qb x h;have h1:=Int.emod_lt x h;rw[Int.fmod_eq_emod]
 split
 ·omega
 ·rename_i c
  have hn:x%y≠0:=fun z=>c (.inr (Int.dvd_of_emod_eq_zero z));have hy:¬0<=y:=fun z=>c (.inl z);omega
theorem G_end(x:Int):(if x<0 then-x else x)=G x 0:=by
 unfold G;rw[AW]
 split<;>omega
theorem det3_cols(x1 y1 w1 x2 y2 w2 x3 y3 w3:Int):x1*(y2*w3-y3*w2)-y1*(x2*w3-x3*w2)+w1*(x2*y3-x3*y2)=det3 x1 y1 w1 x2 y2 w2 x3 y3 w3:=by
 unfold det3 lnA lnB lnC;grind
theorem det3_first(x1 y1 w1 x2 y2 w2:Int):det3 x1 y1 w1 x2 y2 w2 x1 y1 w1=0:=by unfold det3 lnA lnB lnC;grind
theorem det3_second(x1 y1 w1 x2 y2 w2:Int):det3 x1 y1 w1 x2 y2 w2 x2 y2 w2=0:=by unfold det3 lnA lnB lnC;grind
theorem bef_asym{x1 y1 w1 x2 y2 w2:Int}(h:bef x1 y1 w1 x2 y2 w2=true):bef x2 y2 w2 x1 y1 w1=false:=by
 rw[zbs] at h;rw[zd8];omega
def onB(x1 y1 w1 x2 y2 w2 x3 y3 w3:Int):Bool:=if sgn (det3 x1 y1 w1 x2 y2 w2 x3 y3 w3)=0 then(!bef x3 y3 w3 x1 y1 w1&& !bef x2 y2 w2 x3 y3 w3) else false
theorem zm2(x y:Int):g3 x y 1=1:=by unfold g3;simp
end My
namespace My
structure Q3 where
 x:Int
 y:Int
 w:Int
deriving DecidableEq
def dt(a b c:Q3):Int:=det3 a.x a.y a.w b.x b.y b.w c.x c.y c.w
def dX(a b:Q3):Int:=b.x*a.w-a.x*b.w
def dY(a b:Q3):Int:=b.y*a.w-a.y*b.w
def LP(u v:Int):Prop:=0<u∨(u=0/\0<v)
def Lt(s:Int)(a b:Q3):Prop:=LP (s*dX a b) (s*dY a b)
theorem lp_no{u v:Int}(h:LP u v)(h':LP (-u) (-v)):False:=by
 unfold LP at*;omega
theorem dX_swap(a b:Q3):dX b a= -dX a b:=by unfold dX;grind
theorem dY_swap(a b:Q3):dY b a= -dY a b:=by unfold dY;grind
theorem sc{s A B C u v w:Int}(e:A*u=B*v+C*w):A*(s*u)=B*(s*v)+C*(s*w):=by
 have:A*(s*u)=s*(A*u):=by grind
 rw[this,e]
 grind
theorem zle{s:Int}{a b:Q3}(h:Lt s a b)(h':Lt s b a):False:=by
 unfold Lt at*;rw[dX_swap,dY_swap,AD,AD] at h';exact lp_no h h'
theorem zkg{s:Int}{a:Q3}(h:Lt s a a):False:=zle h h
end My
namespace My
theorem fl_lt{a b c d G:Int}(hb:0<b)(hd:0<d)(h:a*d<c*b)(hG:b*d<=G):a*G/b<c*G/d:=by
 have g0:0<=G:=CL (uU (UW hb hd)) hG;have h0:a*G/b*b<=a*G:=Bb _ (by omega)
 have h1:=Qf h0 (uU hd);have h2:G*(a*d+1)<=G*(c*b):=vn (by omega) g0
 refine Int.lt_of_lt_of_le (Int.lt_succ _) (gr hd (jU ?_ hb));generalize a*G/b=A at*
 calc (A+1)*d*b=A*b*d+b*d:=by grind
  _<=a*G*d+G:=Int.add_le_add h1 hG
  _=G*(a*d+1):=by grind
  _<=G*(c*b):=h2
  _=c*G*b:=by grind
theorem fl_eq{a b c d G:Int}(hb:0<b)(hd:0<d)(h:a*d=c*b):a*G/b=c*G/d:=by
 have e1:a*G/b=(a*G*d)/(b*d):=(vx (a*G) b hd).symm;have e2:c*G/d=(c*G*b)/(d*b):=(vx (c*G) d hb).symm;rw[e1,e2,uf d b]
 congr 1
 have:a*G*d=G*(a*d):=by grind
 rw[this,h]
 grind
def bq(a b:Q3):Bool:=bef a.x a.y a.w b.x b.y b.w
theorem bq_lt{a b:Q3}:bq a b=true↔Lt 1 a b:=by
 unfold bq Lt LP dX dY;rw[zbs];omega
def PQ(n:Nat)(a:Q3):Prop:=Pt n a.x a.y a.w
theorem zjp{n:Nat}{a b:Q3}(ha:PQ n a)(hb:PQ n b)(h1:bq a b=false)(h2:bq b a=false):a=b:=by
 obtain⟨e1,e2,e3⟩:=zlv ha hb (h1.trans h2.symm);obtain⟨x,y,w⟩:=a;obtain⟨x',y',w'⟩:=b
 simp only at e1 e2 e3
 rw[e1,e2,e3]
def kyQ(g:Int)(r:Q3):Int×Int:=(r.x*(g*g)/r.w,r.y*(g*g)/r.w)
theorem ky_lt{a b:Q3}{g:Int}(ha:0<a.w)(hb:0<b.w)(ga:a.w<=g)(gb:b.w<=g)(h:bq a b=true):L2.lt2 (kyQ g a) (kyQ g b)=true:=by
 have hG:a.w*b.w<=g*g:=Int.mul_le_mul ga gb (uU hb) (CL (uU ha) ga);unfold bq at h;rw[zbs] at h;unfold L2.lt2 L2.lexB kyQ;rcases h with h|⟨h,h'⟩
 ·have:=fl_lt ha hb h hG;rw[if_neg (by omega)]
  exact decide_eq_true this
 ·rw[if_pos (fl_eq ha hb h)];exact decide_eq_true (fl_lt ha hb h' hG)
end My
namespace Mine
open PySem L2 My
local macro_rules
  | `(tactic| simp! [$xs,*]) => do let f := fun (s : String) => (s.splitOn " ").toArray.map fun x => Lean.mkIdent x.toName; let p := f "y_next y_seq y_ret y_ifS y_asg y_drop y_par y_c y_op y_un y_rI y_rI0 y_rU y_eq y_ne y_test y_B y_not y_and y_or y_yes y_andV y_notV y_if y_cb y_call y_nil y_cons y_tup y_lst y_gnil y_gcons y_gtup y_gsub y_ixT y_ixL y_len y_list y_slH y_isi y_append y_clear y_nopart y_part y_sl y_bm0 y_bm yB_bl yI_int yTw_two yX_0 yX_1 yX_2 y_v0 y_v1 y_v2 y_v3 y_v4 y_v5 y_v6 y_v7 y_v8 y_v9 y_v10 y_v11 y_n0 y_n1 y_n2 y_n3 y_n4 y_n5 y_n6 y_n7 y_n8 y_n9 y_n10 y_n11 y_n12 y_n13"; let q := f "yB yI yTw yX yJ ym_tup ym_lst ym_two ym_ty gName tVar rI rI0 rU rEq rNe gTup gCons gNil L2.start rIsi rIxT rIxL cx_K tyN_non tyN_bl tyN_int tyN_str isi_ii isi_ib isi_tt isi_ll scal_ii scal_bb sz0 sz1 sz2 sz3 sz4 List.map_cons List.map_nil List.length_cons List.length_nil List.replicate List.cons_append List.nil_append List.append_nil List.getElem?_cons_zero List.getElem?_cons_succ List.set_cons_zero List.set_cons_succ Option.some.injEq V.int.injEq V.bl.injEq V.ref.injEq V.ty.injEq List.cons.injEq and_true true_and exists_eq_left exists_eq_left' exists_and_left exists_and_right exists_eq exists_eq' and_assoc Nat.reduceAdd Nat.reduceSub Bool.not_true Bool.not_false Bool.false_eq_true if_true if_false reduceIte Nat.zero_add decide_true decide_false selC comp_K Option.join_some rIxTH rIxLH rLenH rIsiF at0 at1 at2 at3 at4 HO.tup.injEq HO.lst.injEq reduceCtorEq false_or or_false tyF_non tyF_bl tyF_int tyF_str exists_const Int.reduceAdd Int.reduceMul Int.reduceSub rSetL rSlH upd_same upd_upd rListH rAppend rClear gTupH"; `(tactic| simp only [$[↓$p:term],*, $[$q:term],*, $xs,*])
local macro_rules
  | `(tactic| dsimp! [$xs,*]) => `(tactic| simp only [List.map_cons, List.map_nil, List.length_cons, List.length_nil, List.replicate, List.cons_append, List.nil_append, Nat.reduceAdd, Nat.reduceSub, Nat.zero_add, $xs,*])
def top(i:Nat):Stmt:=PySem.Challenge.pw_acre_k13_stops_by_stretches.main.body.getD i (.Pass ⟨0,0,0,0⟩)
abbrev zbd:Stmt:=top 4
theorem sc_is_whole:FnScope ["thing"] ["thing"] (defScope zbd):=⟨rfl,rfl,rfl,by decide+kernel,rfl,by decide+kernel,by decide+kernel⟩
abbrev zca:Stmt:=top 5
theorem zd3:FnScope ["one","other","great","small","rest"] ["one","other"] (defScope zca):=⟨rfl,rfl,rfl,by decide+kernel,rfl,by decide+kernel,by decide+kernel⟩
abbrev zdx:Stmt:=top 7
theorem zhi:FnScope ["x","y","w","factor"] ["x","y","w"] (defScope zdx):=⟨rfl,rfl,rfl,by decide+kernel,rfl,by decide+kernel,by decide+kernel⟩
abbrev zd1:Stmt:=top 8
theorem zgr:FnScope ["P","Q","left","right"] ["P","Q"] (defScope zd1):=⟨rfl,rfl,rfl,by decide+kernel,rfl,by decide+kernel,by decide+kernel⟩
abbrev zce:Stmt:=top 9
theorem sc_sign_of:FnScope ["number"] ["number"] (defScope zce):=⟨rfl,rfl,rfl,by decide+kernel,rfl,by decide+kernel,by decide+kernel⟩
abbrev zch:Stmt:=top 10
theorem sc_line_of:FnScope ["P","Q"] ["P","Q"] (defScope zch):=⟨rfl,rfl,rfl,by decide+kernel,rfl,by decide+kernel,by decide+kernel⟩
abbrev zcb:Stmt:=top 11
theorem sc_side_of:FnScope ["line","P"] ["line","P"] (defScope zcb):=⟨rfl,rfl,rfl,by decide+kernel,rfl,by decide+kernel,by decide+kernel⟩
abbrev s_met:Stmt:=top 12
theorem zjn:FnScope ["one","other","w","x","y"] ["one","other"] (defScope s_met):=⟨rfl,rfl,rfl,by decide+kernel,rfl,by decide+kernel,by decide+kernel⟩
abbrev zb7:Stmt:=top 13
theorem zcl:FnScope ["points","greatest","scale","keys","P"] ["points"] (defScope zb7):=⟨rfl,rfl,rfl,by decide+kernel,rfl,by decide+kernel,by decide+kernel⟩
abbrev zb8:Stmt:=top 14
theorem zgn:FnScope ["points","keys"] ["points"] (defScope zb8):=⟨rfl,rfl,rfl,by decide+kernel,rfl,by decide+kernel,by decide+kernel⟩
abbrev zcc:Stmt:=top 16
theorem zfs:FnScope ["stretches","ends","S"] ["stretches"] (defScope zcc):=⟨rfl,rfl,rfl,by decide+kernel,rfl,by decide+kernel,by decide+kernel⟩
abbrev zfb:Stmt:=top 17
theorem zf1:FnScope ["one","other","line","sides","other_line","other_sides","end","side"] ["one","other"] (defScope zfb):=⟨rfl,rfl,rfl,by decide+kernel,rfl,by decide+kernel,by decide+kernel⟩
abbrev zai:Stmt:=top 18
theorem zda:FnScope ["one","other","first","second"] ["one","other"] (defScope zai):=⟨rfl,rfl,rfl,by decide+kernel,rfl,by decide+kernel,by decide+kernel⟩
abbrev zdk:Stmt:=top 20
theorem zjh:FnScope ["stretches","lying"] ["stretches"] (defScope zdk):=⟨rfl,rfl,rfl,by decide+kernel,rfl,by decide+kernel,by decide+kernel⟩
abbrev zbu:Stmt:=top 21
theorem zen:FnScope ["P","numbers","stretches","begins","through","ends"] ["P","numbers","stretches"] (defScope zbu):=⟨rfl,rfl,rfl,by decide+kernel,rfl,by decide+kernel,by decide+kernel⟩
abbrev zc2:Stmt:=top 22
theorem zc1:FnScope ["stretches","lying","number","S","P","one","other"] ["stretches"] (defScope zc2):=⟨rfl,rfl,rfl,by decide+kernel,rfl,by decide+kernel,by decide+kernel⟩
abbrev zfl:Stmt:=top 23
theorem sc_note:FnScope ["lying","P","number"] ["lying","P","number"] (defScope zfl):=⟨rfl,rfl,rfl,by decide+kernel,rfl,by decide+kernel,by decide+kernel⟩
abbrev zb2:Stmt:=top 24
theorem sc_shared_ends:FnScope ["common"] ["common"] (defScope zb2):=⟨rfl,rfl,rfl,by decide+kernel,rfl,by decide+kernel,by decide+kernel⟩
abbrev zab:Stmt:=top 25
theorem zah:FnScope ["stretches","keys","lows","highs","lasts","pairs","standing","number","first","low","high","near"] ["stretches"] (defScope zab):=⟨rfl,rfl,rfl,by decide+kernel,rfl,by decide+kernel,by decide+kernel⟩
abbrev zb0:Stmt:=top 27
theorem sc_law_cell_at:FnScope ["_law_script","_law_k"] ["_law_script","_law_k"] (defScope zb0):=⟨rfl,rfl,rfl,by decide+kernel,rfl,by decide+kernel,by decide+kernel⟩
abbrev zbr:Stmt:=top 28
theorem sc_law_whole:FnScope ["_law_found"] ["_law_found"] (defScope zbr):=⟨rfl,rfl,rfl,by decide+kernel,rfl,by decide+kernel,by decide+kernel⟩
abbrev zbg:Stmt:=top 29
theorem zcf:FnScope ["_law_cell","_law_many","_law_found","_law_number","_law_k"] ["_law_cell","_law_many"] (defScope zbg):=⟨rfl,rfl,rfl,by decide+kernel,rfl,by decide+kernel,by decide+kernel⟩
abbrev zb4:Stmt:=top 30
theorem zeq:FnScope ["_law_one","_law_other"] ["_law_one","_law_other"] (defScope zb4):=⟨rfl,rfl,rfl,by decide+kernel,rfl,by decide+kernel,by decide+kernel⟩
abbrev zbh:Stmt:=top 31
theorem zfe:FnScope ["_law_x","_law_y","_law_w","_law_share"] ["_law_x","_law_y","_law_w"] (defScope zbh):=⟨rfl,rfl,rfl,by decide+kernel,rfl,by decide+kernel,by decide+kernel⟩
abbrev zbt:Stmt:=top 32
theorem zeb:FnScope ["_law_number","_law_kind","_law_x","_law_y"] ["_law_number","_law_kind"] (defScope zbt):=⟨rfl,rfl,rfl,by decide+kernel,rfl,by decide+kernel,by decide+kernel⟩
abbrev zbf:Stmt:=top 33
theorem sc_law_before:FnScope ["_law_one","_law_other"] ["_law_one","_law_other"] (defScope zbf):=⟨rfl,rfl,rfl,by decide+kernel,rfl,by decide+kernel,by decide+kernel⟩
abbrev zc3:Stmt:=top 34
theorem zdt:FnScope ["_law_a","_law_b","_law_c","_law_found"] ["_law_a","_law_b","_law_c"] (defScope zc3):=⟨rfl,rfl,rfl,by decide+kernel,rfl,by decide+kernel,by decide+kernel⟩
abbrev zcz:Stmt:=top 35
theorem sc_law_on:FnScope ["_law_spot","_law_part_here"] ["_law_spot","_law_part_here"] (defScope zcz):=⟨rfl,rfl,rfl,by decide+kernel,rfl,by decide+kernel,by decide+kernel⟩
abbrev zas:Stmt:=top 36
theorem sc_law_is_point:FnScope ["_law_found"] ["_law_found"] (defScope zas):=⟨rfl,rfl,rfl,by decide+kernel,rfl,by decide+kernel,by decide+kernel⟩
abbrev zbp:Stmt:=top 38
theorem zgc:FnScope ["_law_one","_law_other"] ["_law_one","_law_other"] (defScope zbp):=⟨rfl,rfl,rfl,by decide+kernel,rfl,by decide+kernel,by decide+kernel⟩
abbrev zc9:Stmt:=top 39
theorem zbq:FnScope ["_law_xs","_law_many","_law_middle","_law_parts","_law_k","_law_number","_law_x","_law_y","_law_far","_law_near","_law_one","_law_other"] ["_law_xs","_law_many"] (defScope zc9):=⟨rfl,rfl,rfl,by decide+kernel,rfl,by decide+kernel,by decide+kernel⟩
abbrev zci:Stmt:=top 40
theorem zd5:FnScope ["_law_xs","_law_many","_law_parts","_law_k","_law_at","_law_low","_law_long"] ["_law_xs","_law_many"] (defScope zci):=⟨rfl,rfl,rfl,by decide+kernel,rfl,by decide+kernel,by decide+kernel⟩
abbrev zcn:Stmt:=top 41
theorem zc8:FnScope ["_law_xs","_law_many","_law_way","_law_parts","_law_k","_law_low","_law_high","_law_part_here"] ["_law_xs","_law_many"] (defScope zcn):=⟨rfl,rfl,rfl,by decide+kernel,rfl,by decide+kernel,by decide+kernel⟩
abbrev zbj:Stmt:=top 42
theorem zec:FnScope ["_law_cell","_law_many","_law_kind","_law_xs","_law_parts"] ["_law_cell","_law_many","_law_kind"] (defScope zbj):=⟨rfl,rfl,rfl,by decide+kernel,rfl,by decide+kernel,by decide+kernel⟩
abbrev zbx:Stmt:=top 43
theorem zds:FnScope ["_law_cell","_law_many","_law_low","_law_parts"] ["_law_cell"] (defScope zbx):=⟨rfl,rfl,rfl,by decide+kernel,rfl,by decide+kernel,by decide+kernel⟩
abbrev zb6:Stmt:=top 44
theorem zc4:FnScope ["_law_parts","_law_far","_law_found","_law_one","_law_other","_law_first"] ["_law_parts","_law_far"] (defScope zb6):=⟨rfl,rfl,rfl,by decide+kernel,rfl,by decide+kernel,by decide+kernel⟩
abbrev zad:Stmt:=top 45
theorem zac:FnScope ["_law_script","_law_start","_law_most","_law_first","_law_cell","_law_many","_law_parts","_law_k","_law_at","_law_one"] ["_law_script","_law_start","_law_most"] (defScope zad):=⟨rfl,rfl,rfl,by decide+kernel,rfl,by decide+kernel,by decide+kernel⟩
abbrev zat:Stmt:=top 46
theorem sc_law_numbers:FnScope ["_law_found","_law_due"] ["_law_found","_law_due"] (defScope zat):=⟨rfl,rfl,rfl,by decide+kernel,rfl,by decide+kernel,by decide+kernel⟩
abbrev zay:Stmt:=top 47
theorem zcr:FnScope ["_law_row_here","_law_parts","_law_on_here","_law_begins","_law_ends","_law_through","_law_others"] ["_law_row_here","_law_parts"] (defScope zay):=⟨rfl,rfl,rfl,by decide+kernel,rfl,by decide+kernel,by decide+kernel⟩
abbrev s_law:Stmt:=top 48
theorem zef:FnScope ["_law_script","_law_parts","_law_handed","_law_found","_law_row_here","_law_one","_law_other","_law_kept","_law_old","_law_k"] ["_law_script"] (defScope s_law):=⟨rfl,rfl,rfl,by decide+kernel,rfl,by decide+kernel,by decide+kernel⟩
structure FnAt(K:kC)(mg:Str->Option Value)(x:Str)(st:Stmt)(ps:List Str)(f:Addr)(fd:FuncData):Prop where
 fn:Fun K x x st f fd
 bn:Binds K fd ps []
 mg:mg x=some (.ref f)
structure Txt(K:kC)(mg:Str->Option Value)(ad:Nat->Addr)(fd:Nat->FuncData):Prop where
 is_whole:FnAt K mg "is_whole" zbd ["thing"] (ad 0) (fd 0)
 divisor:FnAt K mg "divisor" zca ["one","other"] (ad 1) (fd 1)
 point:FnAt K mg "point" zdx ["x","y","w"] (ad 2) (fd 2)
 before:FnAt K mg "before" zd1 ["P","Q"] (ad 3) (fd 3)
 sign_of:FnAt K mg "sign_of" zce ["number"] (ad 4) (fd 4)
 line_of:FnAt K mg "line_of" zch ["P","Q"] (ad 5) (fd 5)
 side_of:FnAt K mg "side_of" zcb ["line","P"] (ad 6) (fd 6)
 met:FnAt K mg "met" s_met ["one","other"] (ad 7) (fd 7)
 order_keys:FnAt K mg "order_keys" zb7 ["points"] (ad 8) (fd 8)
 in_order:FnAt K mg "in_order" zb8 ["points"] (ad 9) (fd 9)
 in_order_c:FunC K "in_order" "in_order" zb8 (ad 9) (fd 9) (ad 40) (ad 41)
 ends_of:FnAt K mg "ends_of" zcc ["stretches"] (ad 10) (fd 10)
 meet:FnAt K mg "meet" zfb ["one","other"] (ad 11) (fd 11)
 meet_on_line:FnAt K mg "meet_on_line" zai ["one","other"] (ad 12) (fd 12)
 stops:FnAt K mg "stops" zdk ["stretches"] (ad 13) (fd 13)
 stop_at:FnAt K mg "stop_at" zbu ["P","numbers","stretches"] (ad 14) (fd 14)
 lying_at:FnAt K mg "lying_at" zc2 ["stretches"] (ad 15) (fd 15)
 note:FnAt K mg "note" zfl ["lying","P","number"] (ad 16) (fd 16)
 shared_ends:FnAt K mg "shared_ends" zb2 ["common"] (ad 17) (fd 17)
 near_pairs:FnAt K mg "near_pairs" zab ["stretches"] (ad 18) (fd 18)
 near_pairs_c:FunC K "near_pairs" "near_pairs" zab (ad 18) (fd 18) (ad 42) (ad 43)
 law_cell_at:FnAt K mg "_law_cell_at" zb0 ["_law_script","_law_k"] (ad 19) (fd 19)
 law_whole:FnAt K mg "_law_whole" zbr ["_law_found"] (ad 20) (fd 20)
 law_stream:FnAt K mg "_law_stream" zbg ["_law_cell","_law_many"] (ad 21) (fd 21)
 law_divisor:FnAt K mg "_law_divisor" zb4 ["_law_one","_law_other"] (ad 22) (fd 22)
 law_lowest:FnAt K mg "_law_lowest" zbh ["_law_x","_law_y","_law_w"] (ad 23) (fd 23)
 law_point:FnAt K mg "_law_point" zbt ["_law_number","_law_kind"] (ad 24) (fd 24)
 law_before:FnAt K mg "_law_before" zbf ["_law_one","_law_other"] (ad 25) (fd 25)
 law_turn:FnAt K mg "_law_turn" zc3 ["_law_a","_law_b","_law_c"] (ad 26) (fd 26)
 law_on:FnAt K mg "_law_on" zcz ["_law_spot","_law_part_here"] (ad 27) (fd 27)
 law_is_point:FnAt K mg "_law_is_point" zas ["_law_found"] (ad 28) (fd 28)
 law_part:FnAt K mg "_law_part" zbp ["_law_one","_law_other"] (ad 29) (fd 29)
 law_fan:FnAt K mg "_law_fan" zc9 ["_law_xs","_law_many"] (ad 30) (fd 30)
 law_net:FnAt K mg "_law_net" zci ["_law_xs","_law_many"] (ad 31) (fd 31)
 law_row:FnAt K mg "_law_row" zcn ["_law_xs","_law_many"] (ad 32) (fd 32)
 law_drawn:FnAt K mg "_law_drawn" zbj ["_law_cell","_law_many","_law_kind"] (ad 33) (fd 33)
 law_comb:FnAt K mg "_law_comb" zbx ["_law_cell"] (ad 34) (fd 34)
 law_put_off:FnAt K mg "_law_put_off" zb6 ["_law_parts","_law_far"] (ad 35) (fd 35)
 law_stretches:FnAt K mg "_law_stretches" zad ["_law_script","_law_start","_law_most"] (ad 36) (fd 36)
 law_numbers:FnAt K mg "_law_numbers" zat ["_law_found","_law_due"] (ad 37) (fd 37)
 law_stop:FnAt K mg "_law_stop" zay ["_law_row_here","_law_parts"] (ad 38) (fd 38)
 law:FnAt K mg "law" s_law ["_law_script"] (ad 39) (fd 39)
 tne01:ad 41≠ad 43
 b_abs:mg "abs"=none
 b_bool:mg "bool"=none
 b_enumerate:mg "enumerate"=none
 b_int:mg "int"=none
 b_isinstance:mg "isinstance"=none
 b_len:mg "len"=none
 b_list:mg "list"=none
 b_max:mg "max"=none
 b_min:mg "min"=none
 b_range:mg "range"=none
 b_sorted:mg "sorted"=none
 b_tuple:mg "tuple"=none
 b_zip:mg "zip"=none
def zfa:Sp:=fun vs H Q _=>∃i:Int,vs=[.int i]/\Q (.bl true) H
def zdr:Sp:=fun vs H Q _=>∃a b:Int,vs=[.int a,.int b]/\Q (.int (G a b)) H
def iv_divisor(a b:Int)(H₀:Hp):St->Hp->Prop:=fun σ H'=>H'=H₀/\∃(x y:Int)(r:Option V),σ=[some (.int a),some (.int b),some (.int x),some (.int y),r]/\0<=x/\0<=y/\G x y=G a b
def zk7(K:kC):Sp:=fun vs H Q _=>∃(l:Addr)(ns:List Int)(k:Int),vs=[.ref l,.int k]/\SqL K H l (ns.map V.int)/\0<=k/\Q (.int (ns.getD k.toNat 0)) H
def PtH(n:Nat)(H:Hp)(p:Addr)(x y w:Int):Prop:=H p=some (.tup [.int x,.int y,.int w])/\Pt n x y w
theorem PtH.same{n:Nat}{H H':Hp}{p:Addr}{x y w:Int}(h:PtH n H p x y w)(g:Same H H'):PtH n H' p x y w:=⟨g _ _ h.1,h.2⟩
theorem PtH.mono{m n:Nat}{H:Hp}{p:Addr}{x y w:Int}(h:PtH m H p x y w)(hm:m<=n):PtH n H p x y w:=⟨h.1,h.2.mono hm⟩
def Bd3(n:Nat)(a b c:Int):Prop:=a.natAbs<2^n/\b.natAbs<2^n/\c.natAbs<2^n
def TB(n:Nat)(H:Hp)(p:Addr)(x y w:Int):Prop:=H p=some (.tup [.int x,.int y,.int w])/\Bd3 n x y w
theorem Bd3.mono{m n:Nat}{x y w:Int}(h:Bd3 m x y w)(hm:m<=n):Bd3 n x y w:=⟨zag h.1 hm,zag h.2.1 hm,zag h.2.2 hm⟩
theorem TB.mono{m n:Nat}{H:Hp}{p:Addr}{x y w:Int}(h:TB m H p x y w)(hm:m<=n:=by decide):TB n H p x y w:=⟨h.1,h.2.mono hm⟩
theorem Pt.bd{m n:Nat}{x y w:Int}(h:Pt m x y w)(hm:m<=n:=by decide):Bd3 n x y w:=⟨zag h.lx hm,zag h.ly hm,zag h.lw hm⟩
theorem PtH.tb{m n:Nat}{H:Hp}{p:Addr}{x y w:Int}(h:PtH m H p x y w)(hm:m<=n:=by decide):TB n H p x y w:=⟨h.1,Pt.bd h.2 hm⟩
def zic:Sp:=fun vs H Q _=>∃a b w:Int,vs=[.int a,.int b,.int w]/\w≠0/\w.natAbs<2^8000/\∀p H',Same H H'->H' p=some (.tup [.int (ptX a b w),.int (ptY a b w),.int (ptW a b w)])->Q (.ref p) H'
def sp_is_point:Sp:=fun vs H Q _=>∃(p:Addr)(x y w:Int),vs=[.ref p]/\H p=some (.tup [.int x,.int y,.int w])/\0<w/\g3 x y w=1/\Q (.bl true) H
def zii:Sp:=fun vs H Q _=>∃(p q:Addr)(x1 y1 w1 x2 y2 w2:Int),vs=[.ref p,.ref q]/\TB 1000 H p x1 y1 w1/\TB 1000 H q x2 y2 w2/\Q (.bl (bef x1 y1 w1 x2 y2 w2)) H
def zlg:Sp:=fun vs H Q _=>∃z:Int,vs=[.int z]/\Q (.int (sgn z)) H
def sp_line:Sp:=fun vs H Q _=>∃(p q:Addr)(x1 y1 w1 x2 y2 w2:Int),vs=[.ref p,.ref q]/\TB 1000 H p x1 y1 w1/\TB 1000 H q x2 y2 w2/\∀(r:Addr)(H':Hp),Same H H'->
 H' r=some (.tup [.int (lnA x1 y1 w1 x2 y2 w2),.int (lnB x1 y1 w1 x2 y2 w2),.int (lnC x1 y1 w1 x2 y2 w2)])->Q (.ref r) H'
theorem ln_bd{x1 y1 w1 x2 y2 w2:Int}(p:Bd3 1000 x1 y1 w1)(q:Bd3 1000 x2 y2 w2):Bd3 2001 (lnA x1 y1 w1 x2 y2 w2) (lnB x1 y1 w1 x2 y2 w2) (lnC x1 y1 w1 x2 y2 w2):=
 ⟨zdb (zap p.2.1 q.2.2) (zap p.2.2 q.2.1),zdb (zap p.2.2 q.1) (zap p.1 q.2.2),zdb (zap p.1 q.2.1) (zap p.2.1 q.1)⟩
def sp_side:Sp:=fun vs H Q _=>∃(l p:Addr)(a b c x y w:Int),vs=[.ref l,.ref p]/\H l=some (.tup [.int a,.int b,.int c])/\Bd3 2001 a b c/\H p=some (.tup [.int x,.int y,.int w])/\Bd3 5000 x y w/\Q (.int (sgn (a*x+b*y+c*w))) H
def sp_met:Sp:=fun vs H Q _=>∃(p q:Addr)(a b c a' b' c':Int),vs=[.ref p,.ref q]/\H p=some (.tup [.int a,.int b,.int c])/\Bd3 2001 a b c/\H q=some (.tup [.int a',.int b',.int c'])/\Bd3 2001 a' b' c'/\
 (a*b'-b*a'=0->Q .non H)/\(a*b'-b*a'≠0->∀(r:Addr)(H':Hp),Same H H'->
  H' r=some (.tup [.int (ptX (b*c'-c*b') (c*a'-a*c') (a*b'-b*a')),.int (ptY (b*c'-c*b') (c*a'-a*c') (a*b'-b*a')),.int (ptW (b*c'-c*b') (c*a'-a*c') (a*b'-b*a'))])->Q (.ref r) H')
def TupSame(H H':Hp):Prop:=∀b xs,H b=some (.tup xs)->H' b=some (.tup xs)
theorem zan{H H':Hp}(g:Same H H'):TupSame H H':=fun b xs h=>g b _ h
theorem zf8{H:Hp}{D:Addr}{ys:List V}{o:HO}(h:H D=some (.lst ys)):TupSame H (upd H D o):=fun b xs q=>by
 rw[za6 (ne_of q h (by intro z;cases z))]
 exact q
def iv_ldiv(a b:Int)(H₀:Hp):St->Hp->Prop:=fun σ H'=>H'=H₀/\∃x y:Int,σ=[some (.int x),some (.int y)]/\G x y=G a b
def sp_kturn:Sp:=fun vs H Q _=>∃(p q r:Addr)(x1 y1 w1 x2 y2 w2 x3 y3 w3:Int),vs=[.ref p,.ref q,.ref r]/\TB 1000 H p x1 y1 w1/\TB 1000 H q x2 y2 w2/\TB 5000 H r x3 y3 w3/\Q (.int (sgn (det3 x1 y1 w1 x2 y2 w2 x3 y3 w3))) H
def sp_kon:Sp:=fun vs H Q _=>∃(p s a b:Addr)(x1 y1 w1 x2 y2 w2 x3 y3 w3:Int),vs=[.ref p,.ref s]/\H s=some (.tup [.ref a,.ref b])/\TB 1000 H a x1 y1 w1/\TB 1000 H b x2 y2 w2/\TB 1000 H p x3 y3 w3/\Q (.bl (onB x1 y1 w1 x2 y2 w2 x3 y3 w3)) H
theorem cut_from1(xs:List V):cutV xs (some 1) none=xs.drop 1:=by
 unfold cutV;rw[show(1:Int)=((1:Nat):Int) from rfl,HT.sIx_nat,HT.sIx_none];rcases xs with _|⟨x,xs⟩
 ·rfl
 ·rw[UI (by rw[pQ];omega),kx (by rw[ki];omega)]
def on3(a b p:Q3):Bool:=onB a.x a.y a.w b.x b.y b.w p.x p.y p.w
theorem Q3.ext'{a b:Q3}(h:a.x=b.x/\a.y=b.y/\a.w=b.w):a=b:=by
 cases a;cases b;obtain⟨h1,h2,h3⟩:=h
 cases h1;cases h2;cases h3;rfl
theorem zlu{c d p:Q3}{k u v:Int}(hk:0<k)(hu:0<=u)(hv:0<=v)(ex:k*p.x=u*c.x+v*d.x)(ey:k*p.y=u*c.y+v*d.y)(ew:k*p.w=u*c.w+v*d.w)(hb:bq c d=true):on3 c d p=true:=by
 unfold bq at hb;rw[zbs] at hb;have dz:det3 c.x c.y c.w d.x d.y d.w p.x p.y p.w=0:=by
  refine(pL.mp (show k*det3 c.x c.y c.w d.x d.y d.w p.x p.y p.w=0 from ?_)).resolve_left (by omega)
  have:k*det3 c.x c.y c.w d.x d.y d.w p.x p.y p.w=lnA c.x c.y c.w d.x d.y d.w*(k*p.x)+lnB c.x c.y c.w d.x d.y d.w*(k*p.y)+lnC c.x c.y c.w d.x d.y d.w*(k*p.w):=by unfold det3;grind
  rw[this,ex,ey,ew];unfold lnA lnB lnC;grind
 have x1:k*(p.x*c.w-c.x*p.w)=v*(d.x*c.w-c.x*d.w):=by
  calc _=(k*p.x)*c.w-c.x*(k*p.w):=by grind
   _=_:=by rw[ex,ew];grind
 have y1:k*(p.y*c.w-c.y*p.w)=v*(d.y*c.w-c.y*d.w):=by
  calc _=(k*p.y)*c.w-c.y*(k*p.w):=by grind
   _=_:=by rw[ey,ew];grind
 have x2:k*(d.x*p.w-p.x*d.w)=u*(d.x*c.w-c.x*d.w):=by
  calc _=d.x*(k*p.w)-(k*p.x)*d.w:=by grind
   _=_:=by rw[ex,ew];grind
 have y2:k*(d.y*p.w-p.y*d.w)=u*(d.y*c.w-c.y*d.w):=by
  calc _=d.y*(k*p.w)-(k*p.y)*d.w:=by grind
   _=_:=by rw[ey,ew];grind
 have sg:∀{z t r:Int},k*z=t*r->0<=t->0<r->0<=z/\(z=0->t=0):=fun{z t r} e ht hr=>by
  have h0:0<=t*r:=Qz ht (uU hr);refine⟨?_,fun hz=>?_⟩
  ·rcases vZ z 0 with q|q
   ·have:=Int.mul_neg_of_pos_of_neg hk q;omega
   ·exact q
  ·rw[hz,As] at e;exact(pL.mp e.symm).resolve_right (by omega)
 have zz:∀{z t r:Int},k*z=t*r->t=0∨r=0->z=0:=fun{z t r} e h=>by
  have:t*r=0:=Int.mul_eq_zero.mpr h;rw[this] at e;exact(pL.mp e).resolve_left (by omega)
 have b1:bef p.x p.y p.w c.x c.y c.w=false:=by
  rw[zd8];rcases hb with hb|⟨hb,hy⟩
  ·obtain⟨n1,n2⟩:=sg x1 hv (by omega)
   by_cases q:p.x*c.w-c.x*p.w=0
   ·have:=zz y1 (.inl (n2 q));exact .inr ⟨by omega,by omega⟩
   ·exact .inl (by omega)
  ·have q:=zz x1 (.inr (by omega))
   obtain⟨n1,n2⟩:=sg y1 hv (by omega)
   exact .inr ⟨by omega,by omega⟩
 have b2:bef d.x d.y d.w p.x p.y p.w=false:=by
  rw[zd8];rcases hb with hb|⟨hb,hy⟩
  ·obtain⟨n1,n2⟩:=sg x2 hu (by omega)
   by_cases q:d.x*p.w-p.x*d.w=0
   ·have:=zz y2 (.inl (n2 q));exact .inr ⟨by omega,by omega⟩
   ·exact .inl (by omega)
  ·have q:=zz x2 (.inr (by omega))
   obtain⟨n1,n2⟩:=sg y2 hu (by omega)
   exact .inr ⟨by omega,by omega⟩
 unfold on3 onB;rw[dz,zei,if_pos rfl,b1,b2];rfl
theorem btw{c d p:Q3}{k u v:Int}(hp:0<p.w)(hc:0<c.w)(hd:0<d.w)(hk:k≠0)(h:(0<=u/\0<=v)∨(u<=0/\v<=0))(ex:k*p.x=u*c.x+v*d.x)(ey:k*p.y=u*c.y+v*d.y)(ew:k*p.w=u*c.w+v*d.w)(hb:bq c d=true):on3 c d p=true:=by
 rcases h with⟨hu,hv⟩|⟨hu,hv⟩
 ·have h1:=Qz hu (uU hc);have h2:=Qz hv (uU hd);have kp:0<k:=by
   rcases vZ k 0 with q|q
   ·have:=uc q hp;omega
   ·omega
  exact zlu kp hu hv ex ey ew hb
 ·have h1:=Qz (show 0<= -u by omega) (uU hc)
  have h2:=Qz (show 0<= -v by omega) (uU hd)
  rw[ur] at h1 h2;have kp:0< -k:=by
   rcases vZ k 0 with q|q
   ·omega
   ·have:=UW (show 0<k by omega) hp
    omega
  refine zlu kp (show 0<= -u by omega) (show 0<= -v by omega) ?_ ?_ ?_ hb
  ·rw[ur,ur,ur];omega
  ·rw[ur,ur,ur];omega
  ·rw[ur,ur,ur];omega
theorem zev(a b c d:Q3):dt a b d*c.x+ -dt a b c*d.x=dt c d a*b.x+ -dt c d b*a.x:=by unfold dt det3 lnA lnB lnC;grind
theorem zew(a b c d:Q3):dt a b d*c.y+ -dt a b c*d.y=dt c d a*b.y+ -dt c d b*a.y:=by unfold dt det3 lnA lnB lnC;grind
theorem zea(a b c d:Q3):dt a b d*c.w+ -dt a b c*d.w=dt c d a*b.w+ -dt c d b*a.w:=by unfold dt det3 lnA lnB lnC;grind
theorem zg9{s t:Int}(h:sgn s≠sgn t):(0<=t/\0<= -s)∨(t<=0/\ -s<=0):=by
 rcases zd7 s with⟨h1,e1⟩|⟨h1,e1⟩|⟨h1,e1⟩<;>rcases zd7 t with⟨h2,e2⟩|⟨h2,e2⟩|⟨h2,e2⟩<;>rw[e1,e2] at h<;>omega
theorem meet_on{a b c d p:Q3}{k:Int}(ha:0<a.w)(hb:0<b.w)(hc:0<c.w)(hd:0<d.w)(hp:0<p.w)(hk:k≠0)(bab:bq a b=true)(bcd:bq c d=true)(hs:sgn (dt a b c)≠sgn (dt a b d))(ht:sgn (dt c d a)≠sgn (dt c d b))
  (ex:k*p.x=dt a b d*c.x+ -dt a b c*d.x)(ey:k*p.y=dt a b d*c.y+ -dt a b c*d.y)(ew:k*p.w=dt a b d*c.w+ -dt a b c*d.w):on3 a b p=true/\on3 c d p=true:=by
 refine⟨?_,btw hp hc hd hk (zg9 hs) ex ey ew bcd⟩;rw[zev,At] at ex;rw[zew,At] at ey;rw[zea,At] at ew;refine btw hp ha hb hk ?_ ex ey ew bab;have:=zg9 ht;omega
inductive MR where
 |none
 |spot (p:Q3)
 |part (p q:Q3)
def fst3(a c:Q3):Q3:=if bq a c=true then c else a
def snd3(b d:Q3):Q3:=if bq b d=true then b else d
def mtL(a b c d:Q3):MR:=if bq (snd3 b d) (fst3 a c)=true then .none else if(fst3 a c).x=(snd3 b d).x/\(fst3 a c).y=(snd3 b d).y/\(fst3 a c).w=(snd3 b d).w then .spot (fst3 a c) else .part (fst3 a c) (snd3 b d)
def crX(a b c d:Q3):Int:=lnB a.x a.y a.w b.x b.y b.w*lnC c.x c.y c.w d.x d.y d.w-lnC a.x a.y a.w b.x b.y b.w*lnB c.x c.y c.w d.x d.y d.w
def crY(a b c d:Q3):Int:=lnC a.x a.y a.w b.x b.y b.w*lnA c.x c.y c.w d.x d.y d.w-lnA a.x a.y a.w b.x b.y b.w*lnC c.x c.y c.w d.x d.y d.w
def crW(a b c d:Q3):Int:=lnA a.x a.y a.w b.x b.y b.w*lnB c.x c.y c.w d.x d.y d.w-lnB a.x a.y a.w b.x b.y b.w*lnA c.x c.y c.w d.x d.y d.w
theorem cr_x(a b c d:Q3):crX a b c d=dt a b d*c.x+ -dt a b c*d.x:=by unfold crX dt det3 lnA lnB lnC;grind
theorem cr_y(a b c d:Q3):crY a b c d=dt a b d*c.y+ -dt a b c*d.y:=by unfold crY dt det3 lnA lnB lnC;grind
theorem cr_w(a b c d:Q3):crW a b c d=dt a b d*c.w+ -dt a b c*d.w:=by unfold crW dt det3 lnA lnB lnC;grind
def crP(a b c d:Q3):Q3:=⟨ptX (crX a b c d) (crY a b c d) (crW a b c d),ptY (crX a b c d) (crY a b c d) (crW a b c d),ptW (crX a b c d) (crY a b c d) (crW a b c d)⟩
def mtS(a b c d:Q3):Q3:=if sgn (dt a b c)=0 then c else if sgn (dt a b d)=0 then d else if sgn (dt c d a)=0 then a else if sgn (dt c d b)=0 then b else crP a b c d
def mtF(a b c d:Q3):MR:=
 if sgn (dt a b c)=0/\sgn (dt a b d)=0 then mtL a b c d
 else if sgn (dt a b c)=sgn (dt a b d) then .none
 else if sgn (dt c d a)=sgn (dt c d b) then .none
 else .spot (mtS a b c d)
def apB(a b c d:Q3):Bool:=if sgn (dt a b c)=0/\sgn (dt a b d)=0 then(bq b c||bq d a) else(decide (sgn (dt a b c)=sgn (dt a b d))||decide (sgn (dt c d a)=sgn (dt c d b)))
theorem zdm{a b:Q3}(h:bq a b=true):bq b a=false:=bef_asym h
theorem zep(a:Q3):bq a a=false:=bef_irr _ _ _
theorem zfz{n:Nat}{a b c:Q3}(ha:PQ n a)(hb:PQ n b)(hc:PQ n c)(h1:bq a b=true)(h2:bq b c=true):bq a c=true:=bef_trans ha.pos hb.pos hc.pos h1 h2
theorem zgg{n:Nat}{a b:Q3}(ha:PQ n a)(hb:PQ n b)(h1:¬bq a b=true)(h2:¬bq b a=true):a=b:=Q3.ext' (zlv ha hb ((Ui.mpr h1).trans (Ui.mpr h2).symm))
theorem zk2{a b c d:Q3}(hc:0<c.w)(hd:0<d.w)(hs:sgn (dt a b c)≠sgn (dt a b d)):crW a b c d≠0:=by
 rw[cr_w];have h:=zg9 hs;intro z;have e:∀{s w:Int},0<w->0<=s->0<=s*w:=fun hw hs=>Qz hs (uU hw);rcases h with⟨h1,h2⟩|⟨h1,h2⟩
 ·have p1:=e hc h1;have p2:=e hd h2;have q1:=(pL.mp (show dt a b d*c.w=0 by omega)).resolve_right (by omega)
  have q2:=(pL.mp (show-dt a b c*d.w=0 by omega)).resolve_right (by omega)
  exact hs (by rw[show dt a b c=0 by omega,q1])
 ·have p1:=e hc (show 0<= -dt a b d by omega)
  have p2:=e hd (show 0<=dt a b c by omega)
  rw[ur] at p1;rw[ur] at z;have q1:=(pL.mp (show dt a b d*c.w=0 by omega)).resolve_right (by omega)
  have q2:=(pL.mp (show dt a b c*d.w=0 by omega)).resolve_right (by omega)
  exact hs (by rw[q1,q2])
theorem zix{n:Nat}{a b c d:Q3}(ha:PQ n a)(hb:PQ n b)(hc:PQ n c)(hd:PQ n d)(bab:bq a b=true)(bcd:bq c d=true)(q:¬bq (snd3 b d) (fst3 a c)=true):bq b c=false/\bq d a=false:=by
 unfold fst3 snd3 at q
 constructor
 ·rw[←gC];intro z;have ac:=zfz ha hb hc bab z;have bd:=zfz hb hc hd z bcd;rw[if_pos ac,if_pos bd] at q;exact q z
 ·rw[←gC];intro z;have n1:¬bq a c=true:=fun w=>by rw[zdm (zfz hc hd ha bcd z)] at w;cases w
  have n2:¬bq b d=true:=fun w=>by rw[zdm (zfz hd ha hb z bab)] at w;cases w
  rw[if_neg n1,if_neg n2] at q;exact q z
theorem on_of{a b p:Q3}(h0:dt a b p=0)(h1:bq p a=false)(h2:bq b p=false):on3 a b p=true:=by
 unfold on3 onB;unfold dt at h0;unfold bq at h1 h2;rw[h0,zei,if_pos rfl,h1,h2];rfl
theorem zfy(a b:Q3):dt a b a=0:=det3_first _ _ _ _ _ _
theorem zf4(a b:Q3):dt a b b=0:=det3_second _ _ _ _ _ _
theorem line_back{n:Nat}{a b c d:Q3}(ha:PQ n a)(hb:PQ n b)(bab:bq a b=true)(s0:dt a b c=0)(s1:dt a b d=0):dt c d a=0/\dt c d b=0:=by
 have ex:=zev a b c d;have ey:=zew a b c d;have ew:=zea a b c d;rw[s0,s1] at ex ey ew;simp only[gP,Int.neg_zero,Int.add_zero] at ex ey ew;have h1:=ha.pos;have h2:=hb.pos;generalize dt c d a=t at*;generalize dt c d b=v at*;rw[ur] at ex ey ew
 by_cases ht:t=0
 ·subst ht;rw[gP] at ew;exact⟨rfl,(pL.mp (show v*a.w=0 by omega)).resolve_right (by omega)⟩
 ·exfalso
  have k1:t*(b.x*a.w-a.x*b.w)=0:=by
   calc _=(t*b.x)*a.w-a.x*(t*b.w):=by grind
    _=(v*a.x)*a.w-a.x*(v*a.w):=by rw[show t*b.x=v*a.x by omega,show t*b.w=v*a.w by omega]
    _=0:=by grind
  have k2:t*(b.y*a.w-a.y*b.w)=0:=by
   calc _=(t*b.y)*a.w-a.y*(t*b.w):=by grind
    _=(v*a.y)*a.w-a.y*(v*a.w):=by rw[show t*b.y=v*a.y by omega,show t*b.w=v*a.w by omega]
    _=0:=by grind
  have z1:=(pL.mp k1).resolve_left ht;have z2:=(pL.mp k2).resolve_left ht;unfold bq at bab;rw[zbs] at bab;omega
theorem zl5{n:Nat}{a b c d:Q3}(ha:PQ n a)(hb:PQ n b)(hc:PQ n c)(hd:PQ n d)(bab:bq a b=true)(bcd:bq c d=true)(s0:dt a b c=0)(s1:dt a b d=0)(q:¬bq (snd3 b d) (fst3 a c)=true):
  (on3 a b (fst3 a c)=true/\on3 c d (fst3 a c)=true)/\on3 a b (snd3 b d)=true/\on3 c d (snd3 b d)=true:=by
 obtain⟨n1,n2⟩:=zix ha hb hc hd bab bcd q;obtain⟨t0,t1⟩:=line_back ha hb bab s0 s1;refine⟨?_,?_⟩
 ·unfold fst3
  by_cases e:bq a c=true
  ·rw[if_pos e];exact⟨on_of s0 (zdm e) n1,on_of (zfy c d) (zep c) (zdm bcd)⟩
  ·rw[if_neg e];refine⟨on_of (zfy a b) (zep a) (zdm bab),on_of t0 (Ui.mpr e) n2⟩
 ·unfold snd3
  by_cases e:bq b d=true
  ·rw[if_pos e];exact⟨on_of (zf4 a b) (zdm bab) (zep b),on_of t1 n1 (zdm e)⟩
  ·rw[if_neg e];exact⟨on_of s1 n2 (Ui.mpr e),on_of (zf4 c d) (zdm bcd) (zep d)⟩
theorem zll{n:Nat}{a b c d p q:Q3}(ha:PQ n a)(hb:PQ n b)(hc:PQ n c)(hd:PQ n d)(bab:bq a b=true)(bcd:bq c d=true)(h:mtF a b c d=.part p q):
  apB a b c d=false/\(sgn (dt a b c)=0/\sgn (dt a b d)=0)/\PQ n p/\PQ n q/\bq p q=true/\(on3 a b p=true/\on3 c d p=true)/\(on3 a b q=true/\on3 c d q=true)/\(p=a∨p=c)/\(q=b∨q=d):=by
 unfold mtF at h;unfold apB
 by_cases l:sgn (dt a b c)=0/\sgn (dt a b d)=0
 ·rw[if_pos l] at h⊢;unfold mtL at h
  by_cases e:bq (snd3 b d) (fst3 a c)=true
  ·rw[if_pos e] at h;cases h
  ·rw[if_neg e] at h
   split at h
   ·cases h
   ·rename_i ne
    cases h;obtain⟨n1,n2⟩:=zix ha hb hc hd bab bcd e;obtain⟨o1,o2⟩:=zl5 ha hb hc hd bab bcd (zaf.mp l.1) (zaf.mp l.2) e;have pf:PQ n (fst3 a c)/\(fst3 a c=a∨fst3 a c=c):=by
     unfold fst3;split
     ·exact⟨hc,.inr rfl⟩
     ·exact⟨ha,.inl rfl⟩
    have ps:PQ n (snd3 b d)/\(snd3 b d=b∨snd3 b d=d):=by
     unfold snd3;split
     ·exact⟨hb,.inl rfl⟩
     ·exact⟨hd,.inr rfl⟩
    refine⟨by rw[n1,n2];rfl,l,pf.1,ps.1,?_,o1,o2,pf.2,ps.2⟩
    cases eb:bq (fst3 a c) (snd3 b d) with
    |true=>rfl
    |false=>
     have:=zgg pf.1 ps.1 (by rw[eb];decide) e
     exact absurd ⟨congrArg Q3.x this,congrArg Q3.y this,congrArg Q3.w this⟩ ne
 ·rw[if_neg l] at h
  split at h
  ·cases h
  ·split at h<;>cases h
theorem zkr{n m:Nat}{a b c d p:Q3}(hm:n<=m)(ha:PQ n a)(hb:PQ n b)(hc:PQ n c)(hd:PQ n d)(bab:bq a b=true)(bcd:bq c d=true)(hx:(crX a b c d).natAbs<2^m)(hy:(crY a b c d).natAbs<2^m)(hw:(crW a b c d).natAbs<2^m)(h:mtF a b c d=.spot p):
  apB a b c d=false/\PQ m p/\on3 a b p=true/\on3 c d p=true/\((sgn (dt a b c)=0/\sgn (dt a b d)=0)->(p=b/\b=c)∨(p=d/\d=a)):=by
 have up:∀{z:Q3},PQ n z->PQ m z:=fun h=>Pt.mono h hm;unfold mtF at h;unfold apB
 by_cases l:sgn (dt a b c)=0/\sgn (dt a b d)=0
 ·rw[if_pos l] at h⊢;unfold mtL at h
  by_cases e:bq (snd3 b d) (fst3 a c)=true
  ·rw[if_pos e] at h;cases h
  ·rw[if_neg e] at h
   split at h
   ·rename_i eq
    cases h;obtain⟨n1,n2⟩:=zix ha hb hc hd bab bcd e;obtain⟨o1,o2⟩:=zl5 ha hb hc hd bab bcd (zaf.mp l.1) (zaf.mp l.2) e;have eq:=Q3.ext' eq;refine⟨by rw[n1,n2];rfl,?_,o1.1,o1.2,fun _=>?_⟩
    ·unfold fst3;split
     ·exact up hc
     ·exact up ha
    ·unfold fst3 snd3 at eq;unfold fst3
     by_cases q1:bq a c=true<;>by_cases q2:bq b d=true
     ·rw[if_pos q1,if_pos q2] at eq;rw[if_pos q1];exact .inl ⟨eq,eq.symm⟩
     ·rw[if_pos q1,if_neg q2] at eq;rw[eq,zep] at bcd;cases bcd
     ·rw[if_neg q1,if_pos q2] at eq;rw[eq,zep] at bab;cases bab
     ·rw[if_neg q1,if_neg q2] at eq;rw[if_neg q1];exact .inr ⟨eq,eq.symm⟩
   ·cases h
 ·rw[if_neg l] at h⊢
  by_cases q1:sgn (dt a b c)=sgn (dt a b d)
  ·rw[if_pos q1] at h;cases h
  ·by_cases q2:sgn (dt c d a)=sgn (dt c d b)
   ·rw[if_neg q1,if_pos q2] at h;cases h
   ·rw[if_neg q1,if_neg q2] at h
    cases h;have wn:=zk2 (a:=a) (b:=b) hc.pos hd.pos q1;have key:∀{z:Q3}{k:Int},k≠0->PQ m z->k*z.x=crX a b c d->k*z.y=crY a b c d->k*z.w=crW a b c d->PQ m z/\on3 a b z=true/\on3 c d z=true:=fun{z k} hk hz e1 e2 e3=>
     ⟨hz,meet_on ha.pos hb.pos hc.pos hd.pos hz.pos hk bab bcd q1 q2 (by rw[e1,cr_x]) (by rw[e2,cr_y]) (by rw[e3,cr_w])⟩
    have main:PQ m (mtS a b c d)/\on3 a b (mtS a b c d)=true/\on3 c d (mtS a b c d)=true:=by
     unfold mtS
     by_cases z1:sgn (dt a b c)=0
     ·rw[if_pos z1];have y1:=zaf.mp z1;refine key (k:=dt a b d) (fun y=>q1 (by rw[y1,y])) (up hc) ?_ ?_ ?_
      ·rw[cr_x,y1];simp
      ·rw[cr_y,y1];simp
      ·rw[cr_w,y1];simp
     ·rw[if_neg z1]
      by_cases z2:sgn (dt a b d)=0
      ·rw[if_pos z2];have y2:=zaf.mp z2;refine key (k:= -dt a b c) (fun y=>z1 (zaf.mpr (by omega))) (up hd) ?_ ?_ ?_
       ·rw[cr_x,y2];simp
       ·rw[cr_y,y2];simp
       ·rw[cr_w,y2];simp
      ·rw[if_neg z2]
       by_cases z3:sgn (dt c d a)=0
       ·rw[if_pos z3];have y3:=zaf.mp z3;refine key (k:= -dt c d b) (fun y=>q2 (by rw[y3,show dt c d b=0 by omega])) (up ha) ?_ ?_ ?_
        ·rw[cr_x,zev,y3];simp
        ·rw[cr_y,zew,y3];simp
        ·rw[cr_w,zea,y3];simp
       ·rw[if_neg z3]
        by_cases z4:sgn (dt c d b)=0
        ·rw[if_pos z4];have y4:=zaf.mp z4;refine key (k:=dt c d a) (fun y=>z3 (zaf.mpr y)) (up hb) ?_ ?_ ?_
         ·rw[cr_x,zev,y4];simp
         ·rw[cr_y,zew,y4];simp
         ·rw[cr_w,zea,y4];simp
        ·rw[if_neg z4];refine key (k:=fac3 (crX a b c d) (crY a b c d) (crW a b c d)) (zj1 wn) (pt_mk wn hx hy hw) ?_ ?_ ?_
         ·rw[uf];exact zl0 _ _ _
         ·rw[uf];exact zlr _ _ _
         ·rw[uf];exact zkj _ _ _
    exact⟨by rw[decide_eq_false q1,decide_eq_false q2];rfl,main.1,main.2.1,main.2.2,fun z=>absurd z l⟩
def PtQ(n:Nat)(H:Hp)(p:Addr)(a:Q3):Prop:=PtH n H p a.x a.y a.w
theorem PtQ.same{n:Nat}{H H':Hp}{p:Addr}{a:Q3}(h:PtQ n H p a)(g:Same H H'):PtQ n H' p a:=PtH.same h g
theorem PtQ.tb{m n:Nat}{H:Hp}{p:Addr}{a:Q3}(h:PtQ m H p a)(hm:m<=n:=by decide):TB n H p a.x a.y a.w:=PtH.tb h hm
theorem PtQ.pt{n:Nat}{H:Hp}{p:Addr}{a:Q3}(h:PtQ n H p a):PQ n a:=h.2
def PtAt(H:Hp)(p:Addr)(a:Q3):Prop:=H p=some (.tup [.int a.x,.int a.y,.int a.w])
def MtV(H:Hp)(v:V):MR->Prop
 |.none=>v=.non
 |.spot p=>∃x y,v=.ref x/\H x=some (.tup [.str "spot",.ref y])/\PtAt H y p
 |.part p q=>∃x y m n,v=.ref x/\H x=some (.tup [.str "part",.ref y])/\H y=some (.tup [.ref m,.ref n])/\PtAt H m p/\PtAt H n q
structure St4(H:Hp)(s t p q r u:Addr)(a b c d:Q3):Prop where
 s:H s=some (.tup [.ref p,.ref q])
 t:H t=some (.tup [.ref r,.ref u])
 a:PtQ 130 H p a
 b:PtQ 130 H q b
 c:PtQ 130 H r c
 d:PtQ 130 H u d
theorem St4.same{H H':Hp}{s t p q r u:Addr}{a b c d:Q3}(h:St4 H s t p q r u a b c d)(g:Same H H'):St4 H' s t p q r u a b c d:=⟨g _ _ h.s,g _ _ h.t,h.a.same g,h.b.same g,h.c.same g,h.d.same g⟩
def sp_mol:Sp:=fun vs H Q _=>∃(s t p q r u:Addr)(a b c d:Q3),vs=[.ref s,.ref t]/\St4 H s t p q r u a b c d/\∀v H',Same H H'->MtV H' v (mtL a b c d)->Q v H'
def sp_meet:Sp:=fun vs H Q _=>∃(s t p q r u:Addr)(a b c d:Q3),vs=[.ref s,.ref t]/\St4 H s t p q r u a b c d/\∀v H',Same H H'->MtV H' v (mtF a b c d)->Q v H'
def dI2(x y:Int):PyData:=.tuple [.int x,.int y]
theorem rd_i2{K:kC}{H:Hp}{p:Addr}{x y:Int}(h:SqT K H p [.int x,.int y]):RdD K H (dI2 x y) (.ref p):=by
 unfold dI2;rw[RdD];exact⟨p,_,rfl,h,by simp[RdDs,RdD]⟩
theorem zh6(x y:Int):uv (dI2 x y)=true:=by
 simp[dI2,uv,ug,pN,ud,uF]
theorem dI2_eqv(x y x' y':Int):pj (dI2 x y) (dI2 x' y')=decide (x=x'/\y=y'):=by
 simp only[dI2,pj,pU,Bt]
 by_cases h1:x=x'<;>by_cases h2:y=y'<;>simp[h1,h2]
def StQ(n:Nat)(H:Hp)(s:Addr)(a b:Q3):Prop:=∃p q,H s=some (.tup [.ref p,.ref q])/\PtQ n H p a/\PtQ n H q b/\bq a b=true
theorem StQ.ts{n:Nat}{H H':Hp}{s:Addr}{a b:Q3}(h:StQ n H s a b)(g:TupSame H H'):StQ n H' s a b:=by
 obtain⟨p,q,h1,h2,h3,h4⟩:=h;exact⟨p,q,g _ _ h1,⟨g _ _ h2.1,h2.2⟩,⟨g _ _ h3.1,h3.2⟩,h4⟩
theorem StQ.mono{m n:Nat}{H:Hp}{s:Addr}{a b:Q3}(h:StQ m H s a b)(hm:m<=n):StQ n H s a b:=by
 obtain⟨p,q,h1,h2,h3,h4⟩:=h;exact⟨p,q,h1,PtH.mono h2 hm,PtH.mono h3 hm,h4⟩
theorem zdw{xs:List Int}{j:Int}(h0:0<=j)(h1:j<xs.length):∃x:Int,atI (xs.map V.int) j=some (.int x):=by
 have hk:j.toNat<xs.length:=by omega
 refine⟨xs[j.toNat],?_⟩;have z:atI (xs.map V.int) ((j.toNat:Nat):Int)=some (.int xs[j.toNat]):=zaq (by rw[ke,kL hk];rfl)
 rw[show((j.toNat:Nat):Int)=j by omega] at z
 exact z
theorem g3_shift(x y w:Int):g3 (x+w) y w=g3 x y w:=by
 have e:∀z:Int,g3 z y w=vX y.natAbs (CJ z w):=fun z=>by
  unfold g3;show _=vX y.natAbs (vX z.natAbs w.natAbs);rw[Aq z.natAbs y.natAbs,jo]
 rw[e,e];have:=Uo w x 1;rw[CZ] at this;rw[this]
theorem ky_ge{n:Nat}{a b:Q3}{g:Int}(ha:PQ n a)(hb:PQ n b)(ga:a.w<=g)(gb:b.w<=g)(h:bq a b=false):lt2 (kyQ g a) (kyQ g b)=false:=by
 cases e:bq b a with
 |true=>
  have z:=ky_lt hb.pos ha.pos gb ga e
  cases e2:lt2 (kyQ g a) (kyQ g b) with
  |false=>rfl
  |true=>
   have:=sto2.tr _ _ _ z e2;rw[sto2.irr] at this
   cases this
 |false=>
  rw[zjp ha hb h e];exact sto2.irr _
theorem zhd{a p b:Q3}(ha:0<a.w)(hp:0<p.w)(hb:0<b.w)(h1:bq p a=false)(h2:bq b p=false):bq b a=false:=by
 unfold bq at*;rw[zd8] at*;rcases h1 with h1|⟨h1,h1'⟩<;>rcases h2 with h2|⟨h2,h2'⟩
 ·exact .inl ((ze1 (a:=a.x) (b:=p.x) (c:=b.x) ha hp hb (by omega) (by omega)).2 (.inl (by omega)))
 ·exact .inl ((ze1 (a:=a.x) (b:=p.x) (c:=b.x) ha hp hb (by omega) (by omega)).2 (.inl (by omega)))
 ·exact .inl ((ze1 (a:=a.x) (b:=p.x) (c:=b.x) ha hp hb (by omega) (by omega)).2 (.inr (by omega)))
 ·have q1:=(ze1 (a:=a.x) (b:=p.x) (c:=b.x) ha hp hb (by omega) (by omega)).1
  have q2:=(ze1 (a:=b.x) (b:=p.x) (c:=a.x) hb hp ha (by omega) (by omega)).1
  have q3:=(ze1 (a:=a.y) (b:=p.y) (c:=b.y) ha hp hb (by omega) (by omega)).1
  exact .inr ⟨by omega,q3⟩
theorem zc0{a b p:Q3}(h:on3 a b p=true):dt a b p=0/\bq p a=false/\bq b p=false:=by
 unfold on3 onB at h;unfold dt bq
 by_cases e:sgn (det3 a.x a.y a.w b.x b.y b.w p.x p.y p.w)=0
 ·rw[if_pos e] at h;rw[Bool.and_eq_true,vU,vU] at h;exact⟨zaf.mp e,h.1,h.2⟩
 ·rw[if_neg e] at h
  cases h
theorem dt_mid(a b p:Q3):p.w*dt a b p=dY a p*dX p b-dX a p*dY p b:=by unfold dt dX dY det3 lnA lnB lnC;grind
theorem on_height{a b p:Q3}(h:on3 a b p=true)(hp:0<p.w):(a.y*p.w<=p.y*a.w∨b.y*p.w<=p.y*b.w)/\(p.y*a.w<=a.y*p.w∨p.y*b.w<=b.y*p.w):=by
 obtain⟨h0,h1,h2⟩:=zc0 h;unfold bq at h1 h2;rw[zd8] at h1 h2;have e:=dt_mid a b p;rw[h0,As] at e;have x1:dX a p=p.x*a.w-a.x*p.w:=rfl;have x2:dX p b=b.x*p.w-p.x*b.w:=rfl;have y1:dY a p=p.y*a.w-a.y*p.w:=rfl;have y2:dY p b=b.y*p.w-p.y*b.w:=rfl;generalize dX a p=X1 at*;generalize dX p b=X2 at*;generalize dY a p=Y1 at*;generalize dY p b=Y2 at*;have n1:0<=X1:=by omega
 have n2:0<=X2:=by omega
 constructor
 ·by_cases c1:a.y*p.w<=p.y*a.w
  ·exact .inl c1
  ·by_cases c2:b.y*p.w<=p.y*b.w
   ·exact .inr c2
   ·exfalso
    have k1:Y1<0:=by omega
    have k2:0<Y2:=by omega
    have z1:X1≠0:=fun z=>by omega
    have m1:0<X1*Y2:=UW (by omega) k2
    have m2:Y1*X2<=0:=vJ (by omega) n2
    omega
 ·by_cases c1:p.y*a.w<=a.y*p.w
  ·exact .inl c1
  ·by_cases c2:p.y*b.w<=b.y*p.w
   ·exact .inr c2
   ·exfalso
    have k1:0<Y1:=by omega
    have k2:Y2<0:=by omega
    have z1:X2≠0:=fun z=>by omega
    have m1:X1*Y2<=0:=Int.mul_nonpos_of_nonneg_of_nonpos n1 (by omega)
    have m2:0<Y1*X2:=UW k1 (by omega)
    omega
theorem fl_le{a b c d G:Int}(hb:0<b)(hd:0<d)(hG:0<=G)(h:a*d<=c*b):a*G/b<=c*G/d:=by
 refine gr hd (jU ?_ hb);have h0:a*G/b*b<=a*G:=Bb _ (by omega)
 have h1:=Qf h0 (uU hd);have h2:=vn h hG;generalize a*G/b=A at*
 calc A*d*b=A*b*d:=by grind
  _<=a*G*d:=h1
  _=G*(a*d):=by grind
  _<=G*(c*b):=h2
  _=c*G*b:=by grind
def lowF(g:Int)(s:Q3×Q3):Int:=if(kyQ g s.2).2<(kyQ g s.1).2 then(kyQ g s.2).2 else(kyQ g s.1).2
def highF(g:Int)(s:Q3×Q3):Int:=if(kyQ g s.2).2>(kyQ g s.1).2 then(kyQ g s.2).2 else(kyQ g s.1).2
def Nigh(g:Int)(a b:Q3×Q3):Prop:=lt2 (kyQ g a.2) (kyQ g b.1)=false/\lt2 (kyQ g b.2) (kyQ g a.1)=false/\lowF g a<=highF g b/\lowF g b<=highF g a
theorem Nigh.symm{g:Int}{a b:Q3×Q3}(h:Nigh g a b):Nigh g b a:=⟨h.2.1,h.1,h.2.2.2,h.2.2.1⟩
theorem zme{g:Int}{s:Q3×Q3}{p:Q3}(h1:0<s.1.w)(h2:0<s.2.w)(hp:0<p.w)(h:on3 s.1 s.2 p=true):lowF g s<=(kyQ g p).2/\(kyQ g p).2<=highF g s:=by
 have G0:0<=g*g:=by
  rcases vZ g 0 with z|z
  ·exact uU (jZ z z)
  ·exact Qz z z
 obtain⟨q1,q2⟩:=on_height h hp;unfold lowF highF;have e1:∀r:Q3,(kyQ g r).2=r.y*(g*g)/r.w:=fun r=>rfl;simp only[e1];refine⟨?_,?_⟩
 ·rcases q1 with q|q
  ·have:=fl_le h1 hp G0 q
   split<;>omega
  ·have:=fl_le h2 hp G0 q
   split<;>omega
 ·rcases q2 with q|q
  ·have:=fl_le hp h1 G0 q
   split<;>omega
  ·have:=fl_le hp h2 G0 q
   split<;>omega
theorem nigh_of{n:Nat}{g:Int}{a b:Q3×Q3}{p:Q3}(ha:PQ n a.1)(ha':PQ n a.2)(hb:PQ n b.1)(hb':PQ n b.2)(ga:a.1.w<=g)(ga':a.2.w<=g)(gb:b.1.w<=g)(gb':b.2.w<=g)(hp:0<p.w)(h1:on3 a.1 a.2 p=true)(h2:on3 b.1 b.2 p=true):Nigh g a b:=by
 obtain⟨_,i1,i2⟩:=zc0 h1;obtain⟨_,j1,j2⟩:=zc0 h2;have l1:=zme (g:=g) ha.pos ha'.pos hp h1;have l2:=zme (g:=g) hb.pos hb'.pos hp h2;exact⟨ky_ge ha' hb ga' gb (zhd hb.pos hp ha'.pos j1 i2),ky_ge hb' ha gb' ga (zhd ha.pos hp hb'.pos i1 j2),by omega,by omega⟩
theorem shares{c d p:Q3}{k u v:Int}(hp:on3 c d p=true)(cd:bq c d=true)(ex:k*p.x=u*c.x+v*d.x)(ey:k*p.y=u*c.y+v*d.y)(ew:k*p.w=u*c.w+v*d.w):¬(0<u/\v<0)/\¬(u<0/\0<v):=by
 obtain⟨_,h1,h2⟩:=zc0 hp;unfold bq at h1 h2 cd;rw[zd8] at h1 h2;rw[zbs] at cd;have x1:k*(p.x*c.w-c.x*p.w)=v*(d.x*c.w-c.x*d.w):=by
  calc _=(k*p.x)*c.w-c.x*(k*p.w):=by grind
   _=_:=by rw[ex,ew];grind
 have y1:k*(p.y*c.w-c.y*p.w)=v*(d.y*c.w-c.y*d.w):=by
  calc _=(k*p.y)*c.w-c.y*(k*p.w):=by grind
   _=_:=by rw[ey,ew];grind
 have x2:k*(d.x*p.w-p.x*d.w)=u*(d.x*c.w-c.x*d.w):=by
  calc _=d.x*(k*p.w)-(k*p.x)*d.w:=by grind
   _=_:=by rw[ex,ew];grind
 have y2:k*(d.y*p.w-p.y*d.w)=u*(d.y*c.w-c.y*d.w):=by
  calc _=d.y*(k*p.w)-(k*p.y)*d.w:=by grind
   _=_:=by rw[ey,ew];grind
 have sg:∀{z t r:Int},k*z=t*r->0<=z->0<r->(0<t->0<k)/\(t<0->k<0):=fun{z t r} e hz hr=>by
  refine⟨fun ht=>?_,fun ht=>?_⟩
  ·have m:=UW ht hr;rcases vZ 0 k with q|q
   ·exact q
   ·have:=vJ q hz;omega
  ·have m:=uc ht hr;rcases vZ k 0 with q|q
   ·exact q
   ·have:=Qz q hz;omega
 have both:(0<v->0<k)/\(v<0->k<0)/\(0<u->0<k)/\(u<0->k<0):=by
  rcases cd with cd|⟨cd,cy⟩
  ·obtain⟨a1,a2⟩:=sg x1 (by omega) (by omega)
   obtain⟨b1,b2⟩:=sg x2 (by omega) (by omega)
   exact⟨a1,a2,b1,b2⟩
  ·by_cases k0:k=0
   ·subst k0;rw[gP] at y1 y2;have r0:d.y*c.w-c.y*d.w≠0:=by omega
    have v0:=(pL.mp y1.symm).resolve_right r0;have u0:=(pL.mp y2.symm).resolve_right r0;omega
   ·have z0:d.x*c.w-c.x*d.w=0:=by omega
    rw[z0,As] at x1 x2;have w1:=(pL.mp x1).resolve_left k0;have w2:=(pL.mp x2).resolve_left k0;obtain⟨a1,a2⟩:=sg y1 (by omega) (by omega)
    obtain⟨b1,b2⟩:=sg y2 (by omega) (by omega)
    exact⟨a1,a2,b1,b2⟩
 omega
theorem mtS_cr{a b c d:Q3}(ha:0<a.w)(hb:0<b.w)(hc:0<c.w)(hd:0<d.w)(q1:sgn (dt a b c)≠sgn (dt a b d))(q2:sgn (dt c d a)≠sgn (dt c d b)):
  ∃k:Int,k≠0/\k*(mtS a b c d).x=crX a b c d/\k*(mtS a b c d).y=crY a b c d/\k*(mtS a b c d).w=crW a b c d:=by
 have wn:=zk2 (a:=a) (b:=b) hc hd q1;unfold mtS
 by_cases z1:sgn (dt a b c)=0
 ·rw[if_pos z1];have y1:=zaf.mp z1;refine⟨dt a b d,fun y=>q1 (by rw[y1,y]),?_,?_,?_⟩
  ·rw[cr_x,y1];simp
  ·rw[cr_y,y1];simp
  ·rw[cr_w,y1];simp
 ·rw[if_neg z1]
  by_cases z2:sgn (dt a b d)=0
  ·rw[if_pos z2];have y2:=zaf.mp z2;refine⟨-dt a b c,fun y=>z1 (zaf.mpr (by omega)),?_,?_,?_⟩
   ·rw[cr_x,y2];simp
   ·rw[cr_y,y2];simp
   ·rw[cr_w,y2];simp
  ·rw[if_neg z2]
   by_cases z3:sgn (dt c d a)=0
   ·rw[if_pos z3];have y3:=zaf.mp z3;refine⟨-dt c d b,fun y=>q2 (by rw[y3,show dt c d b=0 by omega]),?_,?_,?_⟩
    ·rw[cr_x,zev,y3];simp
    ·rw[cr_y,zew,y3];simp
    ·rw[cr_w,zea,y3];simp
   ·rw[if_neg z3]
    by_cases z4:sgn (dt c d b)=0
    ·rw[if_pos z4];have y4:=zaf.mp z4;refine⟨dt c d a,fun y=>z3 (zaf.mpr y),?_,?_,?_⟩
     ·rw[cr_x,zev,y4];simp
     ·rw[cr_y,zew,y4];simp
     ·rw[cr_w,zea,y4];simp
    ·rw[if_neg z4];refine⟨fac3 (crX a b c d) (crY a b c d) (crW a b c d),zj1 wn,?_,?_,?_⟩
     ·rw[uf];exact zl0 _ _ _
     ·rw[uf];exact zlr _ _ _
     ·rw[uf];exact zkj _ _ _
theorem zg8{k z1 z2 p1 p2 X W:Int}(hk:k≠0)(e1:k*z1=X)(e2:k*z2=W)(h:p1*W=X*p2):z1*p2=p1*z2:=by
 have:k*(z1*p2)=k*(p1*z2):=by
  calc _=(k*z1)*p2:=by grind
   _=p1*(k*z2):=by rw[e1,e2,h]
   _=_:=by grind
 exact Int.eq_of_mul_eq_mul_left hk this
theorem mtS_pq{n m:Nat}{a b c d:Q3}(hm:n<=m)(ha:PQ n a)(hb:PQ n b)(hc:PQ n c)(hd:PQ n d)(hx:(crX a b c d).natAbs<2^m)(hy:(crY a b c d).natAbs<2^m)(hw:(crW a b c d).natAbs<2^m)(wn:crW a b c d≠0):PQ m (mtS a b c d):=by
 unfold mtS
 split
 ·exact Pt.mono hc hm
 ·split
  ·exact Pt.mono hd hm
  ·split
   ·exact Pt.mono ha hm
   ·split
    ·exact Pt.mono hb hm
    ·exact pt_mk wn hx hy hw
theorem zlf{n m:Nat}{a b c d p:Q3}(hm:n<=m)(ha:PQ n a)(hb:PQ n b)(hc:PQ n c)(hd:PQ n d)(bab:bq a b=true)(bcd:bq c d=true)(hx:(crX a b c d).natAbs<2^m)(hy:(crY a b c d).natAbs<2^m)(hw:(crW a b c d).natAbs<2^m)
  (wn:crW a b c d≠0)(hp:PQ m p)(ex:p.x*crW a b c d=crX a b c d*p.w)(ey:p.y*crW a b c d=crY a b c d*p.w)(h1:on3 a b p=true)(h2:on3 c d p=true):mtF a b c d=.spot p:=by
 have q1:sgn (dt a b c)≠sgn (dt a b d):=fun z=>by
  have e1:crW a b c d*p.x=(dt a b d*p.w)*c.x+(-dt a b c*p.w)*d.x:=by rw[uf,ex,cr_x];grind
  have e2:crW a b c d*p.y=(dt a b d*p.w)*c.y+(-dt a b c*p.w)*d.y:=by rw[uf,ey,cr_y];grind
  have e3:crW a b c d*p.w=(dt a b d*p.w)*c.w+(-dt a b c*p.w)*d.w:=by rw[cr_w];grind
  obtain⟨n1,n2⟩:=shares h2 bcd e1 e2 e3;have w0:=hp.pos
  rcases zd7 (dt a b c) with⟨u1,v1⟩|⟨u1,v1⟩|⟨u1,v1⟩<;>rcases zd7 (dt a b d) with⟨u2,v2⟩|⟨u2,v2⟩|⟨u2,v2⟩<;>rw[v1,v2] at z<;>try omega
  ·exact n1 ⟨UW u2 w0,uc (by omega) w0⟩
  ·exact n2 ⟨uc u2 w0,UW (by omega) w0⟩
  ·apply wn
   rw[cr_w,u1,u2]
   simp
 have q2:sgn (dt c d a)≠sgn (dt c d b):=fun z=>by
  have e1:crW a b c d*p.x=(-dt c d b*p.w)*a.x+(dt c d a*p.w)*b.x:=by rw[uf,ex,cr_x,zev];grind
  have e2:crW a b c d*p.y=(-dt c d b*p.w)*a.y+(dt c d a*p.w)*b.y:=by rw[uf,ey,cr_y,zew];grind
  have e3:crW a b c d*p.w=(-dt c d b*p.w)*a.w+(dt c d a*p.w)*b.w:=by rw[cr_w,zea];grind
  obtain⟨n1,n2⟩:=shares h1 bab e1 e2 e3;have w0:=hp.pos
  rcases zd7 (dt c d a) with⟨u1,v1⟩|⟨u1,v1⟩|⟨u1,v1⟩<;>rcases zd7 (dt c d b) with⟨u2,v2⟩|⟨u2,v2⟩|⟨u2,v2⟩<;>rw[v1,v2] at z<;>try omega
  ·exact n2 ⟨uc (by omega) w0,UW u1 w0⟩
  ·exact n1 ⟨UW (by omega) w0,uc u1 w0⟩
  ·apply wn
   rw[cr_w,zea,u1,u2]
   simp
 unfold mtF;rw[if_neg (fun z=>q1 (z.1.trans z.2.symm)),if_neg q1,if_neg q2];obtain⟨k,k0,k1,k2,k3⟩:=mtS_cr ha.pos hb.pos hc.pos hd.pos q1 q2;have ps:=mtS_pq hm ha hb hc hd hx hy hw wn;have:=zit ps hp (zg8 k0 k1 k3 ex) (zg8 k0 k2 k3 ey);rw[Q3.ext' this]
theorem zln(a b c d:Q3):crX c d a b= -crX a b c d/\crY c d a b= -crY a b c d/\crW c d a b= -crW a b c d:=by
 unfold crX crY crW;refine⟨?_,?_,?_⟩<;>grind
theorem cr_bd{n:Nat}{a b c d:Q3}(ha:PQ n a)(hb:PQ n b)(hc:PQ n c)(hd:PQ n d):(crX a b c d).natAbs<2^(n+n+1+(n+n+1)+1)/\(crY a b c d).natAbs<2^(n+n+1+(n+n+1)+1)/\(crW a b c d).natAbs<2^(n+n+1+(n+n+1)+1):=by
 have l:∀{p q:Q3},PQ n p->PQ n q->(lnA p.x p.y p.w q.x q.y q.w).natAbs<2^(n+n+1)/\(lnB p.x p.y p.w q.x q.y q.w).natAbs<2^(n+n+1)/\(lnC p.x p.y p.w q.x q.y q.w).natAbs<2^(n+n+1):=fun hp hq=>
  ⟨zdb (zap hp.ly hq.lw) (zap hp.lw hq.ly),zdb (zap hp.lw hq.lx) (zap hp.lx hq.lw),zdb (zap hp.lx hq.ly) (zap hp.ly hq.lx)⟩
 obtain⟨a1,b1,c1⟩:=l ha hb;obtain⟨a2,b2,c2⟩:=l hc hd;exact⟨zdb (zap b1 c2) (zap c1 b2),zdb (zap c1 a2) (zap a1 c2),zdb (zap a1 b2) (zap b1 a2)⟩
def LR{α:Type}(R:Hp->Addr->α->Prop)(H:Hp)(ys:List V)(as:List α):Prop:=ys.length=as.length/\∀(j:Nat)(v:V),ys[j]?=some v->∃(p:Addr)(a:α),v=.ref p/\as[j]?=some a/\R H p a
section
variable{α:Type}{R:Hp->Addr->α->Prop}
theorem LR.ts(hR:∀H H' p a,TupSame H H'->R H p a->R H' p a){H H':Hp}{ys:List V}{as:List α}(h:LR R H ys as)(g:TupSame H H'):LR R H' ys as:=⟨h.1,fun j v z=>by
 obtain⟨p,d,e,f,s⟩:=h.2 j v z;exact⟨p,d,e,f,hR _ _ _ _ g s⟩⟩
theorem LR.nil{H:Hp}:LR R H [] []:=⟨rfl,fun j v z=>by cases z⟩
theorem LR.app{H:Hp}{ys zs:List V}{as bs:List α}(h:LR R H ys as)(h':LR R H zs bs):LR R H (ys++zs) (as++bs):=by
 refine⟨by rw[kK,kK,h.1,h'.1],fun j v z=>?_⟩
 by_cases hj:j<ys.length
 ·rw[uY hj] at z;obtain⟨q,e,f,g,t⟩:=h.2 j v z;exact⟨q,e,f,by rw[uY (by rw[←h.1];exact hj)];exact g,t⟩
 ·rw[uV (by omega)] at z
  obtain⟨q,e,f,g,t⟩:=h'.2 _ v z;exact⟨q,e,f,by rw[uV (by rw[←h.1];omega),←h.1];exact g,t⟩
theorem LR.one{H:Hp}{p:Addr}{a:α}(s:R H p a):LR R H [.ref p] [a]:=⟨rfl,fun j v z=>by
 cases j with
 |zero=>cases z;exact⟨p,a,rfl,rfl,s⟩
 |succ n=>cases z⟩
theorem LR.snoc{H:Hp}{ys:List V}{as:List α}{p:Addr}{a:α}(h:LR R H ys as)(s:R H p a):LR R H (ys++[.ref p]) (as++[a]):=h.app (.one s)
theorem LR.drop{H:Hp}{ys:List V}{as:List α}(h:LR R H ys as)(n:Nat):LR R H (ys.drop n) (as.drop n):=by
 refine⟨by rw[ki,ki,h.1],fun j v z=>?_⟩
 rw[Qe] at z;obtain⟨q,e,f,g,t⟩:=h.2 _ v z;exact⟨q,e,f,by rw[Qe];exact g,t⟩
theorem LR.at{H:Hp}{ys:List V}{as:List α}(h:LR R H ys as){j:Nat}(hj:j<ys.length):∃(p:Addr)(a:α),ys[j]?=some (.ref p)/\as[j]?=some a/\R H p a:=by
 obtain⟨p,a,e,f,r⟩:=h.2 j ys[j] (kL hj);exact⟨p,a,by rw[kL hj,e],f,r⟩
theorem LR.cons_inv{H:Hp}{v:V}{vs:List V}{as:List α}(h:LR R H (v::vs) as):∃a as',as=a::as'/\(∃p,v=.ref p/\R H p a)/\LR R H vs as':=by
 cases as with
 |nil=>cases h.1
 |cons a as'=>
  refine⟨a,as',rfl,?_,Nat.succ.inj h.1,fun j u z=>h.2 (j+1) u z⟩;obtain⟨p,b,e,f,r⟩:=h.2 0 v rfl
  cases f;exact⟨p,e,r⟩
def iv_lr(R:Hp->Addr->α->Prop)(as:List α)(H2:Hp)(D:Addr):Nat->List V->Hp->Prop:=fun i ys H'=>Same H2 H'/\H' D=some (.lst ys)/\ys.length=i/\LR R H' ys (as.take i)
theorem iv_lr_nil{as:List α}{H2:Hp}{D:Addr}(hD:H2 D=none):iv_lr R as H2 D 0 [] (upd H2 D (.lst [])):=⟨za2 hD _,upd_same,rfl,by rw[uO];exact .nil⟩
theorem iv_lr_put(hR:∀H H' p a,TupSame H H'->R H p a->R H' p a){m:Nat}{H2 H3 H4:Hp}{D:Addr}{i:Nat}{ys:List V}{p:Addr}{as:List α}{a:α}(hD:H2 D=none)(hm:m<100000)(iv:iv_lr R as H2 D i ys H3)(hi:i<m)(ha:as[i]?=some a)(g4:Same H3 H4)(hp:R H4 p a):CPut m (iv_lr R as H2 D) D i (.ref p) H4:=by
 obtain⟨g3',hD3,hy,hall⟩:=iv;have hD4:=g4 _ _ hD3;refine cw_put hi hD4 (by rw[hy];exact Ak hi (Ak hm (by decide))) ⟨zar (g3'.trans g4) hD,upd_same,by rw[kK,hy];rfl,?_⟩
 rw[uA,ha];exact((hall.ts hR (zan g4)).snoc hp).ts hR (zf8 hD4)
end
theorem zi1{X:Cx}{K':kC}(hK:X.K=K')(hu:X.A.units+64<cLine):OpR X (compareOp .NotIn) (rNotInL K'):=by subst hK;exact op_notInL hu
theorem zk0{X:Cx}{K':kC}(hK:X.K=K')(hu:X.A.units+64<cLine):OpR X (compareOp .Eq) (rEqD K'):=by subst hK;exact ziq hu
theorem zfd{X:Cx}(hu:X.A.units+80<cLine):KeyKP X KPp:=keyKP_pairs (by omega)
def QH(H:Hp)(p:Addr)(r:Q3):Prop:=H p=some (.tup [.int r.x,.int r.y,.int r.w])/\PQ 700 r
theorem qh_ts:∀(H H':Hp)(p:Addr)(r:Q3),TupSame H H'->QH H p r->QH H' p r:=fun _ _ _ _ g h=>⟨g _ _ h.1,h.2⟩
theorem QH.same{H H':Hp}{p:Addr}{r:Q3}(h:QH H p r)(g:Same H H'):QH H' p r:=⟨g _ _ h.1,h.2⟩
theorem QH.tb{H:Hp}{p:Addr}{r:Q3}(h:QH H p r){n:Nat}(hn:700<=n:=by decide):TB n H p r.x r.y r.w:=⟨h.1,Pt.bd h.2 hn⟩
theorem LR.same{H H':Hp}{ys:List V}{ps:List Q3}(h:LR QH H ys ps)(g:Same H H'):LR QH H' ys ps:=h.ts qh_ts (zan g)
theorem LR.take{α:Type}{R:Hp->Addr->α->Prop}{H:Hp}{ys:List V}{as:List α}(h:LR R H ys as)(n:Nat):LR R H (ys.take n) (as.take n):=by
 refine⟨by rw[kP,kP,h.1],fun j v z=>?_⟩
 rw[vH] at z
 by_cases c:j<n
 ·rw[if_pos c] at z;obtain⟨q,e,f,g,t⟩:=h.2 _ v z;exact⟨q,e,f,by rw[vH,if_pos c];exact g,t⟩
 ·rw[if_neg c] at z
  cases z
section
variable{P:Program}{w:World}{K:kC}{mg:Str->Option Value}{base:Heap}{ad:Nat->Addr}{fd:Nat->FuncData}
theorem small10k{n:Nat}(h:n<=20000):n<sizeLine:=QM h (by decide)
def StE(n:Nat)(H:Hp)(s:Addr)(e:Q3×Q3):Prop:=StQ n H s e.1 e.2
theorem zbv{n:Nat}:∀(H H':Hp)(p:Addr)(e:Q3×Q3),TupSame H H'->StE n H p e->StE n H' p e:=fun _ _ _ _ g h=>h.ts g
theorem StE.mono{m n:Nat}{H:Hp}{s:Addr}{e:Q3×Q3}(h:StE m H s e)(hm:m<=n):StE n H s e:=StQ.mono h hm
theorem LRe.mono{m n:Nat}{H:Hp}{ys:List V}{ss:List (Q3×Q3)}(h:LR (StE m) H ys ss)(hm:m<=n):LR (StE n) H ys ss:=⟨h.1,fun j v z=>by
 obtain⟨p,e,e1,e2,r⟩:=h.2 j v z;exact⟨p,e,e1,e2,r.mono hm⟩⟩
theorem zgq{n:Nat}{H H':Hp}{R s:Addr}{ys:List V}{ss:List (Q3×Q3)}{e:Q3×Q3}(h:LR (StE n) H ys ss)(g:Same H H')(hR:H' R=some (.lst ys))(hs:StE n H' s e):LR (StE n) (upd H' R (.lst (ys++[.ref s]))) (ys++[.ref s]) (ss++[e]):=
 ((h.ts zbv (zan g)).snoc hs).ts zbv (zf8 hR)
theorem zhl{H2:Hp}{a b:Q3}{p p1 p2:Addr}(hp1:H2 p=none)(hp2:upd H2 p (HO.tup [.int a.x,.int a.y,.int a.w]) p1=none)(hp3:upd (upd H2 p (HO.tup [.int a.x,.int a.y,.int a.w])) p1 (HO.tup [.int b.x,.int b.y,.int b.w]) p2=none){n:Nat}(ha:PQ n a)(hb:PQ n b)(hab:bq a b=true):
  Same H2 (upd (upd (upd H2 p (HO.tup [.int a.x,.int a.y,.int a.w])) p1 (HO.tup [.int b.x,.int b.y,.int b.w])) p2 (HO.tup [.ref p,.ref p1]))/\StE n (upd (upd (upd H2 p (HO.tup [.int a.x,.int a.y,.int a.w])) p1 (HO.tup [.int b.x,.int b.y,.int b.w])) p2 (HO.tup [.ref p,.ref p1])) p2 (a,b):=by
 have g3':=za2 hp1 (HO.tup [.int a.x,.int a.y,.int a.w]);have a3:upd H2 p (HO.tup [.int a.x,.int a.y,.int a.w]) p=some (HO.tup [.int a.x,.int a.y,.int a.w]):=upd_same;generalize upd H2 p (HO.tup [.int a.x,.int a.y,.int a.w])=H3 at*;have g4:=za2 hp2 (HO.tup [.int b.x,.int b.y,.int b.w]);have b4:upd H3 p1 (HO.tup [.int b.x,.int b.y,.int b.w]) p1=some (HO.tup [.int b.x,.int b.y,.int b.w]):=upd_same;generalize upd H3 p1 (HO.tup [.int b.x,.int b.y,.int b.w])=H4 at*;have g5:=za2 hp3 (HO.tup [.ref p,.ref p1]);exact⟨g3'.trans (g4.trans g5),p,p1,upd_same,⟨g5 _ _ (g4 _ _ a3),ha⟩,⟨g5 _ _ b4,hb⟩,hab⟩
theorem zee{x y:Int}(h1:x.natAbs<2^60)(h2:y.natAbs<2^60):PQ 60 ⟨x,y,1⟩:=⟨show(0:Int)<1 by decide,zm2 _ _,h1,h2,show(1:Int).natAbs<2^60 by decide⟩
theorem zlc{n:Nat}{x y:Int}(hn:1<=n)(h1:x.natAbs<2^n)(h2:y.natAbs<2^n):PQ n ⟨x,y,1⟩:=⟨show(0:Int)<1 by decide,zm2 _ _,h1,h2,show 1<2^n from Nat.one_lt_two_pow (by omega)⟩
def sp_qlow:Sp:=fun vs H Q _=>∃(n:Nat)(x y w:Int),vs=[.int x,.int y,.int w]/\n<=8000/\Bd3 n x y w/\0<w/\∀p H'(r:Q3),Same H H'->PtQ n H' p r->r.x*w=x*r.w->r.y*w=y*r.w->Q (.ref p) H'
def sp_qpt:Sp:=fun vs H Q _=>∃n k:Int,vs=[.int n,.int k]/\∀p H'(r:Q3),Same H H'->PtQ 60 H' p r->Q (.ref p) H'
def sp_qstream:Sp:=fun vs H Q _=>∃(c:Int)(m:Nat),vs=[.int c,.int m]/\m<=30/\∀(R:Addr)(xs:List Int)(H':Hp),H R=none->Same H H'->H' R=some (.lst (xs.map V.int))->xs.length=m->Q (.ref R) H'
def sp_qpart:Sp:=fun vs H Q _=>∃(n:Nat)(p q:Addr)(a b:Q3),vs=[.ref p,.ref q]/\n<=900/\PtQ n H p a/\PtQ n H q b/\∀(s:Addr)(H':Hp)(e:Q3×Q3),Same H H'->StE (n+1) H' s e->Q (.ref s) H'
def zgm:Sp:=fun vs H Q _=>∃(l:Addr)(xs:List Int)(m:Nat),vs=[.ref l,.int m]/\m<=8/\H l=some (.lst (xs.map V.int))/\xs.length=2*m+4/\∀(R:Addr)(ys:List V)(ss:List (Q3×Q3))(H':Hp),H R=none->Same H H'->H' R=some (.lst ys)->ys.length=m->LR (StE 61) H' ys ss->Q (.ref R) H'
def sp_qdrawn:Sp:=fun vs H Q _=>∃(c:Int)(m:Nat)(d:Int),vs=[.int c,.int m,.int d]/\m<=8/\∀(R:Addr)(ys:List V)(ss:List (Q3×Q3))(H':Hp),H R=none->Same H H'->H' R=some (.lst ys)->ys.length=m->LR (StE 62) H' ys ss->Q (.ref R) H'
def sp_qcomb:Sp:=fun vs H Q _=>∃c:Int,vs=[.int c]/\∀(R:Addr)(ys:List V)(ss:List (Q3×Q3))(H':Hp),H R=none->Same H H'->H' R=some (.lst ys)->ys.length<=42->LR (StE 61) H' ys ss->Q (.ref R) H'
def sp_qoff:Sp:=fun vs H Q _=>∃(l:Addr)(ys:List V)(ss:List (Q3×Q3))(f:Int),vs=[.ref l,.int f]/\f.natAbs<2^60/\H l=some (.lst ys)/\ys.length<=42/\LR (StE 62) H ys ss/\∀(R:Addr)(zs:List V)(ts:List (Q3×Q3))(H':Hp),H R=none->Same H H'->H' R=some (.lst zs)->zs.length=ys.length->LR (StE 130) H' zs ts->Q (.ref R) H'
def sp_qstr(K:kC):Sp:=fun vs H Q _=>∃(a:Addr)(ns:List Int)(k m:Nat),vs=[.ref a,.int k,.int m]/\SqL K H a (ns.map V.int)/\ns.length<=63/\k<=60/\m<=8/\∀(R:Addr)(ys:List V)(ss:List (Q3×Q3))(H':Hp),H R=none->Same H H'->H' R=some (.lst ys)->ys.length<=45->LR (StE 130) H' ys ss->Q (.ref R) H'
theorem zi7(x y w:Int):x.fdiv (G (G x y) w)*w=x*w.fdiv (G (G x y) w)/\y.fdiv (G (G x y) w)*w=y*w.fdiv (G (G x y) w):=
 ⟨zjz (zbi (by rw[G3];exact g3_da x y w)) (zbi (by rw[G3];exact g3_dc x y w)),zjz (zbi (by rw[G3];exact g3_db x y w)) (zbi (by rw[G3];exact g3_dc x y w))⟩
def natV(ns:List Nat):List V:=ns.map fun k:Nat=>V.int (k:Int)
theorem zd9{ns:List Nat}{j:Nat}{v:V}(h:(natV ns)[j]?=some v):∃k:Nat,ns[j]?=some k/\v=V.int (k:Int):=by
 unfold natV at h;rw[ke] at h;obtain⟨k,h1,h2⟩:=Qr.mp h;exact⟨k,h1,h2.symm⟩
theorem zb1(ns:List Nat):(natV ns).length=ns.length:=kN ..
theorem zfx(a b:List Nat):natV (a++b)=natV a++natV b:=pg
theorem zf6{ns:List Nat}{f:Nat->Bool}{j k:Nat}(h:ns[j]?=some k):(ns.take (j+1)).filter f=(ns.take j).filter f++if f k=true then[k] else[]:=by
 rw[uA,h,AX]
 congr 1
 show List.filter f [k]=_
 by_cases c:f k=true
 ·rw[if_pos c,ve,if_pos c];rfl
 ·rw[if_neg c,ve,if_neg c];rfl
def zQ:Q3×Q3:=(⟨0,0,1⟩,⟨0,0,1⟩)
theorem zcm{ns:List Nat}{f:Nat->Bool}{H2 H3:Hp}{D:Addr}{i k:Nat}{us:List V}{c:Bool}(hi:i<(natV ns).length)(hk:ns[i]?=some k)(hn:ns.length<=19999)(g:Same H2 H3)(hD:H2 D=none)(hD3:H3 D=some (.lst us))(eu:us=natV ((ns.take i).filter f))(ef:f k=c):
  if c=true then CPut (natV ns).length (fun j us H'=>Same H2 H'/\H' D=some (.lst us)/\us=natV ((ns.take j).filter f)) D i (.int (k:Int)) H3 else CSkip (natV ns).length (fun j us H'=>Same H2 H'/\H' D=some (.lst us)/\us=natV ((ns.take j).filter f)) i H3:=by
 refine ite2 (fun c'=>cw_put hi hD3 (small10k ?_) ⟨zar g hD,upd_same,?_⟩) (fun c'=>cw_skip hi (ys:=us) ⟨g,hD3,?_⟩)
 ·rw[eu,zb1];refine kz (pb _ _) ?_;rw[kP];omega
 ·rw[zf6 hk,ef,if_pos c',zfx,eu];rfl
 ·rw[zf6 hk,ef,if_neg c',QL,eu]
theorem zct(T:Txt K mg ad fd):FnOk P w K mg base CX0 1 (ad 22) (fd 22) ["_law_one","_law_other"] zdr:=by
 refine T.law_divisor.fn.ok zeq (fun vs H Q E h=>?_) (fun cdv A outer s H vs Q E hr h=>?_)
 ·obtain⟨a,b,rfl,_⟩:=h;rfl
 obtain⟨a,b,rfl,q⟩:=h;have zmz:=@pss2;have zo5:=@zjl;have zmt:=@zav;have qpv:=@pv;have zmm:=@zaz;have zmr:=@zae;have zoh:=@ps_par;have qpa2:=@pa2;have zmo:=@pe_op;have zmp:=@zao;have zmy:=@zc5;have qpa1:=@pa1;generalize @L2.PE=QE,@L2.PT=QT,@L2.PW=QW,@L2.PA=QA,@L2.PS=QS,@L2.PSs=QSs,@L2.PG=QG,@L2.PGs=QGs,@L2.PI=QI,@L2.PO=QO,@L2.PIf=QIf at zmz zo5 zmt qpv zmm zmr zoh qpa2 zmo zmp zmy qpa1⊢;refine⟨_,
  (zmz
   (zo5 pM (zmt op_ne (qpv 1) zmm (nomark _)) (zmr (zoh (i:=0) (j:=1) rfl zeq.nd rfl rfl (by decide) rfl rfl (qpa2 (qpv 1) za1 (zmo zgo (qpv 0) (qpv 1)) za5) rfl)))
   (zmp (zmy zhk rfl T.b_abs zkz (qpa1 (qpv 0) za1))))
  ,?_⟩
 clear zmz zo5 zmt qpv zmm zmr zoh qpa2 zmo zmp zmy qpa1 QE QT QW QA QS QSs QG QGs QI QO QIf
 dsimp! [L2.start]
 simp! [];refine zjg (iv_ldiv a b H) (fun σ _=>(getI σ 1).natAbs) ⟨rfl,_,_,rfl,rfl⟩ ?_
  (fun σ H Q Q' m h=>by obtain⟨v,e,s,k,e2,q⟩:=h;exact⟨v,e,s,k,e2,m _ _ q⟩)
 rintro σ H' ⟨rfl,x,y,rfl,e⟩;simp! [];refine ite2 (fun c=>?_) (fun c=>?_)
 ·have hy:y≠0:=by simpa using c
  exact⟨hy,⟨rfl,_,_,rfl,(G_fmod x y).trans e⟩,fmod_small hy⟩
 ·have hy:y=0:=by simpa using c
  subst hy;rw[G_end,e];exact q
def kQ(r:Q3):List Key:=[.inl r.x,.inl r.y,.inl r.w]
theorem zh8{p q:Q3}(h:kQ p=kQ q):p=q:=by
 obtain⟨x,y,w⟩:=p;obtain⟨x',y',w'⟩:=q;unfold kQ at h
 cases h;rfl
theorem zm9(r:Q3):(kQ r).map kV=[.int r.x,.int r.y,.int r.w]:=rfl
def KyOk(H:Hp)(kvs:List (List Key×V))(g:Int)(ps:List Q3):Prop:=∀p,p∈ps->∃b,valV kvs (kQ p)=some (.ref b)/\H b=some (.tup [.int (kyQ g p).1,.int (kyQ g p).2])
theorem KyOk.ts{H H':Hp}{kvs:List (List Key×V)}{g:Int}{ps:List Q3}(h:KyOk H kvs g ps)(t:TupSame H H'):KyOk H' kvs g ps:=fun p hp=>by
 obtain⟨b,e,hb⟩:=h p hp;exact⟨b,e,t _ _ hb⟩
def sp_okeys:Sp:=fun vs H Q _=>∃(l:Addr)(ys:List V)(ps:List Q3),vs=[.ref l]/\H l=some (.lst ys)/\ys.length<=20000/\LR QH H ys ps/\
 ∀d kvs g(qs:List Q3) H',Same H H'->H' d=some (.dT kvs)->0<g->(∀p,p∈ps->p.w<=g)->KyOk H' kvs g ps->kvs.map uq=qs.map kQ->qs.Nodup->(∀p,p∈qs↔p∈ps)->qs.length<=ps.length->Q (.ref d) H'
theorem zkn{H:Hp}{D:Addr}{kvs:List (List Key×V)}{o:HO}(h:H D=some (.dT kvs)):TupSame H (upd H D o):=fun b xs q=>by
 rw[za6 (fun z=>by rw[z,h] at q;cases q)]
 exact q
theorem zf9(T:Txt K mg ad fd):FnOk P w K mg base CX0 1 (ad 8) (fd 8) ["points"] sp_okeys:=by
 refine T.order_keys.fn.ok zcl (fun vs H Q E h=>?_) (fun cdv A outer s H vs Q E hr h=>?_)
 ·obtain⟨l,ys,ps,rfl,_⟩:=h;rfl
 obtain⟨l,ys,ps,rfl,hl,hn,hp,k⟩:=h;have hs:∀p,p∈ps->0<p.w/\p.x.natAbs<2^720/\p.y.natAbs<2^720/\p.w.natAbs<2^720:=fun p hp'=>by
  obtain⟨j,hj⟩:=pZ.mp hp';have hj':j<ys.length:=by rw[hp.1];exact(kG.mp hj).1
  obtain⟨b,r,_,e2,hr⟩:=hp.at hj';rw[hj] at e2
  cases e2;exact⟨hr.2.pos,zag hr.2.lx (by decide),zag hr.2.ly (by decide),zag hr.2.lw (by decide)⟩
 have znr:=@pss5;have zmq:=@zbl;have zoi:=@pe_callBK;have qpa1:=@pa1;have zne:=@zgi;unfold L2.CompBody at zne;have zn1:=@zdl;have qpv:=@pv;have zmw:=@zby;have znh:=@zfn;have zmn:=@pe_ix;have zmm:=@zaz;have zoj:=@pk_cons;have zok:=@pk_nil;have zmo:=@pe_op;have zo6:=@zk1;have zn0:=@ze4;have zmr:=@zae;have zmu:=@ps_if;have zo7:=@zm6;have zo8:=@zid;have zo2:=@zl6;have zmx:=@zcu;have qpa2:=@pa2;have zmv:=@zb5;have zmp:=@zao;generalize @L2.PE=QE,@L2.PT=QT,@L2.PW=QW,@L2.PA=QA,@L2.PS=QS,@L2.PSs=QSs,@L2.PG=QG,@L2.PGs=QGs,@L2.PI=QI,@L2.PO=QO,@L2.PIf=QIf,@L2.PC=QC,@L2.PK=QK at znr zmq zoi qpa1 zne zn1 qpv zmw znh zmn zmm zoj zok zmo zo6 zn0 zmr zmu zo7 zo8 zo2 zmx qpa2 zmv zmp⊢;refine⟨_,
  (znr
   (zmq (i:=1) zcl.nd rfl (kc rfl) (zoi (call_maxD rfl) rfl T.b_max zm4 (qpa1 (zne (dsc:=defScope zb7) (N:=["points","greatest","scale","keys","P"]) (own:=["P"]) (ix:=[]) rfl rfl rfl ⟨rfl,by decide+kernel,by decide+kernel,by decide+kernel,by decide+kernel⟩ (zn1 (qpv 0)) (fun cl C fp s2 H2 xe=>⟨(zmw (i:=0) (show uW (["P"]:List Str) from by decide+kernel) rfl (kc rfl)),znh,(zmn za0 (qpv 0) zmm (fun _ _=>rfl))⟩)) zf2) (zoj zmm zok)))
   (zmq (i:=2) zcl.nd rfl (kc rfl) (zmo za9 (qpv 1) (qpv 1)))
   (zmq (i:=3) zcl.nd rfl (kc rfl) zo6)
   (zn0 pM rfl (zn1 (qpv 0)) (zmw (i:=4) zcl.nd rfl (kc rfl)) (zmr (zmu (zo7 (zo8 (hu_of hr) (qpv 4) (qpv 3))) (zmr (zo2 (hu_of hr) (qpv 3) (qpv 4) (zmx (qpa2 (zmo zcs (zmo za9 (zmn za0 (qpv 4) zmm (fun _ _=>rfl)) (qpv 2)) (zmn za0 (qpv 4) zmm (fun _ _=>rfl))) za5 (zmo zcs (zmo za9 (zmn za0 (qpv 4) zmm (fun _ _=>rfl)) (qpv 2)) (zmn za0 (qpv 4) zmm (fun _ _=>rfl))) za5)) rfl)) zmv)))
   (zmp (qpv 3)))
  ,?_⟩
 clear znr zmq zoi qpa1 zne zn1 qpv zmw znh zmn zmm zoj zok zmo zo6 zn0 zmr zmu zo7 zo8 zo2 zmx qpa2 zmv zmp QE QT QW QA QS QSs QG QGs QI QO QIf QC QK
 dsimp! [L2.start]
 simp! [tCBK];refine zax ?_;simp! [iList];refine⟨⟨_,.of hl⟩,fun D hD=>?_⟩;refine zau (xs:=ys) (fun i zs H'=>Same H H'/\H' D=some (.lst zs)/\zs=((ps.take i).map fun p=>V.int p.w)) ⟨za2 hD _,upd_same,by rw[uO];rfl⟩ (fun i zs H' p=>.of (p.1 _ _ hl)) ?_ ?_
 ·rintro i zs H1 v hi hv ⟨g1,hD1,ez⟩;obtain⟨p,r,rfl,hr',hq⟩:=hp.2 i v hv;have hq1:H1 p=some (.tup [.int r.x,.int r.y,.int r.w]):=g1 _ _ hq.1;simp! [hq1];refine cw_put hi hD1 ?_ ⟨zar g1 hD,upd_same,?_⟩
  ·rw[ez,kN,kP];exact small10k (by have:=BT i ps.length;omega)
  ·rw[uA,hr',ez,pg];rfl
 ·rintro zs H1 ⟨g1,hD1,ez⟩;rw[kx (by rw[hp.1];exact kI _)] at ez
  refine⟨D,ps.map fun p=>p.w,1,rfl,rfl,by rw[hD1,ez,UN];rfl,fun g gm gi=>?_⟩
  have g0:0<g:=by
   rcases gi with gi|gi
   ·obtain⟨p,hp',e⟩:=uD.mp gi;have:=(hs p hp').1;omega
   ·omega
  have gs:g.natAbs<2^720:=by
   rcases gi with gi|gi
   ·obtain⟨p,hp',e⟩:=uD.mp gi;rw[←e];exact(hs p hp').2.2.2
   ·rw[gi.2];decide
  refine⟨g,rfl,g,rfl,cbig gs gs,fun d hd=>?_⟩;have gg:(g*g).natAbs<2^1440:=by
   rw[Qy];exact ko (BG gs gs) (by rw[←CV];exact UL (by decide) (by decide))
  refine zbz ?_;simp! [iList];have g2:=za2 hd (HO.dT []);refine⟨⟨_,.of (g2 _ _ (g1 _ _ hl))⟩,?_⟩;refine zdp (K:=K) (a:=l) (xs:=ys) (fun i σ H'=>Same H1 H'/\∃(kvs:List (List Key×V))(o:Option V),σ=[some (.ref l),some (.int g),some (.int (g*g)),some (.ref d),o]/\H' d=some (.dT kvs)/\kvs.length<=i/\KyOk H' kvs g (ps.take i)/\(∀p,(valV kvs (kQ p)).isSome=true->p∈ps.take i)/\∃qs:List Q3,kvs.map uq=qs.map kQ/\qs.Nodup/\(∀p,p∈qs↔p∈ps.take i)/\qs.length<=i)
   ⟨g2,[],none,rfl,upd_same,kI _,fun p hp'=>(by rw[uO] at hp';cases hp'),fun p z=>(by cases z),[],rfl,.nil,fun p=>(by rw[uO]),kI _⟩ (fun i σ H' _ iv=>.of (iv.1 _ _ (g1 _ _ hl))) ?_ ?_
  ·intro _ _;rintro i v σ H2 hi ⟨g3,kvs,o,rfl,hd2,hk,ky,kb,qs,q1,q2,q3,q4⟩;obtain⟨p,r,rfl,hr',hq⟩:=hp.2 i v hi;have hq2:H2 p=some (.tup [.int r.x,.int r.y,.int r.w]):=g3 _ _ (g1 _ _ hq.1);simp! [tDNotIn,sDPut,hq2];obtain⟨r0,rx,ry,rw'⟩:=hs r (kg hr');have wn:r.w≠0:=by omega
   rw[uA,hr'];refine⟨_,.t (k:=kQ r) hd2 hq2,ite2 (fun c=>⟨cbig rx gg,cdivb wn rw',cbig ry gg,cdivb wn rw',fun t ht=>?_⟩) fun c=>?_⟩
   ·rw[Uj _ (by omega),Uj _ (by omega)]
    have nv:valV kvs (kQ r)=none:=by
     cases e:valV kvs (kQ r) with
     |none=>rfl
     |some u=>rw[e] at c;cases c
    have g4:=za2 ht (HO.tup [V.int (r.x*(g*g)/r.w),V.int (r.y*(g*g)/r.w)]);have ht4:upd H2 t (HO.tup [V.int (r.x*(g*g)/r.w),V.int (r.y*(g*g)/r.w)]) t=some (HO.tup [V.int (r.x*(g*g)/r.w),V.int (r.y*(g*g)/r.w)]):=upd_same;generalize upd H2 t (HO.tup [V.int (r.x*(g*g)/r.w),V.int (r.y*(g*g)/r.w)])=H4 at*;have hd4:=g4 _ _ hd2;refine⟨_,.t (k:=kQ r) hd4 (g4 _ _ hq2) (small10k (by have:=(kG.mp hi).1;omega)),zar (g3.trans g4) hd,_,upd_same,kz (zcq _ _ _) (by omega),fun p' hp'=>?_,fun p' z=>?_,qs++[r],?_,?_,fun p'=>?_,by rw[kK];exact Ur q4⟩
    ·rw[zel]
     by_cases e:kQ p'=kQ r
     ·rw[if_pos e];have e':=zh8 e;subst e';exact⟨t,rfl,zkn hd4 _ _ ht4⟩
     ·rw[if_neg e];rcases kf.mp hp' with hp'|hp'
      ·obtain⟨b,e1,e2⟩:=ky p' hp';exact⟨b,e1,zkn hd4 _ _ (g4 _ _ e2)⟩
      ·have e':p'=r:=by simpa using hp'
       exact absurd (by rw[e']) e
    ·rw[zel] at z
     by_cases e:kQ p'=kQ r
     ·rw[zh8 e];exact kJ _ (by simp)
     ·rw[if_neg e] at z;exact pi _ (kb p' z)
    ·rw[zg1 _ nv,pg,pg,q1];rfl
    ·exact List.nodup_append.mpr ⟨q2,Qo _ _,fun a ha b hb e=>by
      rw[kr.mp hb] at e;subst e;obtain⟨b',e1,_⟩:=ky a ((q3 a).mp ha);rw[nv] at e1
      cases e1⟩
    ·rw[kf,kf,q3]
     simp
   ·have z:(valV kvs (kQ r)).isSome=true:=by
     cases e:(valV kvs (kQ r)).isSome with
     |true=>rfl
     |false=>exact absurd (by rw[e];rfl) c
    refine⟨g3,kvs,hd2,by omega,fun p' hp'=>?_,fun p' z'=>pi _ (kb p' z'),qs,q1,q2,fun p'=>?_,by omega⟩
    rcases kf.mp hp' with hp'|hp'
    ·exact ky p' hp'
    ·have e':p'=r:=by simpa using hp'
     rw[e'];exact ky r (kb r z)
    ·rw[kf,q3];refine⟨.inl,fun h=>h.elim id fun h=>?_⟩;have e':p'=r:=by simpa using h
     rw[e'];exact kb r z
  ·rintro σ H2 ⟨g3,kvs,o,rfl,hd2,hk,ky,kb,qs,q1,q2,q3,q4⟩;rw[kx (by rw[hp.1];exact kI _)] at ky q3
   simp! [];exact k d kvs g qs H2 (g1.trans g3) hd2 g0 (fun p hp'=>gm _ (uD.mpr ⟨p,hp',rfl⟩)) ky q1 q2 q3 (by rw[←hp.1];exact q4)
def S2H(H:Hp)(p:Addr)(e:Q3×Q3):Prop:=∃c d,H p=some (.tup [.ref c,.ref d])/\QH H c e.1/\QH H d e.2
theorem s2_ts:∀(H H':Hp)(p:Addr)(e:Q3×Q3),TupSame H H'->S2H H p e->S2H H' p e:=fun _ _ _ _ g⟨c,d,h1,h2,h3⟩=>⟨c,d,g _ _ h1,qh_ts _ _ _ _ g h2,qh_ts _ _ _ _ g h3⟩
def sp_endsof:Sp:=fun vs H Q _=>∃(l:Addr)(ys:List V)(ss:List (Q3×Q3)),vs=[.ref l]/\H l=some (.lst ys)/\ys.length<=63/\LR S2H H ys ss/\∀D zs H',H D=none->Same H H'->H' D=some (.lst zs)->zs.length=2*ys.length->LR QH H' zs (ss.flatMap fun s=>[s.1,s.2])->Q (.ref D) H'
theorem ok_ends_of(T:Txt K mg ad fd):FnOk P w K mg base CX0 1 (ad 10) (fd 10) ["stretches"] sp_endsof:=by
 refine T.ends_of.fn.ok zfs (fun vs H Q E h=>?_) (fun cdv A outer s H vs Q E hr h=>?_)
 ·obtain⟨l,ys,ss,rfl,_⟩:=h;rfl
 obtain⟨l,ys,ss,rfl,hl,hn,hs,k⟩:=h;have zn7:=@pss3;have zmq:=@zbl;have zn2:=@ze6;have zn6:=@zde;have zn0:=@ze4;have zn1:=@zdl;have qpv:=@pv;have zmw:=@zby;have zmr:=@zae;have zn5:=@zdz;have zn8:=@pe_bm;have qpa1:=@pa1;have zmp:=@zao;generalize @L2.PE=QE,@L2.PT=QT,@L2.PW=QW,@L2.PA=QA,@L2.PS=QS,@L2.PSs=QSs,@L2.PG=QG,@L2.PGs=QGs,@L2.PI=QI,@L2.PO=QO,@L2.PIf=QIf at zn7 zmq zn2 zn6 zn0 zn1 qpv zmw zmr zn5 zn8 qpa1 zmp⊢;refine⟨_,
  (zn7
   (zmq (i:=1) zfs.nd rfl (kc rfl) (zn2 zn6))
   (zn0 pM rfl (zn1 (qpv 0)) (zmw (i:=2) zfs.nd rfl (kc rfl)) (zmr (zn5 (zn8 pV vA jr mt_extT (qpv 1) (qpa1 (qpv 2) za1)))))
   (zmp (qpv 1)))
  ,?_⟩
 clear zn7 zmq zn2 zn6 zn0 zn1 qpv zmw zmr zn5 zn8 qpa1 zmp QE QT QW QA QS QSs QG QGs QI QO QIf
 dsimp! [L2.start]
 simp! [];intro D hD;have gD:=za2 hD (HO.lst []);refine zbz ?_;simp! [iList];refine⟨⟨_,.of (gD _ _ hl)⟩,?_⟩;refine zdp (K:=K) (a:=l) (xs:=ys) (fun i σ H'=>Same H H'/\∃(zs:List V)(o:Option V),σ=[some (.ref l),some (.ref D),o]/\H' D=some (.lst zs)/\zs.length=2*i/\LR QH H' zs ((ss.take i).flatMap fun s=>[s.1,s.2])) ⟨gD,[],none,rfl,upd_same,rfl,by rw[uO];exact .nil⟩ (fun i σ H' _ iv=>.of (iv.1 _ _ hl)) ?_ ?_
 ·intro _ _;rintro i v σ H2 hi ⟨g2,zs,o,rfl,hD2,hz,hq⟩;obtain⟨p,e,rfl,he',c,d,h1,h2,h3⟩:=hs.2 i v hi;have hi':=(kG.mp hi).1;have h1':=g2 _ _ h1;simp! [h1'];refine⟨ze3 hD2,D,p,zs,[.ref c,.ref d],rfl,rfl,hD2,h1',uI (small1000 (n:=zs.length+2) (by omega)),zar g2 hD,_,upd_same,by rw[kK,hz];show 2*i+2=_;omega,?_⟩
  rw[uA,he',List.flatMap_append];exact(hq.app ((LR.one (R:=QH) (h2.same g2)).app (.one (h3.same g2)))).ts qh_ts (zf8 hD2)
 ·rintro σ H2 ⟨g2,zs,o,rfl,hD2,hz,hq⟩;simp! [];rw[kx (Qq hs.1.symm)] at hq;exact k D zs H2 hD g2 hD2 hz hq
def lamFor(st:Stmt):Pos:=match(defBody st).getD 6 (.Pass ⟨0,0,0,0⟩) with
 |.For _ (.Call _ _ (⟨_,.Lambda _ _ _ lp,_⟩::_) _) _ _ _=>lp
 |_=>⟨0,0,0,0⟩
def lposN:Pos:=lamFor zab
def qlN:Str:=(AI "near_pairs" (defScope zab) 0 0 .none).qual++"<lambda>"
def P2H(H:Hp)(p:Addr)(a:Int×Int):Prop:=H p=some (.tup [.int a.1,.int a.2])
theorem p2_ts:∀(H H':Hp)(p:Addr)(a:Int×Int),TupSame H H'->P2H H p a->P2H H' p a:=fun _ _ _ _ g h=>g _ _ h
theorem zkt(a b:Int×Int):ltK a b=lt2 a b:=by
 unfold ltK lt2 lexB
 by_cases h:a.1=b.1
 ·rw[if_pos h,if_pos h]
  by_cases h2:a.2=b.2
  ·rw[if_pos h2];exact(decide_eq_false (by omega)).symm
  ·rw[if_neg h2]
 ·rw[if_neg h,if_neg h]
def PrH(H:Hp)(p:Addr)(e:Nat×Nat):Prop:=H p=some (.tup [.int (e.1:Int),.int (e.2:Int)])
theorem pr_ts:∀(H H':Hp)(p:Addr)(a:Nat×Nat),TupSame H H'->PrH H p a->PrH H' p a:=fun _ _ _ _ g h=>g _ _ h
theorem SameT.same{P:Addr}{H H' H'':Hp}(g:SameT P H H')(g':Same H' H''):SameT P H H'':=fun b u nb e=>g' _ _ (g b u nb e)
theorem zmj{n i:Nat}(h:i<n):(rngV n).getD i .non=V.int (i:Int):=by
 unfold rngV;rw[kB,ke,jA h];rfl
theorem lam_lst{H H':Hp}{tb Pa:Addr}{lp:Pos}{ql:Str}{xs:List V}(h:LamTab H tb lp ql)(g:SameT Pa H H')(hp:H Pa=some (.lst xs)):LamTab H' tb lp ql:=by
 obtain⟨ps,h1,h2,h3⟩:=h;refine⟨ps,g _ _ (fun z=>by rw[z,hp] at h1;cases h1) h1,h2,h3.imp id fun⟨c,e,hc⟩=>⟨c,e,g _ _ (fun z=>by rw[z,hp] at hc;cases hc) hc⟩⟩
def sp_near(tb:Addr)(lp:Pos)(ql:Str):Sp:=fun vs H Q _=>∃(l:Addr)(ys:List V)(ss:List (Q3×Q3)),vs=[.ref l]/\H l=some (.lst ys)/\ys.length<=63/\LR S2H H ys ss/\LamTab H tb lp ql/\∀D pv(ps:List (Nat×Nat))(g:Int) H',H D=none->SameT tb H H'->LamTab H' tb lp ql->H' D=some (.lst pv)->pv.length<=63*63->LR PrH H' pv ps->0<g->(∀p,p∈ss.flatMap (fun s=>[s.1,s.2])->p.w<=g)->(∀e,e∈ps->e.1<ys.length/\e.2<ys.length)->(∀a b,a<ys.length->b<ys.length->a≠b->Nigh g (ss.getD a zQ) (ss.getD b zQ)->(a,b)∈ps∨(b,a)∈ps)->Q (.ref D) H'
theorem ok_near_pairs(T:Txt K mg ad fd)(hK:K.In base)(hB:∀b,b∈([ad 41,ad 43]:List Addr)->base.BuiltinsAt mg b):FnOk P w K mg base CX0 3 (ad 18) (fd 18) ["stretches"] (sp_near (ad 43) lposN qlN):=by
 refine T.near_pairs_c.ok zah (fun vs H Q E h=>?_) (fun A outer s H vs Q E hr h=>?_)
 ·obtain⟨l,ys,ss,rfl,_⟩:=h;rfl
 obtain⟨l,ys,ss,rfl,hl,hn,hs,lt,k⟩:=h;have zo9:=@pss8;have zmq:=@zbl;have zms:=@zb3;have qpa1:=@pa1;have qpv:=@pv;have zne:=@zgi;unfold L2.CompBody at zne;have zn1:=@zdl;have zmw:=@zby;have znh:=@zfn;have zmy:=@zc5;have qpa2:=@pa2;have zmn:=@pe_ix;have znm:=@zhs;have zmm:=@zaz;have zn2:=@ze6;have zn6:=@zde;have zn0:=@ze4;have zol:=@pe_sortR;have zoa:=@pss7;have zn9:=@zfo;unfold L2.CompBody at zn9;have znj:=@zhm;have zmt:=@zav;have zn5:=@zdz;have zn8:=@pe_bm;have zmx:=@zcu;have zmp:=@zao;generalize @L2.PE=QE,@L2.PT=QT,@L2.PW=QW,@L2.PA=QA,@L2.PS=QS,@L2.PSs=QSs,@L2.PG=QG,@L2.PGs=QGs,@L2.PI=QI,@L2.PO=QO,@L2.PIf=QIf at zo9 zmq zms qpa1 qpv zne zn1 zmw znh zmy qpa2 zmn znm zmm zn2 zn6 zn0 zol zoa zn9 znj zmt zn5 zn8 zmx zmp⊢;refine⟨_,
  (zo9
   (zmq (i:=1) zah.nd rfl (Ul rfl) (zms (zf9 T) (hr.mono (by omega)) rfl T.order_keys.mg T.order_keys.fn.kp T.order_keys.bn .nil pass0 (qpa1 (zms (ok_ends_of T) (hr.mono (by omega)) rfl T.ends_of.mg T.ends_of.fn.kp T.ends_of.bn .nil pass0 (qpa1 (qpv 0) za1)) zak)))
   (zmq (i:=2) zah.nd rfl (Ul rfl) (zne (dsc:=defScope zab) (N:=["stretches","keys","lows","highs","lasts","pairs","standing","number","first","low","high","near"]) (own:=["S"]) (ix:=[1]) rfl rfl rfl ⟨rfl,by decide+kernel,by decide+kernel,by decide+kernel,by decide+kernel⟩ (zn1 (qpv 0)) (fun cl C fp s2 H2 xe=>⟨(zmw (i:=0) (show uW (["S","keys"]:List Str) from by decide+kernel) rfl (kc rfl)),znh,(zmy (zim rfl) rfl T.b_min zmd (qpa2 (zmn za0 (znm (hu_of hr) (qpv 1) (zmn za0 (qpv 0) zmm (fun _ _=>rfl)) (fun _ _=>rfl)) zmm (fun _ _=>rfl)) za3 (zmn za0 (znm (hu_of hr) (qpv 1) (zmn za0 (qpv 0) zmm (fun _ _=>rfl)) (fun _ _=>rfl)) zmm (fun _ _=>rfl)) za3))⟩)))
   (zmq (i:=3) zah.nd rfl (Ul rfl) (zne (dsc:=defScope zab) (N:=["stretches","keys","lows","highs","lasts","pairs","standing","number","first","low","high","near"]) (own:=["S"]) (ix:=[1]) rfl rfl rfl ⟨rfl,by decide+kernel,by decide+kernel,by decide+kernel,by decide+kernel⟩ (zn1 (qpv 0)) (fun cl C fp s2 H2 xe=>⟨(zmw (i:=0) (show uW (["S","keys"]:List Str) from by decide+kernel) rfl (kc rfl)),znh,(zmy (call_max2 rfl) rfl T.b_max zm4 (qpa2 (zmn za0 (znm (hu_of hr) (qpv 1) (zmn za0 (qpv 0) zmm (fun _ _=>rfl)) (fun _ _=>rfl)) zmm (fun _ _=>rfl)) za3 (zmn za0 (znm (hu_of hr) (qpv 1) (zmn za0 (qpv 0) zmm (fun _ _=>rfl)) (fun _ _=>rfl)) zmm (fun _ _=>rfl)) za3))⟩)))
   (zmq (i:=4) zah.nd rfl (Ul rfl) (zne (dsc:=defScope zab) (N:=["stretches","keys","lows","highs","lasts","pairs","standing","number","first","low","high","near"]) (own:=["S"]) (ix:=[1]) rfl rfl rfl ⟨rfl,by decide+kernel,by decide+kernel,by decide+kernel,by decide+kernel⟩ (zn1 (qpv 0)) (fun cl C fp s2 H2 xe=>⟨(zmw (i:=0) (show uW (["S","keys"]:List Str) from by decide+kernel) rfl (kc rfl)),znh,(znm (hu_of hr) (qpv 1) (zmn za0 (qpv 0) zmm (fun _ _=>rfl)) (fun _ _=>rfl))⟩)))
   (zmq (i:=5) zah.nd rfl (kc rfl) (zn2 zn6))
   (zmq (i:=6) zah.nd rfl (kc rfl) (zn2 zn6))
   (zn0 pM rfl (zn1 (zol (P:=ad 43) (c0:=ad 42) (x:="k") (clos:=[("stretches",s.heap.objs.size+1),("keys",s.heap.objs.size+9)]) (js:=[0,1]) (zfd (hu80 hr)) hr rfl T.b_sorted rfl T.b_range (qpa1 (zmy zbw rfl T.b_len zdd (qpa1 (qpv 0) za1)) zak) ⟨rfl,rfl,rfl,rfl,(show ∀y,y∈(["stretches","keys"]:List Str)->_=some uK from by decide+kernel),by decide+kernel,(show ∀z,z∈(Scope.names _)->z.2=uK->z.1∈(["stretches","keys"]:List Str) from by decide+kernel)⟩ (show uW (["stretches","keys"]:List Str) from by decide+kernel) (.cons rfl rfl rfl (.cons rfl rfl rfl .nil)) rfl rfl rfl (AJ hK T.near_pairs_c.hd) (hB _ (by simp)) (fun _ _ _ _=>rfl) (by intro fa2 c2 A2 s3 H3 hu2;exact(znm (by show A2.units+3+1<cLine;omega) (qpv 2) (zmn za0 (zmn zaa (qpv 1) (qpv 0) (fun _ _=>rfl)) zmm (fun _ _=>rfl)) (fun _ _=>rfl))))) (zmw (i:=7) zah.nd rfl (Ul rfl)) (zoa
   (zmq (i:=8) zah.nd rfl (Ul rfl) (znm (hu_of hr) (qpv 1) (zmn za0 (zmn zaa (qpv 0) (qpv 7) (fun _ _=>rfl)) zmm (fun _ _=>rfl)) (fun _ _=>rfl)))
   (zmq (i:=9) zah.nd rfl (Ul rfl) (zmn zaa (qpv 2) (qpv 7) (fun _ _=>rfl)))
   (zmq (i:=10) zah.nd rfl (Ul rfl) (zmn zaa (qpv 3) (qpv 7) (fun _ _=>rfl)))
   (zn9 (i:=6) zah.nd rfl (kc rfl) (dsc:=defScope zab) (N:=["stretches","keys","lows","highs","lasts","pairs","standing","number","first","low","high","near"]) (own:=["other"]) (ix:=[4,8]) rfl rfl rfl ⟨rfl,by decide+kernel,by decide+kernel,by decide+kernel,by decide+kernel⟩ (zn1 (qpv 6)) (fun cl C fp s2 H2 xe=>⟨(zmw (i:=0) (show uW (["other","lasts","first"]:List Str) from by decide+kernel) rfl (kc rfl)),(znj (zmt (op_ge2 (hu64 hr)) (zmn zaa (qpv 1) (qpv 0) (fun _ _=>rfl)) (qpv 2) (nomark _))),(qpv 0)⟩))
   (zn9 (i:=11) zah.nd rfl (kc rfl) (dsc:=defScope zab) (N:=["stretches","keys","lows","highs","lasts","pairs","standing","number","first","low","high","near"]) (own:=["other"]) (ix:=[2,10]) rfl rfl rfl ⟨rfl,by decide+kernel,by decide+kernel,by decide+kernel,by decide+kernel⟩ (zn1 (qpv 6)) (fun cl C fp s2 H2 xe=>⟨(zmw (i:=0) (show uW (["other","lows","high"]:List Str) from by decide+kernel) rfl (kc rfl)),(znj (zmt op_le (zmn zaa (qpv 1) (qpv 0) (fun _ _=>rfl)) (qpv 2) (nomark _))),(qpv 0)⟩))
   (zn5 (zn8 pV vA jr mt_extend (qpv 5) (qpa1 (zne (dsc:=defScope zab) (N:=["stretches","keys","lows","highs","lasts","pairs","standing","number","first","low","high","near"]) (own:=["other"]) (ix:=[3,7,9]) rfl rfl rfl ⟨rfl,by decide+kernel,by decide+kernel,by decide+kernel,by decide+kernel⟩ (zn1 (qpv 11)) (fun cl C fp s2 H2 xe=>⟨(zmw (i:=0) (show uW (["other","highs","number","low"]:List Str) from by decide+kernel) rfl (kc rfl)),(znj (zmt op_ge (zmn zaa (qpv 1) (qpv 0) (fun _ _=>rfl)) (qpv 3) (nomark _))),(zmx (qpa2 (qpv 2) za1 (qpv 0) za1))⟩)) zf2)))
   (zn5 (zn8 pV uQ uR zcg (qpv 6) (qpa1 (qpv 7) za1)))))
   (zmp (qpv 5)))
  ,?_⟩
 clear zo9 zmq zms qpa1 qpv zne zn1 zmw znh zmy qpa2 zmn znm zmm zn2 zn6 zn0 zol zoa zn9 znj zmt zn5 zn8 zmx zmp QE QT QW QA QS QSs QG QGs QI QO QIf
 dsimp! [L2.start]
 simp! [];refine⟨l,ys,ss,rfl,hl,hn,hs,fun D zs H1 hD g1 hD1 n1 hq=>?_⟩;refine⟨D,zs,_,rfl,hD1,by omega,hq,fun d kvs g qs H2 g2 hd2 gp gm ky q1 q2 q3 q4=>?_⟩
 have g02:=g1.trans g2;have hl2:=g02 _ _ hl;have hs2:=hs.ts s2_ts (zan g02);have kk:∀(i:Nat)(e:Q3×Q3),ss[i]?=some e->(∃b,valV kvs (kQ e.1)=some (.ref b)/\H2 b=some (.tup [.int (kyQ g e.1).1,.int (kyQ g e.1).2]))/\∃b,valV kvs (kQ e.2)=some (.ref b)/\H2 b=some (.tup [.int (kyQ g e.2).1,.int (kyQ g e.2).2]):=fun i e he=>
  ⟨ky e.1 (Us.mpr ⟨e,kg he,by simp⟩),ky e.2 (Us.mpr ⟨e,kg he,by simp⟩)⟩
 refine zax ?_;simp! [iList];refine⟨⟨_,.of hl2⟩,fun La hL1=>?_⟩;refine zau (xs:=ys) (fun i us H'=>Same H2 H'/\H' La=some (.lst us)/\us=((ss.take i).map (lowF g)).map V.int) ⟨za2 hL1 _,upd_same,by rw[uO];rfl⟩ (fun i us H' q=>.of (q.1 _ _ hl2)) ?_ ?_
 ·rintro i us H3 v hi hv ⟨g3,hL3,eu⟩;obtain⟨p,e,rfl,he',c,c2,h1,h2,h3⟩:=hs2.2 i v hv;obtain⟨⟨b,b1,b2⟩,b',b3,b4⟩:=kk i e he';have h1':=g3 _ _ h1;simp! [tDGet,h1'];refine⟨_,by rw[←b1];exact .t (k:=kQ e.1) (g3 _ _ hd2) (g3 _ _ h2.1),b,rfl,_,g3 _ _ b2,_,at1,_,by rw[←b3];exact .t (k:=kQ e.2) (g3 _ _ hd2) (g3 _ _ h3.1),b',rfl,_,g3 _ _ b4,_,at1,_,rfl,_,rfl,?_⟩
  refine cw_put hi hL3 (small1000 (by rw[eu,kN,kN,kP];omega)) ⟨zar g3 hL1,upd_same,?_⟩
  rw[uA,he',pg,pg,eu];rfl
 rintro us1 H3 ⟨g3,hL3,eu1⟩;have hl3:=g3 _ _ hl2;refine zax ?_;simp! [iList];refine⟨⟨_,.of hl3⟩,fun Lb hL2=>?_⟩;refine zau (xs:=ys) (fun i us H'=>Same H3 H'/\H' Lb=some (.lst us)/\us=((ss.take i).map (highF g)).map V.int) ⟨za2 hL2 _,upd_same,by rw[uO];rfl⟩ (fun i us H' q=>.of (q.1 _ _ hl3)) ?_ ?_
 ·rintro i us H4 v hi hv ⟨g4,hL4,eu⟩;obtain⟨p,e,rfl,he',c,c2,h1,h2,h3⟩:=hs2.2 i v hv;obtain⟨⟨b,b1,b2⟩,b',b3,b4⟩:=kk i e he';have g24:=g3.trans g4;have h1':=g24 _ _ h1;simp! [tDGet,h1'];refine⟨_,by rw[←b1];exact .t (k:=kQ e.1) (g24 _ _ hd2) (g24 _ _ h2.1),b,rfl,_,g24 _ _ b2,_,at1,_,by rw[←b3];exact .t (k:=kQ e.2) (g24 _ _ hd2) (g24 _ _ h3.1),b',rfl,_,g24 _ _ b4,_,at1,_,rfl,_,rfl,?_⟩
  refine cw_put hi hL4 (small1000 (by rw[eu,kN,kN,kP];omega)) ⟨zar g4 hL2,upd_same,?_⟩
  rw[uA,he',pg,pg,eu];rfl
 rintro us2 H4 ⟨g4,hL4,eu2⟩;have g24:=g3.trans g4;have hl4:=g24 _ _ hl2;refine zax ?_;simp! [iList];refine⟨⟨_,.of hl4⟩,fun Lc hLc=>?_⟩;refine zau (xs:=ys) (iv_lr (fun H p s=>P2H H p (kyQ g s.2)) ss H4 Lc) (iv_lr_nil hLc) (fun i us H' q=>.of (q.1 _ _ hl4)) ?_ ?_
 ·rintro i us H5 v hi hv iv;obtain⟨g5,hL5,lu,hu⟩:=id iv;obtain⟨p,e,rfl,he',c,c2,h1,h2,h3⟩:=hs2.2 i v hv;obtain⟨_,b',b3,b4⟩:=kk i e he';have g25:=g24.trans g5;have h1':=g25 _ _ h1;simp! [tDGet,h1'];refine⟨_,by rw[←b3];exact .t (k:=kQ e.2) (g25 _ _ hd2) (g25 _ _ h3.1),?_⟩
  exact iv_lr_put (R:=fun H p s=>P2H H p (kyQ g s.2)) (a:=e) (fun _ _ _ _=>p2_ts _ _ _ _) hLc (by omega) iv hi he' (.refl _) (g25 _ _ b4)
 rintro us3 H5 ⟨g5,hL5,lu3,hu3⟩;rw[kx (Qq hs.1.symm)] at eu1 eu2 hu3;have g25:=g24.trans g5;intro Pa hPa;have nLa:La≠Pa:=za8 ((g4.trans g5) _ _ hL3) hPa;have nLb:Lb≠Pa:=za8 (g5 _ _ hL4) hPa;have nLc:Lc≠Pa:=za8 hL5 hPa;have nl_:l≠Pa:=za8 (g25 _ _ hl2) hPa;have nd_:d≠Pa:=za8 (g25 _ _ hd2) hPa;have s6:=za2 hPa (HO.lst []);have hPa6:upd H5 Pa (HO.lst []) Pa=some (.lst []):=upd_same;generalize upd H5 Pa (HO.lst [])=H6 at*;intro Sa hSa;have s7:=za2 hSa (HO.lst []);have hSa7:upd H6 Sa (HO.lst []) Sa=some (.lst []):=upd_same;have nPS:Pa≠Sa:=za8 hPa6 hSa;generalize upd H6 Sa (HO.lst [])=H7 at*;have g27:=(g25.trans s6).trans s7;have g07:=g02.trans g27;have hl7:=g27 _ _ hl2;have hd7:=g27 _ _ hd2;have lt7:=lt.same g07;refine zbz ?_;simp! [iList,tSortR,hl7];refine⟨ys.length,rfl,by omega,[V.ref l,V.ref d],rfl,lt7,fun c' H8 st8 lt8 hc8=>⟨fun i zs H'=>H'=H8/\zs.length=i/\LR (fun H p s=>P2H H p (kyQ g s.1)) H8 zs (ss.take i),⟨⟨rfl,rfl,by rw[uO];exact .nil⟩,fun i zs H' q=>q.1▸hc8,fun i zs H' q=>q.2.1,?_,?_⟩⟩⟩
 ·rintro i zs' H' v hv ⟨rfl,lz,hz⟩;have hi:i<ys.length:=by
   have:=(kG.mp hv).1;unfold rngV at this;rw[kN,pd] at this;exact this
  have ev:v=V.int (i:Int):=by
   have:=zmj hi;rw[kB,hv] at this;exact this
  subst ev;obtain⟨p,e,e1,he',c,c2,h1,h2,h3⟩:=hs2.at hi;obtain⟨⟨b,b1,b2⟩,_⟩:=kk i e he';have hp8:=st8.tup lt7 (g27 _ _ h1);have hl8:=st8.lst lt7 hl7;have hd8:=st8 d _ (lt7.ne hd7 fun _ z=>nomatch z) hd7;have ai:atI ys (i:Int)=some (.ref p):=zaq e1;simp! [tDGet,hl8,ai,hp8];refine⟨_,by rw[←b1];exact .t (k:=kQ e.1) hd8 (st8.tup lt7 (g27 _ _ h2.1)),?_⟩
  refine⟨by rw[kK,lz];rfl,?_⟩
  rw[uA,he'];exact hz.snoc (R:=fun H p(s:Q3×Q3)=>P2H H p (kyQ g s.1)) (a:=e) (st8.tup lt7 (g27 _ _ b2))
 ·rintro zs' H' ⟨rfl,lz,hz⟩;have lv:(rngV ys.length).length=ys.length:=by unfold rngV;rw[kN,pd]
  rw[lv] at lz hz;rw[lv];refine⟨_,⟨fun i=>kyQ g (ss.getD i zQ).1,fun i hi=>?_,rfl⟩,fun D3 pp hD3 or ep=>?_⟩
  ·rw[kx (Qq hs.1.symm)] at hz;obtain⟨q,e,e1,e2,e3⟩:=hz.at hi;refine⟨q,e1,?_⟩;show H' q=some (HO.tup [V.int (kyQ g (ss.getD i zQ).1).1,V.int (kyQ g (ss.getD i zQ).1).2]);rw[kB,e2];exact e3
  ·have eos:(pp.toList.map fun i=>(rngV ys.length).getD i .non)=natV pp.toList:=by
    unfold natV;exact jB fun i hi=>zmj (QF.mp (or.mem_iff.mp hi))
   have up:∀a b:Nat,a<b->b<ys.length->lt2 (kyQ g (ss.getD (pp.getD b 0) zQ).1) (kyQ g (ss.getD (pp.getD a 0) zQ).1)=false:=fun a b ab hb=>by
    have:=upW_sort (n:=ys.length) (Wk.of sto2 fun i=>kyQ g (ss.getD i zQ).1) (by omega)
    simp only[zkt] at ep;rw[←ep (by omega)] at this
    exact this a b ab hb
   rw[eos];have nPD:Pa≠D3:=za8 (st8.lst lt7 (s7 _ _ hPa6)) hD3;have s9:=za2 hD3 (HO.lst (natV pp.toList));have hD9:upd H' D3 (HO.lst (natV pp.toList)) D3=some (.lst (natV pp.toList)):=upd_same;generalize upd H' D3 (HO.lst (natV pp.toList))=H9 at*;refine⟨D3,rfl,⟨_,.of hD9⟩,?_⟩;have st9:SameT (ad 43) H7 H9:=SameT.same st8 s9;have lt9:=lt8.same s9;have hl9:=st9.lst lt7 hl7;have hd9:=st9 d _ (lt7.ne hd7 fun _ z=>nomatch z) hd7;have hLa9:=st9.lst lt7 ((((g4.trans g5).trans s6).trans s7) _ _ hL3);have hLb9:=st9.lst lt7 (((g5.trans s6).trans s7) _ _ hL4);have hLc9:=st9.lst lt7 ((s6.trans s7) _ _ hL5);have hPa9:=st9.lst lt7 (s7 _ _ hPa6);have hSa9:=st9.lst lt7 hSa7;have tup9:∀{b:Addr}{xs:List V},H2 b=some (.tup xs)->H9 b=some (.tup xs):=fun h=>st9.tup lt7 (g27 _ _ h);have hu9:LR (fun H p(s:Q3×Q3)=>P2H H p (kyQ g s.2)) H9 us3 ss:=LR.ts (R:=fun H p(s:Q3×Q3)=>P2H H p (kyQ g s.2)) (fun _ _ _ _ t h=>t _ _ h) hu3 (fun b xs q=>st9.tup lt7 ((s6.trans s7) _ _ q));have pn:∀a,a<ys.length->pp.getD a 0<ys.length:=fun a ha=>or.get (by omega) a
   refine zdp (K:=K) (a:=D3) (xs:=natV pp.toList) (fun i σ H'=>∃(Sx:Addr)(st:List Nat)(pv:List V)(ps:List (Nat×Nat))(o7 o8 o9 o10 o11:Option V),σ=[some (V.ref l),some (V.ref d),some (V.ref La),some (V.ref Lb),some (V.ref Lc),some (V.ref Pa),some (V.ref Sx),o7,o8,o9,o10,o11]/\SameT Pa H9 H'/\H' Pa=some (.lst pv)/\LR PrH H' pv ps/\pv.length<=63*i/\H' Sx=some (.lst (natV st))/\st.length<=i/\(∀k,k∈st->k<ys.length)/\Sx≠Pa/\
    (∀a,a<i->pp.getD a 0∈st∨∃m,m<i/\lt2 (kyQ g (ss.getD (pp.getD a 0) zQ).2) (kyQ g (ss.getD (pp.getD m 0) zQ).1)=true)/\
    (∀a b,a<b->b<i->Nigh g (ss.getD (pp.getD a 0) zQ) (ss.getD (pp.getD b 0) zQ)->(pp.getD b 0,pp.getD a 0)∈ps)/\∀e,e∈ps->e.1<ys.length/\e.2<ys.length)
    ⟨Sa,[],[],[],none,none,none,none,none,rfl,.refl _ _,hPa9,.nil,kI _,hSa9,kI _,fun k hk=>(by cases hk),nPS.symm,fun a ha=>(by omega),fun a b _ hb=>(by omega),fun e he=>(by cases he)⟩ (fun i σ H' _ iv=>?_) ?_ ?_
   ·obtain⟨Sx,st,pv,ps,o7,o8,o9,o10,o11,_,sT,_⟩:=iv;exact .of (sT D3 _ nPD.symm hD9)
   ·intro _ _;rintro i v σ H10 hi ⟨Sx,st,pv,ps,o7,o8,o9,o10,o11,rfl,sT,hPv,hpv,lpv,hSx,lst_,stn,nSP,hB_,hC_,hD_⟩;have hi':i<ys.length:=by
     have:=(kG.mp hi).1;unfold natV at this;rw[kN,or.length_eq,pd] at this;exact this
    have ev:v=V.int ((pp.getD i 0:Nat):Int):=by
     unfold natV at hi;rw[ke] at hi;obtain⟨m,m1,m2⟩:=Qr.mp hi;rw[←m2,kR,←pY,m1];rfl
    subst ev;have hm:=pn i hi';generalize em:pp.getD i 0=m at*;obtain⟨p,e,e1,he',c,c2,h1,h2,h3⟩:=hs2.at hm;obtain⟨⟨b,b1,b2⟩,_⟩:=kk m e he';have tup10:∀{b:Addr}{xs:List V},H2 b=some (.tup xs)->H10 b=some (.tup xs):=fun{b xs} h=>sT b _ (fun z=>by have:=tup9 h;rw[z,hPa9] at this;cases this) (tup9 h)
    have h1':=tup10 h1;have hl10:=sT _ _ nl_ hl9;have hd10:=sT _ _ nd_ hd9;have hLa10:=sT _ _ nLa hLa9;have hLb10:=sT _ _ nLb hLb9;have hLc10:=sT _ _ nLc hLc9;have am:atI ys (m:Int)=some (.ref p):=zaq e1;have aLa:atI us1 (m:Int)=some (.int (lowF g e)):=zaq (by rw[eu1,ke,ke,he'];rfl)
    have aLb:atI us2 (m:Int)=some (.int (highF g e)):=zaq (by rw[eu2,ke,ke,he'];rfl)
    simp! [tDGet,hl10,hLa10,hLb10,am,aLa,aLb,h1'];refine⟨_,by rw[←b1];exact .t (k:=kQ e.1) hd10 (tup10 h2.1),?_⟩
    refine zax ?_;simp! [iList];refine⟨⟨_,.of hSx⟩,fun Sn hSn=>?_⟩
    let fF:Nat->Bool:=fun k=> !lt2 (kyQ g (ss.getD k zQ).2) (kyQ g e.1)
    refine zau (xs:=natV st) (fun j us H'=>Same H10 H'/\H' Sn=some (.lst us)/\us=natV ((st.take j).filter fF)) ⟨za2 hSn _,upd_same,rfl⟩ (fun j us H' q=>.of (q.1 _ _ hSx)) ?_ ?_
    ·rintro j us H11 v hj hv ⟨g11,hSn11,eu⟩;obtain⟨kk',k1,rfl⟩:=zd9 hv;have hk:=stn kk' (kg k1);obtain⟨q,e',e1',e2',e3'⟩:=hu9.at (j:=kk') (by rw[hu9.1,←hs.1];exact hk)
     have hLc11:=g11 _ _ hLc10;have hq11:=g11 _ _ (sT q _ (fun z=>by have z3:=e3';rw[z] at z3;rw[show H9 Pa=some (HO.tup _) from z3] at hPa9;cases hPa9) e3')
     have aLc:atI us3 (kk':Int)=some (.ref q):=zaq e1';have hb11:=g11 _ _ (tup10 b2);simp! [hLc11,aLc];refine⟨q,b,_,_,_,_,rfl,rfl,hq11,hb11,_,rfl,?_⟩;refine zcm hj k1 (by omega) g11 hSn hSn11 eu ?_
     show(!lt2 (kyQ g (ss.getD kk' zQ).2) (kyQ g e.1))=_
     rw[kB,e2'];rfl
    rintro us4 H11 ⟨g11,hSn11,eu4⟩;rw[zb1,uh] at eu4;subst eu4;have lst2:(st.filter fF).length<=i:=kz (pb _ _) lst_;have hst2:∀k,k∈st.filter fF->k<ys.length:=fun k hk=>stn k (uE.mp hk).1;have hLa11:=g11 _ _ hLa10;have hLb11:=g11 _ _ hLb10;refine zax ?_;simp! [iList];refine⟨⟨_,.of hSn11⟩,fun Na hNa=>?_⟩
    let f2:Nat->Bool:=fun k=>decide (lowF g (ss.getD k zQ)<=highF g e)
    refine zau (xs:=natV (st.filter fF)) (fun j us H'=>Same H11 H'/\H' Na=some (.lst us)/\us=natV (((st.filter fF).take j).filter f2)) ⟨za2 hNa _,upd_same,rfl⟩ (fun j us H' q=>.of (q.1 _ _ hSn11)) ?_ ?_
    ·rintro j us H12 v hj hv ⟨g12,hNa12,eu⟩;obtain⟨kk',k1,rfl⟩:=zd9 hv;have hk:=hst2 kk' (kg k1);obtain⟨q,e',e1',e2',_⟩:=hs.at (j:=kk') hk;have aL:atI us1 (kk':Int)=some (.int (lowF g e')):=zaq (by rw[eu1,ke,ke,e2'];rfl)
     have hLa12:=g12 _ _ hLa11;simp! [hLa12,aL];refine zcm hj k1 (by omega) g12 hNa hNa12 eu ?_
     show decide (lowF g (ss.getD kk' zQ)<=highF g e)=_
     rw[kB,e2'];rfl
    rintro us5 H12 ⟨g12,hNa12,eu5⟩;rw[zb1,uh] at eu5;subst eu5;have lst3:((st.filter fF).filter f2).length<=i:=kz (pb _ _) lst2;have hst3:∀k,k∈(st.filter fF).filter f2->k<ys.length:=fun k hk=>hst2 k (uE.mp hk).1;have hLb12:=g12 _ _ hLb11;have hPv12:=(g11.trans g12) _ _ hPv;refine⟨ze3 hPv12,?_⟩;refine zax ?_;simp! [iList];refine⟨⟨_,.of hNa12⟩,fun Nb hNb=>?_⟩
    let f3:Nat->Bool:=fun k=>decide (highF g (ss.getD k zQ)≥lowF g e)
    refine zau (xs:=natV ((st.filter fF).filter f2)) (fun j us H'=>Same H12 H'/\H' Nb=some (.lst us)/\us.length<=j/\LR PrH H' us (((((st.filter fF).filter f2).take j).filter f3).map fun k=>(m,k))) ⟨za2 hNb _,upd_same,kI _,.nil⟩ (fun j us H' q=>.of (q.1 _ _ hNa12)) ?_ ?_
    ·rintro j us H13 v hj hv ⟨g13,hNb13,lu,hu⟩;obtain⟨kk',k1,rfl⟩:=zd9 hv;have hk:=hst3 kk' (kg k1);obtain⟨q,e',e1',e2',_⟩:=hs.at (j:=kk') hk;have aL:atI us2 (kk':Int)=some (.int (highF g e')):=zaq (by rw[eu2,ke,ke,e2'];rfl)
     have hLb13:=g13 _ _ hLb12;simp! [hLb13,aL];have ef:f3 kk'=decide (lowF g e<=highF g e'):=by
      show decide (highF g (ss.getD kk' zQ)≥lowF g e)=_
      rw[kB,e2'];rfl
     refine ite2 (fun c=>fun t ht=>?_) (fun c=>cw_skip hj (ys:=us) ⟨g13,hNb13,by omega,?_⟩)
     ·have g14:=za2 ht (HO.tup [V.int (m:Int),V.int (kk':Int)]);have ht14:upd H13 t (HO.tup [V.int (m:Int),V.int (kk':Int)]) t=some (HO.tup [V.int (m:Int),V.int (kk':Int)]):=upd_same;generalize upd H13 t (HO.tup [V.int (m:Int),V.int (kk':Int)])=H14 at*;have hNb14:=g14 _ _ hNb13;have hjl:j<i:=by
       rw[zb1] at hj;omega
      refine cw_put hj hNb14 (small1000 (by omega)) ⟨zar (g13.trans g14) hNb,upd_same,by rw[kK];exact Ur lu,?_⟩
      rw[zf6 k1,ef,if_pos c,pg];exact((hu.ts pr_ts (zan g14)).snoc (a:=(m,kk')) ht14).ts pr_ts (zf8 hNb14)
     ·rw[zf6 k1,ef,if_neg c,QL];exact hu
    rintro us6 H13 ⟨g13,hNb13,lu6,hu6⟩;rw[zb1] at lu6 hu6;rw[uh] at hu6;have g1013:=g11.trans (g12.trans g13);have hPa13:=g13 _ _ hPv12;have hSn13:=(g12.trans g13) _ _ hSn11;have nSnP:Sn≠Pa:=(za8 hPv hSn).symm;have eM:ss.getD m zQ=e:=by rw[kB,he'];rfl
    refine⟨Pa,Nb,pv,us6,rfl,rfl,hPa13,hNb13,uI (small10k (n:=pv.length+us6.length) (by omega)),?_⟩
    have hSn14:upd H13 Pa (HO.lst (pv++us6)) Sn=some (.lst (natV (st.filter fF))):=by rw[za6 nSnP];exact hSn13
    refine⟨ze3 hSn14,_,hSn14,small1000 (by rw[zb1];omega),fun b o nb eb=>?_,st.filter fF++[m],pv++us6,?_,ps++((((st.filter fF).filter f2).filter f3).map fun k=>(m,k)),?_,?_,?_,?_,fun k hk=>?_,nSnP,fun a ha=>?_,fun a b ab hb nab=>?_,fun x hx=>?_⟩
    ·have h10:=sT b o nb eb;rw[za6 (za8 h10 hSn),za6 nb];exact g1013 _ _ h10
    ·rw[za6 nSnP.symm];exact upd_same
    ·exact(((hpv.ts pr_ts (zan g1013)).app hu6).ts pr_ts (zf8 hPa13)).ts pr_ts (zf8 hSn14)
    ·rw[kK];omega
    ·rw[zfx];rfl
    ·rw[kK];exact Ur lst2
    ·rcases kf.mp hk with h|h
     ·exact hst2 k h
     ·rw[kr.mp h];exact hm
    ·by_cases ai:a=i
     ·subst ai;rw[em];exact .inl (kJ _ (kr.mpr rfl))
     ·rcases hB_ a (by omega) with h|⟨m',hm',z⟩
      ·cases ef:fF (pp.getD a 0) with
       |true=>exact .inl (pi _ (uE.mpr ⟨h,ef⟩))
       |false=>
        refine .inr ⟨i,by omega,?_⟩
        rw[em,eM];have ef':(!lt2 (kyQ g (ss.getD (pp.getD a 0) zQ).2) (kyQ g e.1))=false:=ef;rw[AV] at ef';exact ef'
      ·exact .inr ⟨m',by omega,z⟩
    ·by_cases bi:b=i
     ·subst bi;rw[em] at nab⊢;rw[eM] at nab;obtain⟨n1',n2',n3',n4'⟩:=nab;have hst:pp.getD a 0∈st:=by
       rcases hB_ a ab with h|⟨m',hm',z⟩
       ·exact h
       ·exfalso
        have u:=up m' b hm' hi';rw[em,eM] at u;have:lt2 (kyQ g (ss.getD (pp.getD a 0) zQ).2) (kyQ g e.1)=true:=by
         by_cases eq:kyQ g e.1=kyQ g (ss.getD (pp.getD m' 0) zQ).1
         ·rw[eq];exact z
         ·rcases sto2.tot _ _ eq with q|q
          ·rw[u] at q;cases q
          ·exact sto2.tr _ _ _ z q
        rw[this] at n1'
        cases n1'
      refine kJ _ (uD.mpr ⟨pp.getD a 0,uE.mpr ⟨uE.mpr ⟨uE.mpr ⟨hst,?_⟩,?_⟩,?_⟩,rfl⟩)
      ·show(!lt2 (kyQ g (ss.getD (pp.getD a 0) zQ).2) (kyQ g e.1))=true
       rw[n1'];rfl
      ·exact decide_eq_true n3'
      ·exact decide_eq_true n4'
     ·exact pi _ (hC_ a b ab (by omega) nab)
    ·rcases kf.mp hx with h|h
     ·exact hD_ x h
     ·obtain⟨q,hq',rfl⟩:=uD.mp h;exact⟨hm,hst3 q (uE.mp hq').1⟩
   ·rintro σ H10 ⟨Sx,st,pv,ps,o7,o8,o9,o10,o11,rfl,sT,hPv,hpv,lpv,hSx,lst_,stn,nSP,hB_,hC_,hD_⟩;simp! [];have ln:(natV pp.toList).length=ys.length:=by unfold natV;rw[kN,or.length_eq,pd]
    rw[ln] at lpv hC_;refine k Pa pv ps g H10 ?_ (fun b o nb e=>sT b o ?_ (st9 b o nb (g07 _ _ e))) (lam_lst lt9 sT hPa9) hPv (by omega) hpv gp gm hD_ fun a b ha hb ab nab=>?_
    ·exact(g02.trans g25).free hPa
    ·intro z;rw[z,(g02.trans g25).free hPa] at e
     cases e
    ·have fnd:∀a,a<ys.length->∃ia,ia<ys.length/\pp.getD ia 0=a:=fun a ha=>by
      have hm:a∈pp.toList:=or.mem_iff.mpr (QF.mpr ha);obtain⟨ia,hia⟩:=pZ.mp hm;have l1:=(kG.mp hia).1;have l2:=or.length_eq;rw[pd] at l2;refine⟨ia,by omega,?_⟩
      rw[kR,←pY,hia];rfl
     obtain⟨ia,a1,a2⟩:=fnd a ha;obtain⟨ib,b1,b2⟩:=fnd b hb;rcases An ia ib with z|z|z
     ·have:=hC_ ia ib z b1 (by rw[a2,b2];exact nab)
      rw[a2,b2] at this;exact .inr this
     ·exact absurd (by rw[←a2,←b2,z]) ab
     ·have:=hC_ ib ia z a1 (by rw[a2,b2];exact nab.symm)
      rw[a2,b2] at this;exact .inl this
theorem zdn(T:Txt K mg ad fd):FnOk P w K mg base CX0 1 (ad 19) (fd 19) ["_law_script","_law_k"] (zk7 K):=by
 refine T.law_cell_at.fn.ok sc_law_cell_at (fun vs H Q E h=>?_) (fun cdv A outer s H vs Q E hr h=>?_)
 ·obtain⟨l,ns,k,rfl,_⟩:=h;rfl
 obtain⟨l,ns,k,rfl,hl,h0,q⟩:=h;have zmz:=@pss2;have zmu:=@ps_if;have zmt:=@zav;have qpv:=@pv;have zmy:=@zc5;have qpa1:=@pa1;have zmr:=@zae;have zmp:=@zao;have zmn:=@pe_ix;have zmv:=@zb5;have zmm:=@zaz;generalize @L2.PE=QE,@L2.PT=QT,@L2.PW=QW,@L2.PA=QA,@L2.PS=QS,@L2.PSs=QSs,@L2.PG=QG,@L2.PGs=QGs,@L2.PI=QI,@L2.PO=QO,@L2.PIf=QIf at zmz zmu zmt qpv zmy qpa1 zmr zmp zmn zmv zmm⊢;refine⟨_,
  (zmz
   (zmu (zmt op_lt (qpv 1) (zmy ze7 rfl T.b_len zdd (qpa1 (qpv 0) za1)) (nomark _)) (zmr (zmp (zmn zf3 (qpv 0) (qpv 1) (fun _ _=>rfl)))) zmv)
   (zmp zmm))
  ,?_⟩
 clear zmz zmu zmt qpv zmy qpa1 zmr zmp zmn zmv zmm QE QT QW QA QS QSs QG QGs QI QO QIf
 dsimp! [L2.start]
 simp only[tSeq,tNext,tRet,tRetN,tIfS,tAsg,gName,tDrop,tVar,tC,tOp,tUn,rI,rI0,rU,rEq,rNe,tTest,tB,tNot,tAnd,tOr,tAndV,tOrV,tNotV,tIf,tCB,tCall,tNil,tCons,tTup,tLst,gTup,gCons,gNil,L2.start,rIsi,rIxT,rIxL,cx_K,tyN_non,tyN_bl,tyN_int,tyN_str,isi_ii,isi_ib,zl8,zl4,zlo,zky,isi_tt,zlh,zkd,zlt,zlk,zko,isi_ll,scal_ii,scal_bb,sz0,sz1,sz2,sz3,sz4,pE,Qg,pQ,vD,Uk,Up,Ug,QL,vL,vM,jV,jW,QB,V.int.injEq,V.bl.injEq,V.ref.injEq,V.ty.injEq,gc,and_true,true_and,exists_eq_left,exists_eq_left',exists_and_left,exists_and_right,exists_eq,exists_eq',and_assoc,jp,jq,jt,jX,pR,if_true,if_false,reduceIte,gS,decide_true,decide_false];refine⟨_,.inl hl,?_⟩;rw[kN];refine ite2 (fun c=>?_) (fun c=>?_)
 ·have c':k<(ns.length:Int):=of_decide_eq_true c;have hk:k.toNat<ns.length:=by omega
  refine⟨_,hl,_,?_,q⟩;have ek:k=((k.toNat:Nat):Int):=by omega
  have z:atI (ns.map V.int) ((k.toNat:Nat):Int)=some (.int (ns.getD k.toNat 0)):=zaq (by
   rw[ke,kL hk,kB,kL hk]<;>rfl)
  rw[←ek] at z;exact z
 ·have c':¬k<(ns.length:Int):=fun z=>c (decide_eq_true z);have e:ns.getD k.toNat 0=0:=by rw[kB,Qd (by omega)];rfl
  rw[e] at q;exact q
theorem zcd(T:Txt K mg ad fd):FnOk P w K mg base CX0 2 (ad 23) (fd 23) ["_law_x","_law_y","_law_w"] sp_qlow:=by
 refine T.law_lowest.fn.ok zfe (fun vs H Q E h=>?_) (fun cdv A outer s H vs Q E hr h=>?_)
 ·obtain⟨n,x,y,w,rfl,_⟩:=h;rfl
 obtain⟨n,x,y,w,rfl,hn,b,hw,k⟩:=h;have zmz:=@pss2;have zmq:=@zbl;have zms:=@zb3;have qpa2:=@pa2;have qpv:=@pv;have zmp:=@zao;have zmx:=@zcu;have qpa3:=@pa3;have zmo:=@pe_op;generalize @L2.PE=QE,@L2.PT=QT,@L2.PW=QW,@L2.PA=QA,@L2.PS=QS,@L2.PSs=QSs,@L2.PG=QG,@L2.PGs=QGs,@L2.PI=QI,@L2.PO=QO,@L2.PIf=QIf at zmz zmq zms qpa2 qpv zmp zmx qpa3 zmo⊢;refine⟨_,
  (zmz
   (zmq (i:=3) zfe.nd rfl (kc rfl) (zms (zct T) (hr.mono (by decide)) rfl T.law_divisor.mg T.law_divisor.fn.kp T.law_divisor.bn .nil pass0 (qpa2 (zms (zct T) (hr.mono (by decide)) rfl T.law_divisor.mg T.law_divisor.fn.kp T.law_divisor.bn .nil pass0 (qpa2 (qpv 0) za1 (qpv 1) za1)) zak (qpv 2) za1)))
   (zmp (zmx (qpa3 (zmo zcs (qpv 0) (qpv 3)) za5 (zmo zcs (qpv 1) (qpv 3)) za5 (zmo zcs (qpv 2) (qpv 3)) za5))))
  ,?_⟩
 clear zmz zmq zms qpa2 qpv zmp zmx qpa3 zmo QE QT QW QA QS QSs QG QGs QI QO QIf
 dsimp! [L2.start]
 simp! [zdr];have lt:=zag (g3_lt (x:=x) (y:=y) hw b.2.2) hn;exact⟨cdivb (g3_ne hw) lt,cdivb (g3_ne hw) lt,cdivb (g3_ne hw) lt,fun p hp=>k p _ ⟨_,_,_⟩ (za2 hp _) ⟨upd_same,g3_pt hw b.1 b.2.1 b.2.2⟩ (zi7 x y w).1 (zi7 x y w).2⟩
theorem zcw(T:Txt K mg ad fd):FnOk P w K mg base CX0 3 (ad 24) (fd 24) ["_law_number","_law_kind"] sp_qpt:=by
 refine T.law_point.fn.ok zeb (fun vs H Q E h=>?_) (fun cdv A outer s H vs Q E hr h=>?_)
 ·obtain⟨n,k,rfl,_⟩:=h;rfl
 obtain⟨n,kd,rfl,k⟩:=h;have zn7:=@pss3;have zmu:=@ps_if;have zmt:=@zav;have qpv:=@pv;have zmm:=@zaz;have zmr:=@zae;have zmp:=@zao;have zms:=@zb3;have qpa3:=@pa3;have zmo:=@pe_op;have zmv:=@zb5;have zmq:=@zbl;have zmx:=@zcu;generalize @L2.PE=QE,@L2.PT=QT,@L2.PW=QW,@L2.PA=QA,@L2.PS=QS,@L2.PSs=QSs,@L2.PG=QG,@L2.PGs=QGs,@L2.PI=QI,@L2.PO=QO,@L2.PIf=QIf at zn7 zmu zmt qpv zmm zmr zmp zms qpa3 zmo zmv zmq zmx⊢;refine⟨_,
  (zn7
   (zmu (zmt op_eq (qpv 1) zmm (nomark _)) (zmr (zmp (zms (zcd T) (hr.mono (by decide)) rfl T.law_lowest.mg T.law_lowest.fn.kp T.law_lowest.bn .nil pass0 (qpa3 (zmo zbn (zmo zaw (qpv 0) zmm) zmm) za5 (zmo zbn (zmo zaw (zmo zba (qpv 0) zmm) zmm) zmm) za5 (zmo zal zmm (zmo zaw (zmo zba (qpv 0) zmm) zmm)) za5)))) zmv)
   (zmu (zmt op_eq (qpv 1) zmm (nomark _)) (zn7
   (zmq (i:=2) zeb.nd rfl (kc rfl) (zmo zbn (zmo zaw (zmo zer (qpv 0) zmm) zmm) zmm))
   (zmq (i:=3) zeb.nd rfl (kc rfl) (zmo zbn (zmo zaw (zmo zer (qpv 0) zmm) zmm) zmm))
   (zmp (zms (zcd T) (hr.mono (by decide)) rfl T.law_lowest.mg T.law_lowest.fn.kp T.law_lowest.bn .nil pass0 (qpa3 (qpv 2) za1 (qpv 3) za1 (zmo zal zmm (zmo zaw (qpv 0) zmm)) za5)))) zmv)
   (zmp (zmx (qpa3 (zmo zbn (zmo zaw (qpv 0) zmm) zmm) za5 (zmo zbn (zmo zaw (zmo zba (qpv 0) zmm) zmm) zmm) za5 zmm za4))))
  ,?_⟩
 clear zn7 zmu zmt qpv zmm zmr zmp zms qpa3 zmo zmv zmq zmx QE QT QW QA QS QSs QG QGs QI QO QIf
 dsimp! [L2.start]
 simp! [];have e60:(2:Nat)^60=1152921504606846976:=rfl;refine ite2 (fun _=>⟨by decide,⟨by decide,by decide⟩,by decide,⟨by decide,by decide⟩,by decide,60,_,_,_,rfl,by decide,⟨by omega,by omega,by omega⟩,by omega,fun p H' r g h _ _=>k p H' r g h⟩) (fun _=>ite2 (fun _=>?_) (fun _=>?_))
 ·exact⟨.inr ⟨by decide,by decide⟩,by decide,.inr ⟨by decide,by decide⟩,by decide,by decide,60,_,_,_,rfl,by decide,⟨by omega,by omega,by omega⟩,by omega,fun p H' r g h _ _=>k p H' r g h⟩
 ·exact⟨by decide,⟨by decide,by decide⟩,by decide,fun p hp=>k p _ ⟨_,_,_⟩ (za2 hp _) ⟨upd_same,zee (by omega) (by omega)⟩⟩
theorem ok_law_stream(T:Txt K mg ad fd):FnOk P w K mg base CX0 1 (ad 21) (fd 21) ["_law_cell","_law_many"] sp_qstream:=by
 refine T.law_stream.fn.ok zcf (fun vs H Q E h=>?_) (fun cdv A outer s H vs Q E hr h=>?_)
 ·obtain⟨c,m,rfl,_⟩:=h;rfl
 obtain⟨c,m,rfl,hm,k⟩:=h;have zn4:=@pss4;have zmq:=@zbl;have zn2:=@ze6;have zn6:=@zde;have zmo:=@pe_op;have qpv:=@pv;have zmm:=@zaz;have zn0:=@ze4;have zng:=@zdc;have qpa1:=@pa1;have zmw:=@zby;have zmz:=@pss2;have zn5:=@zdz;have zn8:=@pe_bm;have zmp:=@zao;have znt:=@zhn;have znu:=@ziv;have znv:=@ziz;generalize @L2.PE=QE,@L2.PT=QT,@L2.PW=QW,@L2.PA=QA,@L2.PS=QS,@L2.PSs=QSs,@L2.PG=QG,@L2.PGs=QGs,@L2.PI=QI,@L2.PO=QO,@L2.PIf=QIf at zn4 zmq zn2 zn6 zmo qpv zmm zn0 zng qpa1 zmw zmz zn5 zn8 zmp znt znu znv⊢;refine⟨_,
  (zn4
   (zmq (i:=2) zcf.nd rfl (kc rfl) (zn2 zn6))
   (zmq (i:=3) zcf.nd rfl (kc rfl) (zmo zal (zmo zaw (qpv 0) zmm) zmm))
   (zn0 pM rfl (zng rfl T.b_range (qpa1 (zmo zal (qpv 1) zmm) za5)) (zmw (i:=4) zcf.nd rfl (kc rfl)) (zmz
   (zmq (i:=3) zcf.nd rfl (kc rfl) (zmo zaw (zmo zal (zmo zal (zmo za9 (qpv 3) (qpv 3)) (zmo zer zmm (qpv 3))) (qpv 4)) zmm))
   (zn5 (zn8 pV uQ uR zcg (qpv 2) (qpa1 (qpv 3) za1)))))
   (zmp (znt zek (qpv 2) (znu zmm) znv)))
  ,?_⟩
 clear zn4 zmq zn2 zn6 zmo qpv zmm zn0 zng qpa1 zmw zmz zn5 zn8 zmp znt znu znv QE QT QW QA QS QSs QG QGs QI QO QIf
 dsimp! [L2.start]
 simp! [];intro R hR;have gR:=za2 hR (HO.lst []);refine⟨by decide,?_⟩
 refine zbz ?_;simp! [iRng1];have m0:=Qb c (show(2147483647:Int)≠0 by decide)
 have m1:=QP c (show(0:Int)<2147483647 by decide)
 refine⟨by omega,by omega,?_⟩
 rw[show((m:Int)+1).toNat=m+1 by omega]
 refine zd4 (n:=m+1) (fun i σ H'=>Same H H'/\∃(ms:List Int)(v:Int)(u:Option V),σ=[some (.int c),some (.int m),some (V.ref R),some (.int v),u]/\H' R=some (.lst (ms.map V.int))/\ms.length=i/\0<=v/\v<2147531918) ⟨gR,[],_,none,rfl,upd_same,rfl,by omega,by omega⟩ ?_ ?_
 ·intro _ _;rintro i σ H2 hi ⟨g2,ms,m,u,rfl,hR2,hn,m0,m1⟩;have e40:(2:Nat)^40=1099511627776:=rfl;have lm:m.natAbs<2^40:=by omega
  simp! [];have v0:=Qb (m*m+48271*m+(0+(i:Int))) (show(2147483647:Int)≠0 by decide)
  have v1:=QP (m*m+48271*m+(0+(i:Int))) (show(0:Int)<2147483647 by decide)
  generalize (m*m+48271*m+(0+(i:Int)))%2147483647=v at*;exact⟨cbig lm lm,.inl ⟨by decide,by decide⟩,by decide,ze3 hR2,_,hR2,small1000 (by rw[kN];omega),zar g2 hR,ms++[v],by rw[pg];rfl,by rw[kK,hn];rfl,v0,by omega⟩
 ·rintro σ H2 ⟨g2,ms,v,u,rfl,hR2,hn,m0,m1⟩;simp! [hR2,cut_from1];intro p hp;rw[←List.map_drop];exact k p (ms.drop 1) _ (g2.free hp) (g2.trans (za2 hp _)) upd_same (by rw[ki,hn];rfl)
theorem zd2(T:Txt K mg ad fd):FnOk P w K mg base CX0 1 (ad 25) (fd 25) ["_law_one","_law_other"] zii:=by
 refine T.law_before.fn.ok sc_law_before (fun vs H Q E h=>?_) (fun cdv A outer s H vs Q E hr h=>?_)
 ·obtain⟨p,q,x1,y1,w1,x2,y2,w2,rfl,_⟩:=h;rfl
 obtain⟨p,q,x1,y1,w1,x2,y2,w2,rfl,⟨hp,pp⟩,⟨hq,pq⟩,k⟩:=h;have zmz:=@pss2;have zmu:=@ps_if;have zmt:=@zav;have zmo:=@pe_op;have zmn:=@pe_ix;have qpv:=@pv;have zmm:=@zaz;have zmr:=@zae;have zmp:=@zao;have znb:=@zf0;have zmv:=@zb5;generalize @L2.PE=QE,@L2.PT=QT,@L2.PW=QW,@L2.PA=QA,@L2.PS=QS,@L2.PSs=QSs,@L2.PG=QG,@L2.PGs=QGs,@L2.PI=QI,@L2.PO=QO,@L2.PIf=QIf at zmz zmu zmt zmo zmn qpv zmm zmr zmp znb zmv⊢;refine⟨_,
  (zmz
   (zmu (zmt op_ne (zmo za9 (zmn za0 (qpv 0) zmm (fun _ _=>rfl)) (zmn za0 (qpv 1) zmm (fun _ _=>rfl))) (zmo za9 (zmn za0 (qpv 1) zmm (fun _ _=>rfl)) (zmn za0 (qpv 0) zmm (fun _ _=>rfl))) (nomark _)) (zmr (zmp (znb op_lt (zmo za9 (zmn za0 (qpv 0) zmm (fun _ _=>rfl)) (zmn za0 (qpv 1) zmm (fun _ _=>rfl))) (zmo za9 (zmn za0 (qpv 1) zmm (fun _ _=>rfl)) (zmn za0 (qpv 0) zmm (fun _ _=>rfl))) (nomark _)))) zmv)
   (zmp (znb op_lt (zmo za9 (zmn za0 (qpv 0) zmm (fun _ _=>rfl)) (zmn za0 (qpv 1) zmm (fun _ _=>rfl))) (zmo za9 (zmn za0 (qpv 1) zmm (fun _ _=>rfl)) (zmn za0 (qpv 0) zmm (fun _ _=>rfl))) (nomark _))))
  ,?_⟩
 clear zmz zmu zmt zmo zmn qpv zmm zmr zmp znb zmv QE QT QW QA QS QSs QG QGs QI QO QIf
 dsimp! [L2.start]
 simp! [hp,hq];refine⟨cbig pp.1 pq.2.2,cbig pq.1 pp.2.2,?_⟩;unfold bef at k;refine ite2 (fun c=>?_) (fun c=>?_)
 ·have c':¬x1*w2=x2*w1:=by simpa using c
  rw[if_neg c'] at k;exact⟨cbig pp.1 pq.2.2,cbig pq.1 pp.2.2,k⟩
 ·have c':x1*w2=x2*w1:=by simpa using c
  rw[if_pos c'] at k;exact⟨cbig pp.2.1 pq.2.2,cbig pq.2.1 pp.2.2,k⟩
theorem zcp(T:Txt K mg ad fd):FnOk P w K mg base CX0 2 (ad 29) (fd 29) ["_law_one","_law_other"] sp_qpart:=by
 refine T.law_part.fn.ok zgc (fun vs H Q E h=>?_) (fun cdv A outer s H vs Q E hr h=>?_)
 ·obtain⟨n,p,q,a,b,rfl,_⟩:=h;rfl
 obtain⟨n,p,q,a,b,rfl,hn,ha,hb,k⟩:=h;obtain⟨tl,htl,hk⟩:∃tl,PSs (cxOf CX0 P w K mg base ["_law_one","_law_other"] "_law_part" (defScope zbp) (ad 29) cdv A outer s H E).nox ((defBody zbp).drop 1) tl/\∀(q':Addr)(b':Q3)(H1:Hp),Same H H1->PtQ (n+1) H1 q' b'->¬a=b'->
   tl {nx:=fun _ H'=>Q .non H',rt:=Q} [some (.ref p),some (.ref q')] H1:=by
  have zmz:=@pss2;have zmu:=@ps_if;have zn3:=@zfv;have zms:=@zb3;have qpa2:=@pa2;have qpv:=@pv;have zmr:=@zae;have zmp:=@zao;have zmx:=@zcu;have zmv:=@zb5;generalize @L2.PE=QE,@L2.PT=QT,@L2.PW=QW,@L2.PA=QA,@L2.PS=QS,@L2.PSs=QSs,@L2.PG=QG,@L2.PGs=QGs,@L2.PI=QI,@L2.PO=QO,@L2.PIf=QIf at zmz zmu zn3 zms qpa2 qpv zmr zmp zmx zmv⊢;refine⟨_,
  (zmz
   (zmu (zn3 (zms (zd2 T) (hr.mono (by decide)) rfl T.law_before.mg T.law_before.fn.kp T.law_before.bn .nil pass0 (qpa2 (qpv 0) za1 (qpv 1) za1))) (zmr (zmp (zmx (qpa2 (qpv 0) za1 (qpv 1) za1)))) zmv)
   (zmp (zmx (qpa2 (qpv 1) za1 (qpv 0) za1))))
   ,fun q' b' H1 g1 hb' ne=>?_⟩
  clear zmz zmu zn3 zms qpa2 qpv zmr zmp zmx zmv QE QT QW QA QS QSs QG QGs QI QO QIf;have ha1:PtQ (n+1) H1 p a:=PtH.mono (ha.same g1) (Qt _);simp! [];refine⟨p,q',_,_,_,_,_,_,rfl,ha1.tb (by omega),hb'.tb (by omega),_,rfl,ite2 (fun c=>?_) (fun c=>?_)⟩
  ·intro z hz;have g:=za2 hz (HO.tup [V.ref p,V.ref q']);exact k z _ (a,b') (g1.trans g) ⟨p,q',upd_same,ha1.same g,hb'.same g,c⟩
  ·intro z hz;have g:=za2 hz (HO.tup [V.ref q',V.ref p]);have cb:bq b' a=true:=by
    cases eb:bq b' a with
    |true=>rfl
    |false=>exact absurd (zjp ha1.pt hb'.pt (Ui.mpr c) eb) ne
   exact k z _ (b',a) (g1.trans g) ⟨q',p,upd_same,hb'.same g,ha1.same g,cb⟩
 have znn:=@za7;have zmu:=@ps_if;have zmt:=@zav;have qpv:=@pv;have zmr:=@zae;have zmq:=@zbl;have zmx:=@zcu;have qpa3:=@pa3;have zmo:=@pe_op;have zmn:=@pe_ix;have zmm:=@zaz;have zmv:=@zb5;generalize @L2.PE=QE,@L2.PT=QT,@L2.PW=QW,@L2.PA=QA,@L2.PS=QS,@L2.PSs=QSs,@L2.PG=QG,@L2.PGs=QGs,@L2.PI=QI,@L2.PO=QO,@L2.PIf=QIf at znn zmu zmt qpv zmr zmq zmx qpa3 zmo zmn zmm zmv htl⊢;refine⟨_,
  (znn (zmu (zmt (ziq (hu64 hr)) (qpv 0) (qpv 1) (nomark _)) (zmr (zmq (i:=1) zgc.nd rfl (kc rfl) (zmx (qpa3 (zmo zal (zmn za0 (qpv 1) zmm (fun _ _=>rfl)) (zmn za0 (qpv 1) zmm (fun _ _=>rfl))) za5 (zmn za0 (qpv 1) zmm (fun _ _=>rfl)) za3 (zmn za0 (qpv 1) zmm (fun _ _=>rfl)) za3)))) zmv)
   htl)
  ,?_⟩
 clear htl znn zmu zmt qpv zmr zmq zmx qpa3 zmo zmn zmm zmv QE QT QW QA QS QSs QG QGs QI QO QIf;simp! [hb.1];refine⟨_,_,rd_pt (.of ha.1),rd_pt (.of hb.1),zbc _ _ _,zbc _ _ _,_,rfl,?_⟩;rw[zey]
 by_cases eq:a.x=b.x/\a.y=b.y/\a.w=b.w
 ·rw[decide_eq_true eq];refine iteT ?_;simp! [hb.1];intro z hz;have g:=za2 hz (HO.tup [V.int (b.x+b.w),V.int b.y,V.int b.w]);have hp:=hb.pt;refine hk z ⟨b.x+b.w,b.y,b.w⟩ _ g ⟨upd_same,hp.pos,(g3_shift _ _ _).trans hp.one,zk8 hp.lx hp.lw,zag hp.ly (Qt _),zag hp.lw (Qt _)⟩ fun e=>?_;have e1:a.x=b.x+b.w:=congrArg Q3.x e;have:=hp.pos;omega
 ·rw[decide_eq_false eq];exact iteF (hk q b H (.refl _) (PtH.mono hb (Qt _)) fun e=>eq ⟨congrArg Q3.x e,congrArg Q3.y e,congrArg Q3.w e⟩)
theorem zkl{H H2:Hp}{R:Addr}{ys:List V}{ss:List (Q3×Q3)}{i:Nat}(hR:H R=none)(g2:Same H H2)(hR2:H2 R=some (.lst ys))(hn:ys.length=i)(hi:i<60)(hp:LR (StE 61) H2 ys ss)(a b:Q3)(ha:PQ 60 a)(hb:PQ 60 b)(hab:bq a b=true):
  ∀p,H2 p=none->∀p1,upd H2 p (HO.tup [.int a.x,.int a.y,.int a.w]) p1=none->∀p2,upd (upd H2 p (HO.tup [.int a.x,.int a.y,.int a.w])) p1 (HO.tup [.int b.x,.int b.y,.int b.w]) p2=none->
   ∃zs,upd (upd (upd H2 p (HO.tup [.int a.x,.int a.y,.int a.w])) p1 (HO.tup [.int b.x,.int b.y,.int b.w])) p2 (HO.tup [.ref p,.ref p1]) R=some (HO.lst zs)/\zs.length<sizeLine/\
    Same H (upd (upd (upd (upd H2 p (HO.tup [.int a.x,.int a.y,.int a.w])) p1 (HO.tup [.int b.x,.int b.y,.int b.w])) p2 (HO.tup [.ref p,.ref p1])) R (HO.lst (zs++[.ref p2])))/\(zs++[V.ref p2]).length=i+1/\∃ts,
    LR (StE 61) (upd (upd (upd (upd H2 p (HO.tup [.int a.x,.int a.y,.int a.w])) p1 (HO.tup [.int b.x,.int b.y,.int b.w])) p2 (HO.tup [.ref p,.ref p1])) R (HO.lst (zs++[.ref p2]))) (zs++[.ref p2]) ts:=by
 intro p hp1 p1 hp2 p2 hp3;have g3':=za2 hp1 (HO.tup [.int a.x,.int a.y,.int a.w]);have a3:upd H2 p (HO.tup [.int a.x,.int a.y,.int a.w]) p=some (HO.tup [.int a.x,.int a.y,.int a.w]):=upd_same;generalize upd H2 p (HO.tup [.int a.x,.int a.y,.int a.w])=H3 at*;have g4:=za2 hp2 (HO.tup [.int b.x,.int b.y,.int b.w]);have b4:upd H3 p1 (HO.tup [.int b.x,.int b.y,.int b.w]) p1=some (HO.tup [.int b.x,.int b.y,.int b.w]):=upd_same;generalize upd H3 p1 (HO.tup [.int b.x,.int b.y,.int b.w])=H4 at*;have g5:=za2 hp3 (HO.tup [.ref p,.ref p1]);have c5:upd H4 p2 (HO.tup [.ref p,.ref p1]) p2=some (HO.tup [.ref p,.ref p1]):=upd_same;generalize upd H4 p2 (HO.tup [.ref p,.ref p1])=H5 at*;have g25:=g3'.trans (g4.trans g5);have hR5:=g25 _ _ hR2;exact⟨ys,hR5,small1000 (by omega),zar (g2.trans g25) hR,by rw[kK,hn];rfl,_,zgq hp g25 hR5 (e:=(a,b)) ⟨p,p1,c5,⟨g5 _ _ (g4 _ _ a3),Pt.mono ha (by decide)⟩,⟨g5 _ _ b4,Pt.mono hb (by decide)⟩,hab⟩⟩
theorem ok_law_net(T:Txt K mg ad fd):FnOk P w K mg base CX0 1 (ad 31) (fd 31) ["_law_xs","_law_many"] zgm:=by
 refine T.law_net.fn.ok zd5 (fun vs H Q E h=>?_) (fun cdv A outer s H vs Q E hr h=>?_)
 ·obtain⟨l,xs,m,rfl,_⟩:=h;rfl
 obtain⟨l,xs,m,rfl,hm,hl,hx,k⟩:=h;have zn7:=@pss3;have zmq:=@zbl;have zn2:=@ze6;have zn6:=@zde;have zn0:=@ze4;have zng:=@zdc;have qpa1:=@pa1;have qpv:=@pv;have zmw:=@zby;have zn4:=@pss4;have zmo:=@pe_op;have zmn:=@pe_ix;have zmm:=@zaz;have zmu:=@ps_if;have zmt:=@zav;have zmr:=@zae;have zn5:=@zdz;have zn8:=@pe_bm;have zmx:=@zcu;have qpa2:=@pa2;have qpa3:=@pa3;have zmp:=@zao;generalize @L2.PE=QE,@L2.PT=QT,@L2.PW=QW,@L2.PA=QA,@L2.PS=QS,@L2.PSs=QSs,@L2.PG=QG,@L2.PGs=QGs,@L2.PI=QI,@L2.PO=QO,@L2.PIf=QIf at zn7 zmq zn2 zn6 zn0 zng qpa1 qpv zmw zn4 zmo zmn zmm zmu zmt zmr zn5 zn8 zmx qpa2 qpa3 zmp⊢;refine⟨_,
  (zn7
   (zmq (i:=2) zd5.nd rfl (kc rfl) (zn2 zn6))
   (zn0 pM rfl (zng rfl T.b_range (qpa1 (qpv 1) za1)) (zmw (i:=3) zd5.nd rfl (kc rfl)) (zn4
   (zmq (i:=4) zd5.nd rfl (kc rfl) (zmo zaw (zmn zaa (qpv 0) (qpv 3) (fun _ _=>rfl)) zmm))
   (zmq (i:=5) zd5.nd rfl (kc rfl) (zmo zaw (zmo zba (zmn zaa (qpv 0) (qpv 3) (fun _ _=>rfl)) zmm) zmm))
   (zmq (i:=6) zd5.nd rfl (kc rfl) (zmo zal zmm (zmo zaw (zmo zba (zmn zaa (qpv 0) (qpv 3) (fun _ _=>rfl)) zmm) zmm)))
   (zmu (zmt op_eq (zmo zaw (zmo zba (zmn zaa (qpv 0) (qpv 3) (fun _ _=>rfl)) zmm) zmm) zmm (nomark _)) (zmr (zn5 (zn8 pV uQ uR zcg (qpv 2) (qpa1 (zmx (qpa2 (zmx (qpa3 (qpv 4) za1 (qpv 5) za1 zmm za4)) zaj (zmx (qpa3 (qpv 4) za1 (zmo zal (qpv 5) (qpv 6)) za5 zmm za4)) zaj)) zaj)))) (zmr (zn5 (zn8 pV uQ uR zcg (qpv 2) (qpa1 (zmx (qpa2 (zmx (qpa3 (qpv 5) za1 (qpv 4) za1 zmm za4)) zaj (zmx (qpa3 (zmo zal (qpv 5) (qpv 6)) za5 (qpv 4) za1 zmm za4)) zaj)) zaj)))))))
   (zmp (qpv 2)))
  ,?_⟩
 clear zn7 zmq zn2 zn6 zn0 zng qpa1 qpv zmw zn4 zmo zmn zmm zmu zmt zmr zn5 zn8 zmx qpa2 qpa3 zmp QE QT QW QA QS QSs QG QGs QI QO QIf
 dsimp! [L2.start]
 simp! [];intro R hR;have gR:=za2 hR (HO.lst []);refine zbz ?_;simp! [iRng1];refine⟨by omega,by omega,?_⟩
 rw[show((m:Int)).toNat=m by omega]
 refine zd4 (n:=m) (fun i σ H'=>Same H H'/\∃(ys:List V)(ss:List (Q3×Q3))(u1 u2 u3 u4:Option V),σ=[some (V.ref l),some (.int m),some (V.ref R),u1,u2,u3,u4]/\H' R=some (.lst ys)/\ys.length=i/\LR (StE 61) H' ys ss) ⟨gR,[],[],none,none,none,none,rfl,upd_same,rfl,.nil⟩ ?_ ?_
 ·intro _ _;rintro i σ H2 hi ⟨g2,ys,ss,u1,u2,u3,u4,rfl,hR2,hn,hp⟩;obtain⟨x,ax⟩:=zdw (xs:=xs) (j:=(i:Int)) (by omega) (by omega)
  have hl2:=g2 _ _ hl;simp! [Ut,hl2,ax];have e60:(2:Nat)^60=1152921504606846976:=rfl;have f1:0<=x%5/\x%5<5:=by omega
  have f2:0<=x/5%4/\x/5%4<4:=by omega
  have f3:0<=x/20%4/\x/20%4<4:=by omega
  generalize x%5=m1 at*;generalize x/5%4=m2 at*;generalize x/20%4=m3 at*;refine⟨by decide,⟨by decide,by decide⟩,by decide,⟨by decide,by decide⟩,by decide,⟨by decide,by decide⟩,by decide,ite2 (fun _=>⟨ze3 hR2,?_⟩) (fun _=>⟨ze3 hR2,?_⟩)⟩
  ·refine zkl hR g2 hR2 hn (by omega) hp ⟨m1,m2,1⟩ ⟨m1,m2+(1+m3),1⟩ (zee (by omega) (by omega)) (zee (by omega) (by omega)) ?_
   unfold bq;rw[zbs];right;exact⟨rfl,by show m2*1<(m2+(1+m3))*1;omega⟩
  ·refine zkl hR g2 hR2 hn (by omega) hp ⟨m2,m1,1⟩ ⟨m2+(1+m3),m1,1⟩ (zee (by omega) (by omega)) (zee (by omega) (by omega)) ?_
   unfold bq;rw[zbs];left;show m2*1<(m2+(1+m3))*1;omega
 ·rintro σ H2 ⟨g2,ys,ss,u1,u2,u3,u4,rfl,hR2,hn,hp⟩;simp! [];exact k R ys ss H2 hR g2 hR2 hn hp
theorem ok_law_fan(T:Txt K mg ad fd):FnOk P w K mg base CX0 3 (ad 30) (fd 30) ["_law_xs","_law_many"] zgm:=by
 refine T.law_fan.fn.ok zbq (fun vs H Q E h=>?_) (fun cdv A outer s H vs Q E hr h=>?_)
 ·obtain⟨l,xs,m,rfl,_⟩:=h;rfl
 obtain⟨l,xs,m,rfl,hm,hl,hx,k⟩:=h;have zn4:=@pss4;have zmq:=@zbl;have zms:=@zb3;have qpa3:=@pa3;have zmo:=@pe_op;have zmn:=@pe_ix;have qpv:=@pv;have zmm:=@zaz;have zn2:=@ze6;have zn6:=@zde;have zn0:=@ze4;have zng:=@zdc;have qpa1:=@pa1;have zmw:=@zby;have zo9:=@pss8;have qpa2:=@pa2;have zn5:=@zdz;have zn8:=@pe_bm;have zmp:=@zao;generalize @L2.PE=QE,@L2.PT=QT,@L2.PW=QW,@L2.PA=QA,@L2.PS=QS,@L2.PSs=QSs,@L2.PG=QG,@L2.PGs=QGs,@L2.PI=QI,@L2.PO=QO,@L2.PIf=QIf at zn4 zmq zms qpa3 zmo zmn qpv zmm zn2 zn6 zn0 zng qpa1 zmw zo9 qpa2 zn5 zn8 zmp⊢;refine⟨_,
  (zn4
   (zmq (i:=2) zbq.nd rfl (kc rfl) (zms (zcd T) (hr.mono (by decide)) rfl T.law_lowest.mg T.law_lowest.fn.kp T.law_lowest.bn .nil pass0 (qpa3 (zmo zbn (zmo zaw (zmn zaa (qpv 0) zmm (fun _ _=>rfl)) zmm) zmm) za5 (zmo zbn (zmo zaw (zmn zaa (qpv 0) zmm (fun _ _=>rfl)) zmm) zmm) za5 (zmo zal zmm (zmo zaw (zmo zba (zmn zaa (qpv 0) zmm (fun _ _=>rfl)) zmm) zmm)) za5)))
   (zmq (i:=3) zbq.nd rfl (kc rfl) (zn2 zn6))
   (zn0 pM rfl (zng rfl T.b_range (qpa1 (qpv 1) za1)) (zmw (i:=4) zbq.nd rfl (kc rfl)) (zo9
   (zmq (i:=5) zbq.nd rfl (kc rfl) (zmn zaa (qpv 0) (zmo zal zmm (qpv 4)) (fun _ _=>rfl)))
   (zmq (i:=6) zbq.nd rfl (kc rfl) (zmn zaa (zn2 (qpa2 (zmo zbn (zmo zaw (qpv 5) zmm) zmm) za5 (zmo zbn (qpv 4) zmm) za5)) (zmo zaw (zmo zba (qpv 5) zmm) zmm) (fun _ _=>rfl)))
   (zmq (i:=7) zbq.nd rfl (kc rfl) (zmn zaa (zn2 (qpa2 (zmo zbn (zmo zaw (zmo zba (qpv 5) zmm) zmm) zmm) za5 zmm za4)) (zmo zaw (zmo zba (qpv 5) zmm) zmm) (fun _ _=>rfl)))
   (zmq (i:=8) zbq.nd rfl (kc rfl) (zmo zal zmm (zmo zaw (zmo zba (qpv 5) zmm) zmm)))
   (zmq (i:=9) zbq.nd rfl (kc rfl) (zmo zaw (zmo zba (qpv 5) zmm) zmm))
   (zmq (i:=10) zbq.nd rfl (kc rfl) (zms (zcd T) (hr.mono (by decide)) rfl T.law_lowest.mg T.law_lowest.fn.kp T.law_lowest.bn .nil pass0 (qpa3 (zmo zal (zmn za0 (qpv 2) zmm (fun _ _=>rfl)) (zmo za9 (zmo za9 (qpv 8) (qpv 6)) (zmn za0 (qpv 2) zmm (fun _ _=>rfl)))) za5 (zmo zal (zmn za0 (qpv 2) zmm (fun _ _=>rfl)) (zmo za9 (zmo za9 (qpv 8) (qpv 7)) (zmn za0 (qpv 2) zmm (fun _ _=>rfl)))) za5 (zmn za0 (qpv 2) zmm (fun _ _=>rfl)) za3)))
   (zmq (i:=11) zbq.nd rfl (kc rfl) (zms (zcd T) (hr.mono (by decide)) rfl T.law_lowest.mg T.law_lowest.fn.kp T.law_lowest.bn .nil pass0 (qpa3 (zmo zbn (zmn za0 (qpv 2) zmm (fun _ _=>rfl)) (zmo za9 (zmo za9 (qpv 9) (qpv 6)) (zmn za0 (qpv 2) zmm (fun _ _=>rfl)))) za5 (zmo zbn (zmn za0 (qpv 2) zmm (fun _ _=>rfl)) (zmo za9 (zmo za9 (qpv 9) (qpv 7)) (zmn za0 (qpv 2) zmm (fun _ _=>rfl)))) za5 (zmn za0 (qpv 2) zmm (fun _ _=>rfl)) za3)))
   (zn5 (zn8 pV uQ uR zcg (qpv 3) (qpa1 (zms (zcp T) (hr.mono (by decide)) rfl T.law_part.mg T.law_part.fn.kp T.law_part.bn .nil pass0 (qpa2 (qpv 10) za1 (qpv 11) za1)) zak)))))
   (zmp (qpv 3)))
  ,?_⟩
 clear zn4 zmq zms qpa3 zmo zmn qpv zmm zn2 zn6 zn0 zng qpa1 zmw zo9 qpa2 zn5 zn8 zmp QE QT QW QA QS QSs QG QGs QI QO QIf
 dsimp! [L2.start]
 obtain⟨x0,ax0⟩:=zdw (xs:=xs) (j:=0) (by omega) (by omega)
 obtain⟨x1,ax1⟩:=zdw (xs:=xs) (j:=1) (by omega) (by omega)
 simp! [hl,ax0,ax1];have e6:(2:Nat)^6=64:=rfl;refine⟨by decide,by decide,⟨by decide,by decide⟩,by decide,6,_,_,_,rfl,by decide,⟨by omega,by omega,by omega⟩,by omega,fun M H1 rM g1 hM _ _=>?_⟩
 obtain⟨a,b,c⟩:=rM;intro R hR;have gR:=za2 hR (HO.lst []);have nR:=g1.free hR;refine zbz ?_;simp! [iRng1];refine⟨by omega,by omega,?_⟩
 rw[show((m:Int)).toNat=m by omega]
 refine zd4 (n:=m) (fun i σ H'=>Same H1 H'/\∃(ys:List V)(ss:List (Q3×Q3))(u1 u2 u3 u4 u5 u6 u7 u8:Option V),σ=[some (V.ref l),some (.int m),some (V.ref M),some (V.ref R),u1,u2,u3,u4,u5,u6,u7,u8]/\H' R=some (.lst ys)/\ys.length=i/\LR (StE 61) H' ys ss) ⟨gR,[],[],none,none,none,none,none,none,none,none,rfl,upd_same,rfl,.nil⟩ ?_ ?_
 ·intro _ _;rintro i σ H2 hi ⟨g2,ys,ss,u1,u2,u3,u4,u5,u6,u7,u8,rfl,hR2,hn,hp⟩;obtain⟨x,ax⟩:=zdw (xs:=xs) (j:=2+(i:Int)) (by omega) (by omega)
  have hl2:=(g1.trans g2) _ _ hl;have hM2:PtH 6 H2 M a b c:=hM.same g2;simp! [Ut,hl2,ax];have e4:(2:Nat)^4=16:=rfl;have e3:(2:Nat)^3=8:=rfl;refine⟨by decide,fun q1 hq1=>⟨⟨by decide,by decide⟩,by decide,?_⟩⟩
  have g3':=za2 hq1 (HO.lst [V.int (x%7-3),V.int ((i:Int)-2)]);generalize upd H2 q1 (HO.lst [V.int (x%7-3),V.int ((i:Int)-2)])=H3 at*;obtain⟨X,aX,lX⟩:∃X:Int,atI [V.int (x%7-3),V.int ((i:Int)-2)] (x/4096%2)=some (V.int X)/\X.natAbs<2^4:=by
   rcases(by omega:x/4096%2=0∨x/4096%2=1) with e|e
   ·rw[e];exact⟨_,at0,by omega⟩
   ·rw[e];exact⟨_,at1,by omega⟩
  refine⟨_,aX,⟨by decide,by decide⟩,by decide,fun q2 hq2=>⟨⟨by decide,by decide⟩,by decide,?_⟩⟩
  have g4:=za2 hq2 (HO.lst [V.int (x/7%7-3),V.int 1]);generalize upd H3 q2 (HO.lst [V.int (x/7%7-3),V.int 1])=H4 at*;obtain⟨Y,aY,lY⟩:∃Y:Int,atI [V.int (x/7%7-3),V.int 1] (x/8192%2)=some (V.int Y)/\Y.natAbs<2^4:=by
   rcases(by omega:x/8192%2=0∨x/8192%2=1) with e|e
   ·rw[e];exact⟨_,at0,by omega⟩
   ·rw[e];exact⟨_,at1,by omega⟩
  have hM4:=hM2.same (g3'.trans g4);refine⟨_,aY,⟨by decide,by decide⟩,by decide,⟨by decide,by decide⟩,by decide,?_⟩
  have lf:(1+x/49%3).natAbs<2^3:=by omega
  have ln:(x/147%3).natAbs<2^3:=by omega
  generalize 1+x/49%3=f at*;generalize x/147%3=n at*;have lM:=hM4.2;have bd:∀{u v z:Int},u.natAbs<2^6->v.natAbs<2^3->z.natAbs<2^4->(u+v*z*c).natAbs<2^60/\(u-v*z*c).natAbs<2^60:=fun h1 h2 h3=>⟨zag (zk8 (m:=3+4+6) (zag h1 (by decide)) (zap (zap h2 h3) lM.lw)) (by decide),zag (zdb (m:=3+4+6) (zag h1 (by decide)) (zap (zap h2 h3) lM.lw)) (by decide)⟩
  simp! [hM4.1];refine⟨cbig lf lX,cbig (zap lf lX) lM.lw,cbig lf lY,cbig (zap lf lY) lM.lw,60,_,_,_,rfl,by decide,⟨(bd lM.lx lf lX).1,(bd lM.ly lf lY).1,zag lM.lw (by decide)⟩,lM.pos,fun O1 H5 r1 g5 h5 _ _=>?_⟩
  have hM5:=hM4.same g5;simp! [hM5.1];refine⟨cbig ln lX,cbig (zap ln lX) lM.lw,cbig ln lY,cbig (zap ln lY) lM.lw,60,_,_,_,rfl,by decide,⟨(bd lM.lx ln lX).2,(bd lM.ly ln lY).2,zag lM.lw (by decide)⟩,lM.pos,fun O2 H6 r2 g6 h6 _ _=>?_⟩
  have g26:=g3'.trans (g4.trans (g5.trans g6));have hR6:=g26 _ _ hR2;simp! [];refine⟨ze3 hR6,60,O1,O2,r1,r2,rfl,by decide,h5.same g6,h6,fun s' H7 e' g7 h7=>?_⟩
  have g27:=g26.trans g7;have hR7:=g27 _ _ hR2;exact⟨ys,hR7,small1000 (by omega),zar (g2.trans g27) hR,by rw[kK,hn];rfl,_,zgq hp g27 hR7 h7⟩
 ·rintro σ H2 ⟨g2,ys,ss,u1,u2,u3,u4,u5,u6,u7,u8,rfl,hR2,hn,hp⟩;simp! [];exact k R ys ss H2 nR (g1.trans g2) hR2 hn hp
theorem ok_law_row(T:Txt K mg ad fd):FnOk P w K mg base CX0 4 (ad 32) (fd 32) ["_law_xs","_law_many"] zgm:=by
 refine T.law_row.fn.ok zc8 (fun vs H Q E h=>?_) (fun cdv A outer s H vs Q E hr h=>?_)
 ·obtain⟨l,xs,m,rfl,_⟩:=h;rfl
 obtain⟨l,xs,m,rfl,hm,hl,hx,k⟩:=h;have zn4:=@pss4;have zmq:=@zbl;have zmn:=@pe_ix;have zn2:=@ze6;have qpa5:=@pa5;have zmx:=@zcu;have qpa2:=@pa2;have zmm:=@zaz;have znp:=@pe_un;have zmo:=@pe_op;have qpv:=@pv;have zn6:=@zde;have zn0:=@ze4;have zng:=@zdc;have qpa1:=@pa1;have zmw:=@zby;have znr:=@pss5;have zms:=@zb3;have qpa3:=@pa3;have zmu:=@ps_if;have zmt:=@zav;have zmr:=@zae;have zmv:=@zb5;have zn5:=@zdz;have zn8:=@pe_bm;have zmp:=@zao;generalize @L2.PE=QE,@L2.PT=QT,@L2.PW=QW,@L2.PA=QA,@L2.PS=QS,@L2.PSs=QSs,@L2.PG=QG,@L2.PGs=QGs,@L2.PI=QI,@L2.PO=QO,@L2.PIf=QIf at zn4 zmq zmn zn2 qpa5 zmx qpa2 zmm znp zmo qpv zn6 zn0 zng qpa1 zmw znr zms qpa3 zmu zmt zmr zmv zn5 zn8 zmp⊢;refine⟨_,
  (zn4
   (zmq (i:=2) zc8.nd rfl (kc rfl) (zmn zaa (zn2 (qpa5 (zmx (qpa2 zmm za4 zmm za4)) zaj (zmx (qpa2 zmm za4 zmm za4)) zaj (zmx (qpa2 zmm za4 zmm za4)) zaj (zmx (qpa2 zmm za4 (znp zig zmm) zgv)) zaj (zmx (qpa2 zmm za4 zmm za4)) zaj)) (zmo zaw (zmn zaa (qpv 0) zmm (fun _ _=>rfl)) zmm) (fun _ _=>rfl)))
   (zmq (i:=3) zc8.nd rfl (kc rfl) (zn2 zn6))
   (zn0 pM rfl (zng rfl T.b_range (qpa1 (qpv 1) za1)) (zmw (i:=4) zc8.nd rfl (kc rfl)) (znr
   (zmq (i:=5) zc8.nd rfl (kc rfl) (zmo zaw (zmn zaa (qpv 0) (zmo zal zmm (qpv 4)) (fun _ _=>rfl)) zmm))
   (zmq (i:=6) zc8.nd rfl (kc rfl) (zmo zal (zmo zal (qpv 5) zmm) (zmo zaw (zmo zba (zmn zaa (qpv 0) (zmo zal zmm (qpv 4)) (fun _ _=>rfl)) zmm) zmm)))
   (zmq (i:=7) zc8.nd rfl (kc rfl) (zms (zcp T) (hr.mono (by decide)) rfl T.law_part.mg T.law_part.fn.kp T.law_part.bn .nil pass0 (qpa2 (zmx (qpa3 (zmo za9 (qpv 5) (zmn za0 (qpv 2) zmm (fun _ _=>rfl))) za5 (zmo za9 (qpv 5) (zmn za0 (qpv 2) zmm (fun _ _=>rfl))) za5 zmm za4)) zaj (zmx (qpa3 (zmo za9 (qpv 6) (zmn za0 (qpv 2) zmm (fun _ _=>rfl))) za5 (zmo za9 (qpv 6) (zmn za0 (qpv 2) zmm (fun _ _=>rfl))) za5 zmm za4)) zaj)))
   (zmu (zmt op_eq (zmo zaw (zmo zba (zmn zaa (qpv 0) (zmo zal zmm (qpv 4)) (fun _ _=>rfl)) zmm) zmm) zmm (nomark _)) (zmr (zmq (i:=7) zc8.nd rfl (kc rfl) (zms (zcp T) (hr.mono (by decide)) rfl T.law_part.mg T.law_part.fn.kp T.law_part.bn .nil pass0 (qpa2 (zmn za0 (qpv 7) zmm (fun _ _=>rfl)) za3 (zms (zcw T) (hr.mono (by decide)) rfl T.law_point.mg T.law_point.fn.kp T.law_point.bn .nil pass0 (qpa2 (zmo zba (zmn zaa (qpv 0) (zmo zal zmm (qpv 4)) (fun _ _=>rfl)) zmm) za5 zmm za4)) zak)))) zmv)
   (zn5 (zn8 pV uQ uR zcg (qpv 3) (qpa1 (qpv 7) za1)))))
   (zmp (qpv 3)))
  ,?_⟩
 clear zn4 zmq zmn zn2 qpa5 zmx qpa2 zmm znp zmo qpv zn6 zn0 zng qpa1 zmw znr zms qpa3 zmu zmt zmr zmv zn5 zn8 zmp QE QT QW QA QS QSs QG QGs QI QO QIf
 dsimp! [L2.start]
 simp! [];intro p1 n1;have g1:=za2 n1 (HO.tup [V.int 1,V.int 0]);have h1:upd H p1 (HO.tup [V.int 1,V.int 0]) p1=some (HO.tup [V.int 1,V.int 0]):=upd_same;generalize upd H p1 (HO.tup [V.int 1,V.int 0])=H1 at*;intro p2 n2;have g2:=za2 n2 (HO.tup [V.int 0,V.int 1]);have h2:upd H1 p2 (HO.tup [V.int 0,V.int 1]) p2=some (HO.tup [V.int 0,V.int 1]):=upd_same;generalize upd H1 p2 (HO.tup [V.int 0,V.int 1])=H2 at*;intro p3 n3;have g3':=za2 n3 (HO.tup [V.int 1,V.int 1]);have h3:upd H2 p3 (HO.tup [V.int 1,V.int 1]) p3=some (HO.tup [V.int 1,V.int 1]):=upd_same;generalize upd H2 p3 (HO.tup [V.int 1,V.int 1])=H3 at*;intro p4 n4;have g4:=za2 n4 (HO.tup [V.int 2,V.int (-1)]);have h4:upd H3 p4 (HO.tup [V.int 2,V.int (-1)]) p4=some (HO.tup [V.int 2,V.int (-1)]):=upd_same;generalize upd H3 p4 (HO.tup [V.int 2,V.int (-1)])=H4 at*;intro p5 n5;have g5:=za2 n5 (HO.tup [V.int 1,V.int 3]);have h5:upd H4 p5 (HO.tup [V.int 1,V.int 3]) p5=some (HO.tup [V.int 1,V.int 3]):=upd_same;generalize upd H4 p5 (HO.tup [V.int 1,V.int 3])=H5 at*;refine⟨by decide,fun L nL=>?_⟩
 have g6:=za2 nL (HO.lst [V.ref p1,V.ref p2,V.ref p3,V.ref p4,V.ref p5]);generalize upd H5 L (HO.lst [V.ref p1,V.ref p2,V.ref p3,V.ref p4,V.ref p5])=H6 at*;have g46:=g5.trans g6;have g36:=g4.trans g46;have g26:=g3'.trans g36;have g16:=g2.trans g26;have g06:=g1.trans g16;obtain⟨x0,ax0⟩:=zdw (xs:=xs) (j:=0) (by omega) (by omega)
 have hl6:=g06 _ _ hl;simp! [hl6,ax0];obtain⟨W,w0,w1,aW,hW,lw0,lw1⟩:∃(W:Addr)(w0 w1:Int),atI [V.ref p1,V.ref p2,V.ref p3,V.ref p4,V.ref p5] (x0%5)=some (V.ref W)/\H6 W=some (.tup [.int w0,.int w1])/\w0.natAbs<2^3/\w1.natAbs<2^3:=by
  rcases(by omega:x0%5=0∨x0%5=1∨x0%5=2∨x0%5=3∨x0%5=4) with e|e|e|e|e
  ·rw[e];exact⟨p1,_,_,at0,g16 _ _ h1,by decide,by decide⟩
  ·rw[e];exact⟨p2,_,_,at1,g26 _ _ h2,by decide,by decide⟩
  ·rw[e];exact⟨p3,_,_,at2,g36 _ _ h3,by decide,by decide⟩
  ·rw[e];exact⟨p4,_,_,at3,g46 _ _ h4,by decide,by decide⟩
  ·rw[e];exact⟨p5,_,_,at4,g6 _ _ h5,by decide,by decide⟩
 refine⟨by decide,_,aW,fun R hR=>?_⟩
 have gR:=za2 hR (HO.lst []);have nR:=g06.free hR;refine zbz ?_;simp! [iRng1];refine⟨by omega,by omega,?_⟩
 rw[show((m:Int)).toNat=m by omega]
 refine zd4 (n:=m) (fun i σ H'=>Same H6 H'/\∃(ys:List V)(ss:List (Q3×Q3))(u1 u2 u3 u4:Option V),σ=[some (V.ref l),some (.int m),some (V.ref W),some (V.ref R),u1,u2,u3,u4]/\H' R=some (.lst ys)/\ys.length=i/\LR (StE 61) H' ys ss) ⟨gR,[],[],none,none,none,none,rfl,upd_same,rfl,.nil⟩ ?_ ?_
 ·intro _ _;rintro i σ H7 hi ⟨g7,ys,ss,u1,u2,u3,u4,rfl,hR7,hn,hp⟩;obtain⟨x,ax⟩:=zdw (xs:=xs) (j:=1+(i:Int)) (by omega) (by omega)
  have hl7:=g7 _ _ hl6;have hW7:=g7 _ _ hW;simp! [Ut,hl7,ax,hW7];have e10:(2:Nat)^10=1024:=rfl;have f1:(x%6).natAbs<2^10:=by omega
  have f2:(x%6+1+x/6%4).natAbs<2^10:=by omega
  generalize x%6+1+x/6%4=hg at*;generalize x%6=lo at*;refine⟨by decide,⟨by decide,by decide⟩,by decide,cbig f1 lw0,cbig f1 lw1,fun q1 m1=>?_⟩
  have g8:=za2 m1 (HO.tup [V.int (lo*w0),V.int (lo*w1),V.int 1]);have h8:upd H7 q1 (HO.tup [V.int (lo*w0),V.int (lo*w1),V.int 1]) q1=some (HO.tup [V.int (lo*w0),V.int (lo*w1),V.int 1]):=upd_same;generalize upd H7 q1 (HO.tup [V.int (lo*w0),V.int (lo*w1),V.int 1])=H8 at*;have hW8:=g8 _ _ hW7;simp! [hW8];refine⟨cbig f2 lw0,cbig f2 lw1,fun q2 m2=>?_⟩;have g9:=za2 m2 (HO.tup [V.int (hg*w0),V.int (hg*w1),V.int 1]);have h9:upd H8 q2 (HO.tup [V.int (hg*w0),V.int (hg*w1),V.int 1]) q2=some (HO.tup [V.int (hg*w0),V.int (hg*w1),V.int 1]):=upd_same;generalize upd H8 q2 (HO.tup [V.int (hg*w0),V.int (hg*w1),V.int 1])=H9 at*;have bd:∀{u v:Int},u.natAbs<2^10->v.natAbs<2^3->(u*v).natAbs<2^20:=fun h1 h2=>zag (zap h1 h2) (by decide)
  refine⟨20,q1,q2,⟨lo*w0,lo*w1,1⟩,⟨hg*w0,hg*w1,1⟩,rfl,by decide,⟨g9 _ _ h8,zlc (by decide) (bd f1 lw0) (bd f1 lw1)⟩,⟨h9,zlc (by decide) (bd f2 lw0) (bd f2 lw1)⟩,fun s1 H10 e1 g10 h10=>?_⟩
  have g710:=g8.trans (g9.trans g10);have hl10:=g710 _ _ hl7;have hR10:=g710 _ _ hR7;simp! [hl10,ax];refine⟨⟨by decide,by decide⟩,by decide,ite2 (fun _=>?_) (fun _=>⟨ze3 hR10,ys,hR10,small1000 (by omega),zar (g7.trans g710) hR,by rw[kK,hn];rfl,_,zgq hp g710 hR10 (h10.mono (by decide))⟩)⟩
  obtain⟨pp,qq,hs1,hpp,hqq,hb1⟩:=h10;simp! [hs1];refine⟨⟨by decide,by decide⟩,_,_,rfl,fun r H11 r11 g11 h11=>?_⟩
  refine⟨60,pp,r,e1.1,r11,rfl,by decide,PtH.mono (hpp.same g11) (by decide),h11,fun s2 H12 e2 g12 h12=>?_⟩
  have g712:=g710.trans (g11.trans g12);have hR12:=g712 _ _ hR7;exact⟨ze3 hR12,ys,hR12,small1000 (by omega),zar (g7.trans g712) hR,by rw[kK,hn];rfl,_,zgq hp g712 hR12 h12⟩
 ·rintro σ H7 ⟨g7,ys,ss,u1,u2,u3,u4,rfl,hR7,hn,hp⟩;simp! [];exact k R ys ss H7 nR (g06.trans g7) hR7 hn hp
theorem ixN_nat{n j:Nat}(h:j<n):ixN n (j:Int)=some j:=by
 unfold ixN;rw[if_pos (by omega),if_pos (by omega),UK]
theorem LR.set{α:Type}{R:Hp->Addr->α->Prop}{H:Hp}{ys:List V}{as:List α}{j:Nat}{p:Addr}{a:α}(h:LR R H ys as)(r:R H p a):LR R H (ys.set j (.ref p)) (as.set j a):=by
 refine⟨by rw[UF,UF,h.1],fun i v z=>?_⟩
 by_cases e:j=i
 ·subst e;have hl:j<ys.length:=by have:=(kG.mp z).1;rwa [UF] at this
  rw[QZ hl] at z
  cases z;exact⟨p,a,rfl,QZ (by rw[←h.1];exact hl),r⟩
 ·rw[Qi e] at z;obtain⟨q,b,e1,e2,r'⟩:=h.2 i v z;exact⟨q,b,e1,by rw[Qi e];exact e2,r'⟩
theorem ok_law_drawn(T:Txt K mg ad fd):FnOk P w K mg base CX0 5 (ad 33) (fd 33) ["_law_cell","_law_many","_law_kind"] sp_qdrawn:=by
 refine T.law_drawn.fn.ok zec (fun vs H Q E h=>?_) (fun cdv A outer s H vs Q E hr h=>?_)
 ·obtain⟨c,m,d,rfl,_⟩:=h;rfl
 obtain⟨c,m,d,rfl,hm,k⟩:=h;have zoa:=@pss7;have zmq:=@zbl;have zms:=@zb3;have qpa2:=@pa2;have qpv:=@pv;have zmo:=@pe_op;have zmm:=@zaz;have zmu:=@ps_if;have zmt:=@zav;have zmr:=@zae;have zmp:=@zao;have zmv:=@zb5;have zn9:=@zfo;unfold L2.CompBody at zn9;have zng:=@zdc;have qpa1:=@pa1;have zmw:=@zby;have znh:=@zfn;have zmn:=@pe_ix;have zna:=@PW.pt;have zny:=@zk5;have znz:=@zir;have zom:=@ps_asg;have zon:=@pg_sub;generalize @L2.PE=QE,@L2.PT=QT,@L2.PW=QW,@L2.PA=QA,@L2.PS=QS,@L2.PSs=QSs,@L2.PG=QG,@L2.PGs=QGs,@L2.PI=QI,@L2.PO=QO,@L2.PIf=QIf at zoa zmq zms qpa2 qpv zmo zmm zmu zmt zmr zmp zmv zn9 zng qpa1 zmw znh zmn zna zny znz zom zon⊢;refine⟨_,
  (zoa
   (zmq (i:=3) zec.nd rfl (Ul rfl) (zms (ok_law_stream T) (hr.mono (by decide)) rfl T.law_stream.mg T.law_stream.fn.kp T.law_stream.bn .nil pass0 (qpa2 (qpv 0) za1 (zmo zal (zmo zer zmm (qpv 1)) zmm) za5)))
   (zmu (zmt op_eq (qpv 2) zmm (nomark _)) (zmr (zmp (zms (ok_law_fan T) (hr.mono (by decide)) rfl T.law_fan.mg T.law_fan.fn.kp T.law_fan.bn .nil pass0 (qpa2 (qpv 3) za1 (qpv 1) za1)))) zmv)
   (zmu (zmt op_eq (qpv 2) zmm (nomark _)) (zmr (zmp (zms (ok_law_net T) (hr.mono (by decide)) rfl T.law_net.mg T.law_net.fn.kp T.law_net.bn .nil pass0 (qpa2 (qpv 3) za1 (qpv 1) za1)))) zmv)
   (zmu (zmt op_eq (qpv 2) zmm (nomark _)) (zmr (zmp (zms (ok_law_row T) (hr.mono (by decide)) rfl T.law_row.mg T.law_row.fn.kp T.law_row.bn .nil pass0 (qpa2 (qpv 3) za1 (qpv 1) za1)))) zmv)
   (zn9 (i:=4) zec.nd rfl (kc rfl) (dsc:=defScope zbj) (N:=["_law_cell","_law_many","_law_kind","_law_xs","_law_parts"]) (own:=["_law_k"]) (ix:=[2,3]) rfl rfl rfl ⟨rfl,by decide+kernel,by decide+kernel,by decide+kernel,by decide+kernel⟩ (zng rfl T.b_range (qpa1 (qpv 1) za1)) (fun cl C fp s2 H2 xe=>⟨(zmw (i:=0) (show uW (["_law_k","_law_kind","_law_xs"]:List Str) from by decide+kernel) rfl (kc rfl)),znh,(zms (zcp T) (hr.mono (by decide)) rfl T.law_part.mg T.law_part.fn.kp T.law_part.bn .nil pass0 (qpa2 (zms (zcw T) (hr.mono (by decide)) rfl T.law_point.mg T.law_point.fn.kp T.law_point.bn .nil pass0 (qpa2 (zmn zaa (qpv 2) (zmo zer zmm (qpv 0)) (fun _ _=>rfl)) za3 (qpv 1) za1)) zak (zms (zcw T) (hr.mono (by decide)) rfl T.law_point.mg T.law_point.fn.kp T.law_point.bn .nil pass0 (qpa2 (zmn zaa (qpv 2) (zmo zal (zmo zer zmm (qpv 0)) zmm) (fun _ _=>rfl)) za3 (qpv 1) za1)) zak))⟩))
   (zmu (zna (zny (zmt op_eq (qpv 2) zmm (nomark _)) (znz (zmt op_gt (qpv 1) zmm (nomark _))))) (zmr (zom (zms (zcp T) (hr.mono (by decide)) rfl T.law_part.mg T.law_part.fn.kp T.law_part.bn .nil pass0 (qpa2 (zmn za0 (zmn zaa (qpv 4) zmm (fun _ _=>rfl)) zmm (fun _ _=>rfl)) za3 (zmn za0 (zmn zaa (qpv 4) zmm (fun _ _=>rfl)) zmm (fun _ _=>rfl)) za3)) (zon (qpv 4) zmm set_list))) zmv)
   (zmp (qpv 4)))
  ,?_⟩
 clear zoa zmq zms qpa2 qpv zmo zmm zmu zmt zmr zmp zmv zn9 zng qpa1 zmw znh zmn zna zny znz zom zon QE QT QW QA QS QSs QG QGs QI QO QIf
 dsimp! [L2.start]
 simp! [];refine⟨.inl ⟨by decide,by decide⟩,c,2*m+4,by push_cast;rfl,by omega,fun L xs H1 nL g1 hL hx=>?_⟩
 simp! [];have fin:∀(R:Addr)(ys:List V)(ss:List (Q3×Q3))(H':Hp),H1 R=none->Same H1 H'->H' R=some (.lst ys)->ys.length=m->LR (StE 61) H' ys ss->Q (.ref R) H':=fun R ys ss H' n g h1 h2 h3=>k R ys ss H' (g1.free n) (g1.trans g) h1 h2 (LRe.mono h3 (by decide))
 refine ite2 (fun _=>⟨L,xs,m,rfl,hm,hL,hx,fin⟩) (fun _=>ite2 (fun _=>⟨L,xs,m,rfl,hm,hL,hx,fin⟩) (fun _=>ite2 (fun _=>⟨L,xs,m,rfl,hm,hL,hx,fin⟩) (fun _=>?_)));refine zax ?_;simp! [iRng1];refine⟨by omega,by omega,fun D hD=>?_⟩
 rw[show((m:Int)).toNat=m by omega]
 refine zfp (n:=m) (fun i ys H'=>Same H1 H'/\H' D=some (.lst ys)/\ys.length=i/\∃ss,LR (StE 61) H' ys ss) ⟨za2 hD _,upd_same,rfl,[],.nil⟩ ?_ ?_
 ·rintro j ys H2 hj ⟨g2,hD2,hn,ss,hp⟩;have hL2:=g2 _ _ hL;obtain⟨y0,ay0⟩:=zdw (xs:=xs) (j:=2*(j:Int)) (by omega) (by omega)
  obtain⟨y1,ay1⟩:=zdw (xs:=xs) (j:=2*(j:Int)+1) (by omega) (by omega)
  simp! [Ut,hL2,ay0];refine⟨.inl ⟨by decide,by decide⟩,_,_,rfl,fun r1 H3 q1 g3' h3=>?_⟩
  have hL3:=g3' _ _ hL2;simp! [Ut,hL3,ay1];refine⟨.inl ⟨by decide,by decide⟩,_,_,rfl,fun r2 H4 q2 g4 h4=>?_⟩
  refine⟨60,r1,r2,q1,q2,rfl,by decide,h3.same g4,h4,fun s' H5 e' g5 h5=>?_⟩
  have g25:=g3'.trans (g4.trans g5);have hD5:=g25 _ _ hD2;exact cw_put hj hD5 (small1000 (by omega)) ⟨zar (g2.trans g25) hD,upd_same,by rw[kK,hn];rfl,_,zgq hp g25 hD5 h5⟩
 ·rintro ys H2 ⟨g,hD2,hn,ss,hp⟩;refine ite2 (fun _=>ite2 (fun c4=>?_) (fun _=>fin D ys ss H2 hD g hD2 hn hp)) (fun _=>fin D ys ss H2 hD g hD2 hn hp);have h4:3<m:=by
   have:(3:Int)<m:=by simpa using c4
   omega
  obtain⟨b0,e0,i0,_,c0,d0,k0,k1,k2,_⟩:=hp.at (j:=0) (by omega)
  obtain⟨b1,e1,i1,_,c1,d1,j0,j1,j2,_⟩:=hp.at (j:=1) (by omega)
  have a0:atI ys 0=some (.ref b0):=zaq (j:=0) i0;have a1:atI ys 1=some (.ref b1):=zaq (j:=1) i1;refine⟨D,rfl,ys,hD2,_,a0,b0,rfl,_,k0,_,at1,D,rfl,ys,hD2,_,a1,b1,rfl,_,j0,_,at0,61,d0,c1,e0.2,e1.1,rfl,by decide,k2,j1,fun s' H3 e' g3 h3=>⟨D,rfl,ys,g3 _ _ hD2,3,ixN_nat (j:=3) (by omega),?_⟩⟩
  have hD3:=g3 _ _ hD2;refine k D _ (ss.set 3 e') _ (g1.free hD) (g1.trans (zar (g.trans g3) hD)) upd_same (by rw[UF];exact hn) ((LR.set ((LRe.mono hp (by decide)).ts zbv (zan g3)) h3).ts zbv (zf8 hD3))
theorem ok_law_comb(T:Txt K mg ad fd):FnOk P w K mg base CX0 1 (ad 34) (fd 34) ["_law_cell"] sp_qcomb:=by
 refine T.law_comb.fn.ok zds (fun vs H Q E h=>?_) (fun cdv A outer s H vs Q E hr h=>?_)
 ·obtain⟨c,rfl,_⟩:=h;rfl
 obtain⟨c,rfl,k⟩:=h;have zn4:=@pss4;have zmq:=@zbl;have zmo:=@pe_op;have zmm:=@zaz;have qpv:=@pv;have zn9:=@zfo;unfold L2.CompBody at zn9;have zng:=@zdc;have qpa1:=@pa1;have zmw:=@zby;have znh:=@zfn;have zmx:=@zcu;have qpa2:=@pa2;have qpa3:=@pa3;have zmp:=@zao;have zn2:=@ze6;generalize @L2.PE=QE,@L2.PT=QT,@L2.PW=QW,@L2.PA=QA,@L2.PS=QS,@L2.PSs=QSs,@L2.PG=QG,@L2.PGs=QGs,@L2.PI=QI,@L2.PO=QO,@L2.PIf=QIf at zn4 zmq zmo zmm qpv zn9 zng qpa1 zmw znh zmx qpa2 qpa3 zmp zn2⊢;refine⟨_,
  (zn4
   (zmq (i:=1) zds.nd rfl (kc rfl) (zmo zal zmm (zmo zaw (qpv 0) zmm)))
   (zmq (i:=2) zds.nd rfl (kc rfl) (zmo zaw (zmo zba (qpv 0) zmm) zmm))
   (zn9 (i:=3) zds.nd rfl (kc rfl) (dsc:=defScope zbx) (N:=["_law_cell","_law_many","_law_low","_law_parts"]) (own:=["_law_k"]) (ix:=[0]) rfl rfl rfl ⟨rfl,by decide+kernel,by decide+kernel,by decide+kernel,by decide+kernel⟩ (zng rfl T.b_range (qpa1 (qpv 1) za1)) (fun cl C fp s2 H2 xe=>⟨(zmw (i:=0) (show uW (["_law_k","_law_cell"]:List Str) from by decide+kernel) rfl (kc rfl)),znh,(zmx (qpa2 (zmx (qpa3 zmm za4 (qpv 0) za1 zmm za4)) zaj (zmx (qpa3 (zmo zal zmm (zmo zaw (zmo zba (zmo zer (qpv 0) (qpv 1)) zmm) zmm)) za5 (qpv 0) za1 zmm za4)) zaj))⟩))
   (zmp (zmo zl2 (qpv 3) (zn2 (qpa2 (zmx (qpa2 (zmx (qpa3 zmm za4 (zmo zbn zmm (qpv 2)) za5 zmm za4)) zaj (zmx (qpa3 zmm za4 (qpv 1) za1 zmm za4)) zaj)) zaj (zmx (qpa2 (zmx (qpa3 zmm za4 (zmo zba (qpv 1) zmm) za5 zmm za4)) zaj (zmx (qpa3 zmm za4 (zmo zal (qpv 1) (qpv 2)) za5 zmm za4)) zaj)) zaj)))))
  ,?_⟩
 clear zn4 zmq zmo zmm qpv zn9 zng qpa1 zmw znh zmx qpa2 qpa3 zmp zn2 QE QT QW QA QS QSs QG QGs QI QO QIf
 dsimp! [L2.start]
 simp! [];have c1:=Qb c (show(21:Int)≠0 by decide)
 have c2:=QP c (show(0:Int)<21 by decide)
 have d1:=Qb (c/21) (show(3:Int)≠0 by decide)
 have d2:=QP (c/21) (show(0:Int)<3 by decide)
 refine⟨by decide,⟨by decide,by decide⟩,by decide,?_⟩
 generalize c%21=cm at*;generalize c/21%3=cl at*;refine zax ?_;simp! [iRng1];refine⟨by omega,by omega,fun D hD=>?_⟩
 have e60:(2:Nat)^60=1152921504606846976:=rfl;refine zfp (n:=(20+cm).toNat) (fun i ys H'=>Same H H'/\H' D=some (.lst ys)/\ys.length=i/\∃ss,LR (StE 61) H' ys ss) ⟨za2 hD _,upd_same,rfl,[],.nil⟩ ?_ ?_
 ·rintro j ys H2 hj ⟨g2,hD2,hn,ss,hp⟩;simp! [Ut];intro p hp1;refine⟨.inl ⟨by omega,by omega⟩,⟨by decide,by decide⟩,by decide,fun p1 hp2 p2 hp3=>?_⟩
  have e1:=Qb ((j:Int)*c/63) (show(9:Int)≠0 by decide)
  have e2:=QP ((j:Int)*c/63) (show(0:Int)<9 by decide)
  generalize (j:Int)*c/63%9=v at*;obtain⟨g,st⟩:=zhl (a:=⟨0,j,1⟩) (b:=⟨1+v,j,1⟩) hp1 hp2 hp3 (zee (by omega) (by omega)) (zee (by omega) (by omega)) (by
   unfold bq;rw[zbs];left;show(0:Int)*1<(1+v)*1;omega)
  exact cw_put hj (g _ _ hD2) (small1000 (by omega)) ⟨zar (g2.trans g) hD,upd_same,by rw[kK,hn];rfl,_,zgq hp g (g _ _ hD2) (StE.mono st (by decide))⟩
 ·rintro ys H2 ⟨g2,hD2,hn,ss,hp⟩;intro p hp1 p1 hp2 p2 hp3;obtain⟨g3,s3⟩:=zhl (a:=⟨0,0-cl,1⟩) (b:=⟨1,20+cm,1⟩) hp1 hp2 hp3 (zee (by omega) (by omega)) (zee (by omega) (by omega)) (by
   unfold bq;rw[zbs];left;show(0:Int)*1<1*1;omega)
  generalize upd (upd (upd H2 p _) p1 _) p2 _=H3 at*;refine⟨⟨by decide,by decide⟩,fun p3 hp4 p4 hp5 p5 hp6=>?_⟩
  obtain⟨g4,s4⟩:=zhl (a:=⟨0,(20+cm)/2,1⟩) (b:=⟨0,20+cm+cl,1⟩) hp4 hp5 hp6 (zee (by omega) (by omega)) (zee (by omega) (by omega)) (by
   unfold bq;rw[zbs];right;refine⟨rfl,?_⟩;show(20+cm)/2*1<(20+cm+cl)*1;omega)
  generalize upd (upd (upd H3 p3 _) p4 _) p5 _=H4 at*;intro q hq;have g5:=za2 hq (HO.lst [V.ref p2,V.ref p5]);have hq5:upd H4 q (HO.lst [V.ref p2,V.ref p5]) q=some (HO.lst [V.ref p2,V.ref p5]):=upd_same;generalize upd H4 q (HO.lst [V.ref p2,V.ref p5])=H5 at*;have g25:=g3.trans (g4.trans g5);refine⟨D,q,ys,[V.ref p2,V.ref p5],rfl,rfl,g25 _ _ hD2,hq5,uI (small1000 (n:=ys.length+2) (by omega)),fun R hR=>?_⟩
  have g6:=za2 hR (HO.lst (ys++[V.ref p2,V.ref p5]));have g26:=g25.trans g6;refine k R _ _ _ ((g2.trans g25).free hR) (g2.trans g26) upd_same ?_ ((hp.ts zbv (zan g26)).app ((LR.one (R:=StE 61) (StE.mono (zbv _ _ _ _ (zan ((g4.trans g5).trans g6)) s3) (by decide))).app (.one (StE.mono (zbv _ _ _ _ (zan (g5.trans g6)) s4) (by decide)))))
  rw[kK,hn];show(20+cm).toNat+2<=42;omega
def offQ(f:Int)(a:Q3):Q3:=⟨a.x+f*a.w,a.y-2*f*a.w,a.w⟩
theorem g3_shiftN(x y w k:Int):g3 (x+k*w) y w=g3 x y w:=by
 have e:∀z:Int,g3 z y w=vX y.natAbs (CJ z w):=fun z=>by
  unfold g3;show _=vX y.natAbs (vX z.natAbs w.natAbs);rw[Aq z.natAbs y.natAbs,jo]
 rw[e,e,Uo w x k]
theorem g3_shiftY(x y w k:Int):g3 x (y+k*w) w=g3 x y w:=by
 have e:∀z:Int,g3 x z w=vX x.natAbs (CJ z w):=fun z=>by
  unfold g3;show _=vX x.natAbs (vX z.natAbs w.natAbs);rw[jo]
 rw[e,e,Uo w y k]
theorem zmg{f:Int}{a:Q3}(hf:f.natAbs<2^60)(h:PQ 62 a):PQ 130 (offQ f a):=by
 have l2f:(2*f).natAbs<2^61:=by
  have:(2*f).natAbs=2*f.natAbs:=by rw[Qy];rfl
  rw[this,gQ];omega
 refine⟨h.pos,?_,?_,?_,zag h.lw (by decide)⟩
 ·show g3 (a.x+f*a.w) (a.y-2*f*a.w) a.w=1
  rw[g3_shiftN,show a.y-2*f*a.w=a.y+ -(2*f)*a.w by rw[ur];omega,g3_shiftY]
  exact h.one
 ·exact zag (zk8 (m:=122) (zag h.lx (by decide)) (zap hf h.lw)) (by decide)
 ·exact zag (zdb (m:=123) (zag h.ly (by decide)) (zap l2f h.lw)) (by decide)
theorem off_bq{f:Int}{a b:Q3}(ha:0<a.w)(hb:0<b.w)(h:bq a b=true):bq (offQ f a) (offQ f b)=true:=by
 unfold bq at*;rw[zbs] at*;unfold offQ;have e1:(a.x+f*a.w)*b.w=a.x*b.w+f*(a.w*b.w):=by grind
 have e2:(b.x+f*b.w)*a.w=b.x*a.w+f*(a.w*b.w):=by grind
 have e3:(a.y-2*f*a.w)*b.w=a.y*b.w-2*f*(a.w*b.w):=by grind
 have e4:(b.y-2*f*b.w)*a.w=b.y*a.w-2*f*(a.w*b.w):=by grind
 dsimp only;rw[e1,e2,e3,e4];omega
theorem ok_law_put_off(T:Txt K mg ad fd):FnOk P w K mg base CX0 1 (ad 35) (fd 35) ["_law_parts","_law_far"] sp_qoff:=by
 refine T.law_put_off.fn.ok zc4 (fun vs H Q E h=>?_) (fun cdv A outer s H vs Q E hr h=>?_)
 ·obtain⟨l,ys,ss,f,rfl,_⟩:=h;rfl
 obtain⟨l,ys,ss,f,rfl,hf,hl,hn,hs,k⟩:=h;have zn7:=@pss3;have zmq:=@zbl;have zn2:=@ze6;have zn6:=@zde;have zn0:=@ze4;have zn1:=@zdl;have qpv:=@pv;have zo3:=@zkb;have znk:=@zg5;have zmw:=@zby;have zno:=@zhj;have zmz:=@pss2;have zmx:=@zcu;have qpa3:=@pa3;have zmo:=@pe_op;have zmn:=@pe_ix;have zmm:=@zaz;have zn5:=@zdz;have zn8:=@pe_bm;have qpa1:=@pa1;have qpa2:=@pa2;have zmp:=@zao;generalize @L2.PE=QE,@L2.PT=QT,@L2.PW=QW,@L2.PA=QA,@L2.PS=QS,@L2.PSs=QSs,@L2.PG=QG,@L2.PGs=QGs,@L2.PI=QI,@L2.PO=QO,@L2.PIf=QIf at zn7 zmq zn2 zn6 zn0 zn1 qpv zo3 znk zmw zno zmz zmx qpa3 zmo zmn zmm zn5 zn8 qpa1 qpa2 zmp⊢;refine⟨_,
  (zn7
   (zmq (i:=2) zc4.nd rfl (kc rfl) (zn2 zn6))
   (zn0 pM rfl (zn1 (qpv 0)) (zo3 (n:=2) rfl (znk (zmw (i:=3) zc4.nd rfl (kc rfl)) (znk (zmw (i:=4) zc4.nd rfl (kc rfl)) zno))) (zmz
   (zmq (i:=5) zc4.nd rfl (kc rfl) (zmx (qpa3 (zmo zal (zmn za0 (qpv 3) zmm (fun _ _=>rfl)) (zmo za9 (qpv 1) (zmn za0 (qpv 3) zmm (fun _ _=>rfl)))) za5 (zmo zbn (zmn za0 (qpv 3) zmm (fun _ _=>rfl)) (zmo za9 (zmo zer zmm (qpv 1)) (zmn za0 (qpv 3) zmm (fun _ _=>rfl)))) za5 (zmn za0 (qpv 3) zmm (fun _ _=>rfl)) za3)))
   (zn5 (zn8 pV uQ uR zcg (qpv 2) (qpa1 (zmx (qpa2 (qpv 5) za1 (zmx (qpa3 (zmo zal (zmn za0 (qpv 4) zmm (fun _ _=>rfl)) (zmo za9 (qpv 1) (zmn za0 (qpv 4) zmm (fun _ _=>rfl)))) za5 (zmo zbn (zmn za0 (qpv 4) zmm (fun _ _=>rfl)) (zmo za9 (zmo zer zmm (qpv 1)) (zmn za0 (qpv 4) zmm (fun _ _=>rfl)))) za5 (zmn za0 (qpv 4) zmm (fun _ _=>rfl)) za3)) zaj)) zaj)))))
   (zmp (qpv 2)))
  ,?_⟩
 clear zn7 zmq zn2 zn6 zn0 zn1 qpv zo3 znk zmw zno zmz zmx qpa3 zmo zmn zmm zn5 zn8 qpa1 qpa2 zmp QE QT QW QA QS QSs QG QGs QI QO QIf
 dsimp! [L2.start]
 simp! [];intro R hR;have gR:=za2 hR (HO.lst []);refine zbz ?_;simp! [iList];refine⟨⟨_,.of (gR _ _ hl)⟩,?_⟩;refine zdp (K:=K) (a:=l) (xs:=ys) (fun i σ H'=>Same H H'/\∃(zs:List V)(ts:List (Q3×Q3))(u1 u2 u3:Option V),σ=[some (V.ref l),some (.int f),some (V.ref R),u1,u2,u3]/\H' R=some (.lst zs)/\zs.length=i/\LR (StE 130) H' zs ts) ⟨gR,[],[],none,none,none,rfl,upd_same,rfl,.nil⟩ (fun i σ H' _ iv=>.of (iv.1 _ _ hl)) ?_ ?_
 ·intro _ _;rintro i v σ H2 hi ⟨g2,zs,ts,u1,u2,u3,rfl,hR2,hz,ht⟩;obtain⟨p,e,rfl,he,c,d,h1,h2,h3,hb⟩:=hs.2 i v hi;have h1':=g2 _ _ h1;have h2':=g2 _ _ h2.1;have h3':=g2 _ _ h3.1;simp! [h1',h2'];have l1:=h2.2;have l2:=h3.2;have l2f:(2*f).natAbs<2^61:=by
   have:(2*f).natAbs=2*f.natAbs:=by rw[Qy];rfl
   rw[this,gQ];omega
  refine⟨cbig hf l1.lw,.inl ⟨by decide,by decide⟩,cbig l2f l1.lw,fun p1 hp1=>?_⟩
  have g3:=za2 hp1 (HO.tup [V.int (e.1.x+f*e.1.w),V.int (e.1.y-2*f*e.1.w),V.int e.1.w]);have hq3:upd H2 p1 (HO.tup [V.int (e.1.x+f*e.1.w),V.int (e.1.y-2*f*e.1.w),V.int e.1.w]) p1=some (HO.tup [V.int (e.1.x+f*e.1.w),V.int (e.1.y-2*f*e.1.w),V.int e.1.w]):=upd_same;generalize upd H2 p1 (HO.tup [V.int (e.1.x+f*e.1.w),V.int (e.1.y-2*f*e.1.w),V.int e.1.w])=H3 at*;have h33:=g3 _ _ h3';simp! [h33];refine⟨ze3 (g3 _ _ hR2),cbig hf l2.lw,.inl ⟨by decide,by decide⟩,cbig l2f l2.lw,fun p2 hp2=>?_⟩
  have g4:=za2 hp2 (HO.tup [V.int (e.2.x+f*e.2.w),V.int (e.2.y-2*f*e.2.w),V.int e.2.w]);have hq4:upd H3 p2 (HO.tup [V.int (e.2.x+f*e.2.w),V.int (e.2.y-2*f*e.2.w),V.int e.2.w]) p2=some (HO.tup [V.int (e.2.x+f*e.2.w),V.int (e.2.y-2*f*e.2.w),V.int e.2.w]):=upd_same;generalize upd H3 p2 (HO.tup [V.int (e.2.x+f*e.2.w),V.int (e.2.y-2*f*e.2.w),V.int e.2.w])=H4 at*;intro p3 hp3;have g5:=za2 hp3 (HO.tup [V.ref p1,V.ref p2]);have hq5:upd H4 p3 (HO.tup [V.ref p1,V.ref p2]) p3=some (HO.tup [V.ref p1,V.ref p2]):=upd_same;generalize upd H4 p3 (HO.tup [V.ref p1,V.ref p2])=H5 at*;have g25:=g3.trans (g4.trans g5);have hR5:=g25 _ _ hR2;have st:StE 130 H5 p3 (offQ f e.1,offQ f e.2):=⟨p1,p2,hq5,⟨g5 _ _ (g4 _ _ hq3),zmg hf l1⟩,⟨g5 _ _ hq4,zmg hf l2⟩,off_bq l1.pos l2.pos hb⟩;exact⟨zs,hR5,small1000 (by have:=(kG.mp hi).1;omega),zar (g2.trans g25) hR,by rw[kK,hz];rfl,_,zgq ht g25 hR5 st⟩
 ·rintro σ H2 ⟨g2,zs,ts,u1,u2,u3,rfl,hR2,hz,ht⟩;simp! [];exact k R zs ts H2 hR g2 hR2 hz ht
theorem zkv(xs:List V)(n:Nat)(h:n<=xs.length):cutV xs none (some (n:Int))=xs.take n:=by
 unfold cutV;rw[HT.sIx_nat,HT.sIx_none,UT,Am,UI h]
theorem zhh(xs:List V)(n:Nat)(h:n<=xs.length):cutV xs (some (n:Int)) none=xs.drop n:=by
 unfold cutV;rw[HT.sIx_nat,HT.sIx_none,UI h,kx (by rw[ki];omega)]
theorem ok_law_stretches(T:Txt K mg ad fd):FnOk P w K mg base CX0 6 (ad 36) (fd 36) ["_law_script","_law_start","_law_most"] (sp_qstr K):=by
 refine T.law_stretches.fn.ok zac (fun vs H Q E h=>?_) (fun cdv A outer s H vs Q E hr h=>?_)
 ·obtain⟨a,ns,k,m,rfl,_⟩:=h;rfl
 obtain⟨a,ns,ks,m,rfl,hS,hn,hk,hm,k⟩:=h;obtain⟨tl,htl,hk2⟩:∃tl,PSs (cxOf CX0 P w K mg base ["_law_script","_law_start","_law_most","_law_first","_law_cell","_law_many","_law_parts","_law_k","_law_at","_law_one"] "_law_stretches" (defScope zad) (ad 36) cdv A outer s H E).nox ((defBody zad).drop 6) tl/\∀(R:Addr)(ys:List V)(ss:List (Q3×Q3))(H1:Hp)(F C M:Int),H R=none->Same H H1->H1 R=some (.lst ys)->ys.length<=42->LR (StE 130) H1 ys ss->
   tl {nx:=fun _ H'=>Q .non H',rt:=Q} [some (.ref a),some (.int ks),some (.int m),some (.int F),some (.int C),some (.int M),some (.ref R),none,none,none] H1:=by
  have zmz:=@pss2;have zn0:=@ze4;have zob:=@zij;have qpa2:=@pa2;have zmo:=@pe_op;have qpv:=@pv;have zmm:=@zaz;have zmy:=@zc5;have qpa1:=@pa1;have zmw:=@zby;have zn4:=@pss4;have zmq:=@zbl;have zmn:=@pe_ix;have zms:=@zb3;have zmu:=@ps_if;have zna:=@PW.pt;have zny:=@zk5;have zmt:=@zav;have znz:=@zir;have zmr:=@zae;have zmv:=@zb5;have znt:=@zhn;have znv:=@ziz;have znu:=@ziv;have zn2:=@ze6;have zmp:=@zao;generalize @L2.PE=QE,@L2.PT=QT,@L2.PW=QW,@L2.PA=QA,@L2.PS=QS,@L2.PSs=QSs,@L2.PG=QG,@L2.PGs=QGs,@L2.PI=QI,@L2.PO=QO,@L2.PIf=QIf at zmz zn0 zob qpa2 zmo qpv zmm zmy qpa1 zmw zn4 zmq zmn zms zmu zna zny zmt znz zmr zmv znt znv znu zn2 zmp⊢;refine⟨_,
  (zmz
   (zn0 pM rfl (zob rfl T.b_range (qpa2 (zmo zal (qpv 1) zmm) za5 (zmy (zim rfl) rfl T.b_min zmd (qpa2 (zmy ze7 rfl T.b_len zdd (qpa1 (qpv 0) za1)) zak (zmo zal (qpv 1) zmm) za5)) zak)) (zmw (i:=7) zac.nd rfl (kc rfl)) (zn4
   (zmq (i:=8) zac.nd rfl (kc rfl) (zmo zgo (zmo zba (zmn zf3 (qpv 0) (qpv 7) (fun _ _=>rfl)) zmm) (zmo zal (zmy zbw rfl T.b_len zdd (qpa1 (qpv 6) za1)) zmm)))
   (zmq (i:=9) zac.nd rfl (kc rfl) (zms (zcp T) (hr.mono (by decide)) rfl T.law_part.mg T.law_part.fn.kp T.law_part.bn .nil pass0 (qpa2 (zms (zcw T) (hr.mono (by decide)) rfl T.law_point.mg T.law_point.fn.kp T.law_point.bn .nil pass0 (qpa2 (zmo zba (zmn zf3 (qpv 0) (qpv 7) (fun _ _=>rfl)) zmm) za5 zmm za4)) zak (zms (zcw T) (hr.mono (by decide)) rfl T.law_point.mg T.law_point.fn.kp T.law_point.bn .nil pass0 (qpa2 (zmo zba (zmn zf3 (qpv 0) (qpv 7) (fun _ _=>rfl)) zmm) za5 zmm za4)) zak)))
   (zmu (zna (zny (zmt op_eq (zmo zaw (zmn zf3 (qpv 0) (qpv 7) (fun _ _=>rfl)) zmm) zmm (nomark _)) (znz (zmt op_gt (zmy zbw rfl T.b_len zdd (qpa1 (qpv 6) za1)) zmm (nomark _))))) (zmr (zmq (i:=9) zac.nd rfl (kc rfl) (zmn zaa (qpv 6) (zmo zgo (zmo zba (zmn zf3 (qpv 0) (qpv 7) (fun _ _=>rfl)) zmm) (zmy zbw rfl T.b_len zdd (qpa1 (qpv 6) za1))) (fun _ _=>rfl)))) zmv)
   (zmq (i:=6) zac.nd rfl (kc rfl) (zmo zl2 (zmo zl2 (znt zek (qpv 6) znv (znu (qpv 8))) (zn2 (qpa1 (qpv 9) za1))) (znt zek (qpv 6) (znu (qpv 8)) znv)))))
   (zmp (qpv 6)))
   ,fun R ys ss H1 F C M nR g1 hR hl hs=>?_⟩
  clear zmz zn0 zob qpa2 zmo qpv zmm zmy qpa1 zmw zn4 zmq zmn zms zmu zna zny zmt znz zmr zmv znt znv znu zn2 zmp QE QT QW QA QS QSs QG QGs QI QO QIf;simp! [];refine zbz ?_;simp! [iRng2];refine⟨_,.inl (g1.seq hS),by omega,by omega,by rw[kN];split<;>omega,by rw[kN];split<;>omega,?_⟩
  rw[kN];have cn:((if(ks:Int)+5<(ns.length:Int) then(ks:Int)+5 else(ns.length:Int))-((ks:Int)+2)).toNat<=3/\∀i:Nat,i<((if(ks:Int)+5<(ns.length:Int) then(ks:Int)+5 else(ns.length:Int))-((ks:Int)+2)).toNat->ks+2+i<ns.length:=by
   split
   ·exact⟨by omega,fun i hi=>by omega⟩
   ·exact⟨by omega,fun i hi=>by omega⟩
  generalize ((if(ks:Int)+5<(ns.length:Int) then(ks:Int)+5 else(ns.length:Int))-((ks:Int)+2)).toNat=cnt at*;obtain⟨cn1,cn2⟩:=cn;refine zd4 (lo:=(ks:Int)+2) (n:=cnt) (fun i σ H'=>∃(R:Addr)(ys:List V)(ss:List (Q3×Q3))(u1 u2 u3:Option V),σ=[some (.ref a),some (.int ks),some (.int m),some (.int F),some (.int C),some (.int M),some (.ref R),u1,u2,u3]/\Same H H'/\H R=none/\H' R=some (.lst ys)/\ys.length<=42+i/\LR (StE 130) H' ys ss) ⟨R,ys,ss,none,none,none,rfl,g1,nR,hR,hl,hs⟩ ?_ ?_
  ·intro _ _;rintro i σ H2 hi ⟨R,ys,ss,u1,u2,u3,rfl,g2,nR,hR2,hl2,hs2⟩;have hki:=cn2 i hi;obtain⟨x,ax⟩:=zdw (xs:=ns) (j:=(ks:Int)+2+(i:Int)) (by omega) (by omega)
   have hS2:=g2.seq hS;simp! [hR2];refine⟨_,hS2,_,ax,x,rfl,⟨by decide,by decide⟩,by omega,_,hS2,_,ax,x,rfl,⟨by decide,by decide⟩,_,_,rfl,fun r1 H3 q1 g3 h3=>?_⟩
   have hS3:=g3.seq hS2;refine⟨_,hS3,_,ax,x,rfl,⟨by decide,by decide⟩,_,_,rfl,fun r2 H4 q2 g4 h4=>?_⟩
   refine⟨60,r1,r2,q1,q2,rfl,by decide,h3.same g4,h4,fun so H5 eo g5 h5=>?_⟩
   have g25:=g3.trans (g4.trans g5);have hS5:=g25.seq hS2;have hR5:=g25 _ _ hR2;have hs5:=hs2.ts zbv (zan g25);have h5':StE 130 H5 so eo:=StE.mono h5 (by decide)
   refine⟨_,hS5,_,ax,x,rfl,by decide,?_⟩
   obtain⟨at_,ea,la⟩:∃n:Nat,(x/2).fmod ((ys.length:Int)+1)=(n:Int)/\n<=ys.length:=by
    have f0:0<=(x/2).fmod ((ys.length:Int)+1):=by rw[uG _ (by omega)];exact Qb _ (by omega)
    have f1:(x/2).fmod ((ys.length:Int)+1)<ys.length+1:=by rw[uG _ (by omega)];exact QP _ (by omega)
    exact⟨((x/2).fmod ((ys.length:Int)+1)).toNat,(jC f0).symm,by omega⟩
   rw[ea];refine ite2 (fun _=>⟨ys,.inl hR5,ite2 (fun c=>?_) (fun _=>?_)⟩) (fun _=>?_)
   ·have c':0<ys.length:=by
     have:(0:Int)<ys.length:=by simpa using c
     omega
    obtain⟨ix,ei,li⟩:∃n:Nat,(x/20).fmod (ys.length:Int)=(n:Int)/\n<ys.length:=by
     have f0:0<=(x/20).fmod (ys.length:Int):=by rw[uG _ (by omega)];exact Qb _ (by omega)
     have f1:(x/20).fmod (ys.length:Int)<ys.length:=by rw[uG _ (by omega)];exact QP _ (by omega)
     exact⟨((x/20).fmod (ys.length:Int)).toNat,(jC f0).symm,by omega⟩
    obtain⟨vo,eo',i1,i2,hvo⟩:=hs5.at li;refine⟨_,hS5,_,ax,x,rfl,⟨by decide,by decide⟩,ys,.inl hR5,by omega,ys,hR5,V.ref vo,by rw[ei];exact zaq i1,?_⟩
    refine⟨ys,hR5,fun p1 n1 p2 n2=>?_⟩;rw[zkv ys at_ la] at n2⊢;have g6:=za2 n1 (HO.lst (ys.take at_));have e6:upd H5 p1 (HO.lst (ys.take at_)) p1=some (HO.lst (ys.take at_)):=upd_same;generalize upd H5 p1 (HO.lst (ys.take at_))=H6 at*;have g7:=za2 n2 (HO.lst [V.ref vo]);have e7:upd H6 p2 (HO.lst [V.ref vo]) p2=some (HO.lst [V.ref vo]):=upd_same;generalize upd H6 p2 (HO.lst [V.ref vo])=H7 at*;refine⟨p1,p2,ys.take at_,[V.ref vo],rfl,rfl,g7 _ _ e6,e7,uI (small1000 (n:=(ys.take at_).length+1) (by rw[kP];omega)),fun p3 n3=>?_⟩
    have g8:=za2 n3 (HO.lst (ys.take at_++[V.ref vo]));have e8:upd H7 p3 (HO.lst (ys.take at_++[V.ref vo])) p3=some (HO.lst (ys.take at_++[V.ref vo])):=upd_same;generalize upd H7 p3 (HO.lst (ys.take at_++[V.ref vo]))=H8 at*;have g58:=g6.trans (g7.trans g8);refine⟨ys,g58 _ _ hR5,fun p4 n4=>?_⟩;rw[zhh ys at_ la];have g9:=za2 n4 (HO.lst (ys.drop at_));have e9:upd H8 p4 (HO.lst (ys.drop at_)) p4=some (HO.lst (ys.drop at_)):=upd_same;generalize upd H8 p4 (HO.lst (ys.drop at_))=H9 at*;refine⟨p3,p4,ys.take at_++[V.ref vo],ys.drop at_,rfl,rfl,g9 _ _ e8,e9,uI (small1000 (n:=(ys.take at_++[V.ref vo]).length+(ys.drop at_).length) (by rw[kK,kP,ki];show _+1+_<=_;omega)),fun p5 n5=>?_⟩
    have g10:=za2 n5 (HO.lst (ys.take at_++[V.ref vo]++ys.drop at_));have g510:=g58.trans (g9.trans g10);have s10:=zan g510;exact⟨p5,rfl,g2.trans (g25.trans g510),(g2.trans (g25.trans (g58.trans g9))).free n5,_,upd_same,by rw[kK,kK,kP,ki];show _+1+_<=_;omega,_,(((hs5.take at_).ts zbv s10).app (.one (zbv _ _ _ _ s10 hvo))).app ((hs5.drop at_).ts zbv s10)⟩
   ·skip
    refine⟨ys,hR5,fun p1 n1 p2 n2=>?_⟩;rw[zkv ys at_ la] at n2⊢;have g6:=za2 n1 (HO.lst (ys.take at_));have e6:upd H5 p1 (HO.lst (ys.take at_)) p1=some (HO.lst (ys.take at_)):=upd_same;generalize upd H5 p1 (HO.lst (ys.take at_))=H6 at*;have g7:=za2 n2 (HO.lst [V.ref so]);have e7:upd H6 p2 (HO.lst [V.ref so]) p2=some (HO.lst [V.ref so]):=upd_same;generalize upd H6 p2 (HO.lst [V.ref so])=H7 at*;refine⟨p1,p2,ys.take at_,[V.ref so],rfl,rfl,g7 _ _ e6,e7,uI (small1000 (n:=(ys.take at_).length+1) (by rw[kP];omega)),fun p3 n3=>?_⟩
    have g8:=za2 n3 (HO.lst (ys.take at_++[V.ref so]));have e8:upd H7 p3 (HO.lst (ys.take at_++[V.ref so])) p3=some (HO.lst (ys.take at_++[V.ref so])):=upd_same;generalize upd H7 p3 (HO.lst (ys.take at_++[V.ref so]))=H8 at*;have g58:=g6.trans (g7.trans g8);refine⟨ys,g58 _ _ hR5,fun p4 n4=>?_⟩;rw[zhh ys at_ la];have g9:=za2 n4 (HO.lst (ys.drop at_));have e9:upd H8 p4 (HO.lst (ys.drop at_)) p4=some (HO.lst (ys.drop at_)):=upd_same;generalize upd H8 p4 (HO.lst (ys.drop at_))=H9 at*;refine⟨p3,p4,ys.take at_++[V.ref so],ys.drop at_,rfl,rfl,g9 _ _ e8,e9,uI (small1000 (n:=(ys.take at_++[V.ref so]).length+(ys.drop at_).length) (by rw[kK,kP,ki];show _+1+_<=_;omega)),fun p5 n5=>?_⟩
    have g10:=za2 n5 (HO.lst (ys.take at_++[V.ref so]++ys.drop at_));have g510:=g58.trans (g9.trans g10);have s10:=zan g510;exact⟨p5,rfl,g2.trans (g25.trans g510),(g2.trans (g25.trans (g58.trans g9))).free n5,_,upd_same,by rw[kK,kK,kP,ki];show _+1+_<=_;omega,_,(((hs5.take at_).ts zbv s10).app (.one (zbv _ _ _ _ s10 h5'))).app ((hs5.drop at_).ts zbv s10)⟩
   ·skip
    refine⟨ys,hR5,fun p1 n1 p2 n2=>?_⟩;rw[zkv ys at_ la] at n2⊢;have g6:=za2 n1 (HO.lst (ys.take at_));have e6:upd H5 p1 (HO.lst (ys.take at_)) p1=some (HO.lst (ys.take at_)):=upd_same;generalize upd H5 p1 (HO.lst (ys.take at_))=H6 at*;have g7:=za2 n2 (HO.lst [V.ref so]);have e7:upd H6 p2 (HO.lst [V.ref so]) p2=some (HO.lst [V.ref so]):=upd_same;generalize upd H6 p2 (HO.lst [V.ref so])=H7 at*;refine⟨p1,p2,ys.take at_,[V.ref so],rfl,rfl,g7 _ _ e6,e7,uI (small1000 (n:=(ys.take at_).length+1) (by rw[kP];omega)),fun p3 n3=>?_⟩
    have g8:=za2 n3 (HO.lst (ys.take at_++[V.ref so]));have e8:upd H7 p3 (HO.lst (ys.take at_++[V.ref so])) p3=some (HO.lst (ys.take at_++[V.ref so])):=upd_same;generalize upd H7 p3 (HO.lst (ys.take at_++[V.ref so]))=H8 at*;have g58:=g6.trans (g7.trans g8);refine⟨ys,g58 _ _ hR5,fun p4 n4=>?_⟩;rw[zhh ys at_ la];have g9:=za2 n4 (HO.lst (ys.drop at_));have e9:upd H8 p4 (HO.lst (ys.drop at_)) p4=some (HO.lst (ys.drop at_)):=upd_same;generalize upd H8 p4 (HO.lst (ys.drop at_))=H9 at*;refine⟨p3,p4,ys.take at_++[V.ref so],ys.drop at_,rfl,rfl,g9 _ _ e8,e9,uI (small1000 (n:=(ys.take at_++[V.ref so]).length+(ys.drop at_).length) (by rw[kK,kP,ki];show _+1+_<=_;omega)),fun p5 n5=>?_⟩
    have g10:=za2 n5 (HO.lst (ys.take at_++[V.ref so]++ys.drop at_));have g510:=g58.trans (g9.trans g10);have s10:=zan g510;exact⟨p5,rfl,g2.trans (g25.trans g510),(g2.trans (g25.trans (g58.trans g9))).free n5,_,upd_same,by rw[kK,kK,kP,ki];show _+1+_<=_;omega,_,(((hs5.take at_).ts zbv s10).app (.one (zbv _ _ _ _ s10 h5'))).app ((hs5.drop at_).ts zbv s10)⟩
  ·rintro σ H2 ⟨R,ys,ss,u1,u2,u3,rfl,g2,nR,hR2,hl2,hs2⟩;simp! [];exact k R ys ss H2 nR g2 hR2 (by omega) hs2
 obtain⟨tl1,htl1,hk1⟩:∃tl,PSs (cxOf CX0 P w K mg base ["_law_script","_law_start","_law_most","_law_first","_law_cell","_law_many","_law_parts","_law_k","_law_at","_law_one"] "_law_stretches" (defScope zad) (ad 36) cdv A outer s H E).nox ((defBody zad).drop 5) tl/\∀(R:Addr)(ys:List V)(ss:List (Q3×Q3))(H1:Hp)(F C M:Int),H R=none->Same H H1->H1 R=some (.lst ys)->ys.length<=42->LR (StE 62) H1 ys ss->
   tl {nx:=fun _ H'=>Q .non H',rt:=Q} [some (.ref a),some (.int ks),some (.int m),some (.int F),some (.int C),some (.int M),some (.ref R),none,none,none] H1:=by
  have znn:=@za7;have zmu:=@ps_if;have zmt:=@zav;have zmo:=@pe_op;have qpv:=@pv;have zmm:=@zaz;have zmr:=@zae;have zmq:=@zbl;have zms:=@zb3;have qpa2:=@pa2;have zmn:=@pe_ix;have zn2:=@ze6;have zmv:=@zb5;generalize @L2.PE=QE,@L2.PT=QT,@L2.PW=QW,@L2.PA=QA,@L2.PS=QS,@L2.PSs=QSs,@L2.PG=QG,@L2.PGs=QGs,@L2.PI=QI,@L2.PO=QO,@L2.PIf=QIf at znn zmu zmt zmo qpv zmm zmr zmq zms qpa2 zmn zn2 zmv htl⊢;refine⟨_,
  (znn (zmu (zmt op_eq (zmo zaw (qpv 4) zmm) zmm (nomark _)) (zmr (zmq (i:=6) zac.nd rfl (kc rfl) (zms (ok_law_put_off T) (hr.mono (by decide)) rfl T.law_put_off.mg T.law_put_off.fn.kp T.law_put_off.bn .nil pass0 (qpa2 (qpv 6) za1 (zmn zaa (zn2 (qpa2 (zmo zal (zmo zmk zmm zmm) zmm) za5 (zmo zbn zmm (zmo zmk zmm zmm)) za5)) (zmo zaw (zmo zba (qpv 4) zmm) zmm) (fun _ _=>rfl)) za3)))) zmv)
   htl)
   ,fun R ys ss H1 F C M nR g1 hR hl hs=>?_⟩
  clear htl znn zmu zmt zmo qpv zmm zmr zmq zms qpa2 zmn zn2 zmv QE QT QW QA QS QSs QG QGs QI QO QIf;simp! [];refine⟨by decide,ite2 (fun _=>?_) (fun _=>?_)⟩
  ·refine⟨⟨by decide,by decide,by decide⟩,⟨by decide,by decide,by decide⟩,fun p hp=>⟨⟨by decide,by decide⟩,by decide,?_⟩⟩
   have g2:=za2 hp (HO.lst [V.int (10^vN 12+7),V.int (0-10^vN 18)]);generalize upd H1 p (HO.lst [V.int (10^vN 12+7),V.int (0-10^vN 18)])=H2 at*;obtain⟨f,af,lf⟩:∃f:Int,atI [V.int (10^vN 12+7),V.int (0-10^vN 18)] (C/16%2)=some (V.int f)/\f.natAbs<2^60:=by
    rcases(by omega:C/16%2=0∨C/16%2=1) with e|e
    ·rw[e];exact⟨_,at0,by decide+kernel⟩
    ·rw[e];exact⟨_,at1,by decide+kernel⟩
   exact⟨_,af,R,ys,ss,f,rfl,lf,g2 _ _ hR,hl,hs.ts zbv (zan g2),fun R2 zs ts H3 nR2 g3 hR3 hz ht=>hk2 R2 zs ts H3 F C M ((g1.trans g2).free nR2) (g1.trans (g2.trans g3)) hR3 (by omega) ht⟩
  ·exact hk2 R ys ss H1 F C M nR g1 hR hl (LRe.mono hs (by decide))
 have znn:=@za7;have zmq:=@zbl;have zms:=@zb3;have qpa2:=@pa2;have qpv:=@pv;have zmo:=@pe_op;have zmm:=@zaz;have qpa3:=@pa3;have zmu:=@ps_if;have zmt:=@zav;have zmr:=@zae;have qpa1:=@pa1;have zmv:=@zb5;generalize @L2.PE=QE,@L2.PT=QT,@L2.PW=QW,@L2.PA=QA,@L2.PS=QS,@L2.PSs=QSs,@L2.PG=QG,@L2.PGs=QGs,@L2.PI=QI,@L2.PO=QO,@L2.PIf=QIf at znn zmq zms qpa2 qpv zmo zmm qpa3 zmu zmt zmr qpa1 zmv htl1⊢;refine⟨_,
  (znn (zmq (i:=3) zac.nd rfl (kc rfl) (zms (zdn T) (hr.mono (by decide)) rfl T.law_cell_at.mg T.law_cell_at.fn.kp T.law_cell_at.bn .nil pass0 (qpa2 (qpv 0) za1 (qpv 1) za1)))
   (znn (zmq (i:=4) zac.nd rfl (kc rfl) (zmo zcs (qpv 3) (zmo zal (zmo zer zmm (qpv 2)) zmm)))
   (znn (zmq (i:=5) zac.nd rfl (kc rfl) (zmo zgo (qpv 3) (zmo zal (qpv 2) zmm)))
   (znn (zmq (i:=6) zac.nd rfl (kc rfl) (zms (ok_law_drawn T) (hr.mono (by decide)) rfl T.law_drawn.mg T.law_drawn.fn.kp T.law_drawn.bn .nil pass0 (qpa3 (zms (zdn T) (hr.mono (by decide)) rfl T.law_cell_at.mg T.law_cell_at.fn.kp T.law_cell_at.bn .nil pass0 (qpa2 (qpv 0) za1 (zmo zal (qpv 1) zmm) za5)) zak (qpv 5) za1 (zmo zaw (zmo zcs (qpv 3) (zmo zal (qpv 2) zmm)) zmm) za5)))
   (znn (zmu (zmt op_eq (zmo zaw (qpv 4) zmm) zmm (nomark _)) (zmr (zmq (i:=6) zac.nd rfl (kc rfl) (zms (ok_law_comb T) (hr.mono (by decide)) rfl T.law_comb.mg T.law_comb.fn.kp T.law_comb.bn .nil pass0 (qpa1 (zms (zdn T) (hr.mono (by decide)) rfl T.law_cell_at.mg T.law_cell_at.fn.kp T.law_cell_at.bn .nil pass0 (qpa2 (qpv 0) za1 (zmo zal (qpv 1) zmm) za5)) zak)))) zmv)
   htl1)))))
  ,?_⟩
 clear htl1 znn zmq zms qpa2 qpv zmo zmm qpa3 zmu zmt zmr qpa1 zmv QE QT QW QA QS QSs QG QGs QI QO QIf;simp! [zk7];have m6:((6:Int)*m+6).natAbs<2^8:=by
  have:(2:Nat)^8=256:=rfl;omega
 have m1:((m:Int)+1).natAbs<2^8:=by
  have:(2:Nat)^8=256:=rfl;omega
 refine⟨ns,hS,by omega,.inl ⟨by decide,by decide⟩,cdivb (by omega) m6,by omega,ns,hS,by omega,cdivb (by omega) m1,by decide,?_⟩
 generalize ns.getD (ks:Int).toNat 0=F at*;have f0:0<=F.fmod ((m:Int)+1):=by rw[uG _ (by omega)];exact Qb _ (by omega)
 have f1:F.fmod ((m:Int)+1)<m+1:=by rw[uG _ (by omega)];exact QP _ (by omega)
 refine⟨_,(F.fmod ((m:Int)+1)).toNat,_,by rw[jC f0],by omega,fun R ys ss H1 nR g1 hR hl hs=>?_⟩
 exact⟨by decide,ite2 (fun _=>⟨ns,g1.seq hS,by omega,_,rfl,fun R2 ys2 ss2 H2 nR2 g2 hR2 hl2 hs2=>hk1 R2 ys2 ss2 H2 _ _ _ (g1.free nR2) (g1.trans g2) hR2 hl2 (LRe.mono hs2 (by decide))⟩) (fun _=>hk1 R ys ss H1 _ _ _ nR g1 hR (by omega) hs)⟩
theorem zeu(T:Txt K mg ad fd):FnOk P w K mg base CX0 1 (ad 0) (fd 0) ["thing"] zfa:=by
 refine T.is_whole.fn.ok sc_is_whole (fun vs H Q E h=>?_) (fun cdv A outer s H vs Q E hr h=>?_)
 ·obtain⟨i,rfl,_⟩:=h;rfl
 obtain⟨i,rfl,q⟩:=h;have zmr:=@zae;have zmp:=@zao;have zo0:=@zkp;have zmy:=@zc5;have qpa2:=@pa2;have qpv:=@pv;have zni:=@zfr;have zo1:=@zk9;have znx:=@zlj;generalize @L2.PE=QE,@L2.PT=QT,@L2.PW=QW,@L2.PA=QA,@L2.PS=QS,@L2.PSs=QSs,@L2.PG=QG,@L2.PGs=QGs,@L2.PI=QI,@L2.PO=QO,@L2.PIf=QIf at zmr zmp zo0 zmy qpa2 qpv zni zo1 znx⊢;refine⟨_,
  (zmr (zmp (zo0 (zmy (isiF zfu) rfl T.b_isinstance zbe (qpa2 (qpv 0) za1 (zni (v:=.ty "int") rfl T.b_int zml rfl) za1)) (zo1 (znx (zmy (isiF zff) rfl T.b_isinstance zbe (qpa2 (qpv 0) za1 (zni (v:=.ty "bool") rfl T.b_bool zlb rfl) za1)))))))
  ,?_⟩
 clear zmr zmp zo0 zmy qpa2 qpv zni zo1 znx QE QT QW QA QS QSs QG QGs QI QO QIf
 dsimp! [L2.start]
 simp! [];exact q
theorem zh9(T:Txt K mg ad fd):FnOk P w K mg base CX0 1 (ad 1) (fd 1) ["one","other"] zdr:=by
 refine T.divisor.fn.ok zd3 (fun vs H Q E h=>?_) (fun cdv A outer s H vs Q E hr h=>?_)
 ·obtain⟨a,b,rfl,_⟩:=h;rfl
 obtain⟨a,b,rfl,q⟩:=h;have zn4:=@pss4;have zmq:=@zbl;have zmy:=@zc5;have qpa1:=@pa1;have qpv:=@pv;have zo5:=@zjl;have zmt:=@zav;have zmm:=@zaz;have zn7:=@pss3;have zmo:=@pe_op;have zmp:=@zao;generalize @L2.PE=QE,@L2.PT=QT,@L2.PW=QW,@L2.PA=QA,@L2.PS=QS,@L2.PSs=QSs,@L2.PG=QG,@L2.PGs=QGs,@L2.PI=QI,@L2.PO=QO,@L2.PIf=QIf at zn4 zmq zmy qpa1 qpv zo5 zmt zmm zn7 zmo zmp⊢;refine⟨_,
  (zn4
   (zmq (i:=2) zd3.nd rfl (kc rfl) (zmy zhk rfl T.b_abs zkz (qpa1 (qpv 0) za1)))
   (zmq (i:=3) zd3.nd rfl (kc rfl) (zmy zhk rfl T.b_abs zkz (qpa1 (qpv 1) za1)))
   (zo5 pM (zmt op_ne (qpv 3) zmm (nomark _)) (zn7
   (zmq (i:=4) zd3.nd rfl (kc rfl) (zmo zgo (qpv 2) (qpv 3)))
   (zmq (i:=2) zd3.nd rfl (kc rfl) (qpv 3))
   (zmq (i:=3) zd3.nd rfl (kc rfl) (qpv 4))))
   (zmp (qpv 2)))
  ,?_⟩
 clear zn4 zmq zmy qpa1 qpv zo5 zmt zmm zn7 zmo zmp QE QT QW QA QS QSs QG QGs QI QO QIf
 dsimp! [L2.start]
 simp only[tSeq,tNext,tRet,tRetN,tIfS,tAsg,gName,tDrop,tVar,tC,tOp,tUn,rI,rI0,rU,rEq,rNe,tTest,tB,tNot,tAnd,tOr,tAndV,tOrV,tNotV,tIf,tCB,tCall,tNil,tCons,tTup,tLst,gTup,gCons,gNil,L2.start,rIsi,rIxT,rIxL,cx_K,tyN_non,tyN_bl,tyN_int,tyN_str,isi_ii,isi_ib,zl8,zl4,zlo,zky,isi_tt,zlh,zkd,zlt,zlk,zko,isi_ll,scal_ii,scal_bb,sz0,sz1,sz2,sz3,sz4,pE,Qg,pQ,vD,Uk,Up,Ug,QL,vL,vM,jV,jW,QB,V.int.injEq,V.bl.injEq,V.ref.injEq,V.ty.injEq,gc,and_true,true_and,exists_eq_left,exists_eq_left',exists_and_left,exists_and_right,exists_eq,exists_eq',and_assoc,jp,jq,jt,jX,pR,if_true,if_false,reduceIte,gS,decide_true,decide_false];refine zjg (iv_divisor a b H) (fun σ _=>(getI σ 3).toNat) ⟨rfl,_,_,_,rfl,by split<;>omega,by split<;>omega,G_abs a b⟩ ?_
  (fun σ H Q Q' m h=>by obtain⟨v,e,s,k,e2,q⟩:=h;exact⟨v,e,s,k,e2,m _ _ q⟩)
 rintro σ H' ⟨rfl,x,y,r,rfl,hx,hy,e⟩;simp only[tSeq,tNext,tRet,tRetN,tIfS,tAsg,gName,tDrop,tVar,tC,tOp,tUn,rI,rI0,rU,rEq,rNe,tTest,tB,tNot,tAnd,tOr,tAndV,tOrV,tNotV,tIf,tCB,tCall,tNil,tCons,tTup,tLst,gTup,gCons,gNil,L2.start,rIsi,rIxT,rIxL,cx_K,tyN_non,tyN_bl,tyN_int,tyN_str,isi_ii,isi_ib,zl8,zl4,zlo,zky,isi_tt,zlh,zkd,zlt,zlk,zko,isi_ll,scal_ii,scal_bb,sz0,sz1,sz2,sz3,sz4,pE,Qg,pQ,vD,Uk,Up,Ug,QL,vL,vM,jV,jW,QB,V.int.injEq,V.bl.injEq,V.ref.injEq,V.ty.injEq,gc,and_true,true_and,exists_eq_left,exists_eq_left',exists_and_left,exists_and_right,exists_eq,exists_eq',and_assoc,jp,jq,jt,jX,pR,if_true,if_false,reduceIte,gS,decide_true,decide_false];refine ite2 (fun c=>?_) (fun c=>?_)
 ·have hy0:0<y:=by
   rcases Int.lt_or_eq_of_le hy with z|z
   ·exact z
   ·subst z;simp at c
  obtain⟨h1,h2,h3⟩:=turn e hy0;exact⟨by omega,⟨rfl,_,_,_,rfl,h1,h2,h3⟩,less hy0⟩
 ·have hy0:y=0:=by simpa using c
  rw[←e,←G_zero hx hy0] at q;exact q
theorem ok_point(T:Txt K mg ad fd):FnOk P w K mg base CX0 2 (ad 2) (fd 2) ["x","y","w"] zic:=by
 refine T.point.fn.ok zhi (fun vs H Q E h=>?_) (fun cdv A outer s H vs Q E hr h=>?_)
 ·obtain⟨a,b,w,rfl,_⟩:=h;rfl
 obtain⟨a,b,w,rfl,hb,hz,q⟩:=h;have znr:=@pss5;have zmu:=@ps_if;have zna:=@PW.pt;have znf:=@pw_or;have znc:=@zi4;have zn3:=@zfv;have zms:=@zb3;have qpa1:=@pa1;have qpv:=@pv;have znl:=@zi6;have zmr:=@zae;have zod:=@ps_never;have zmv:=@zb5;have zmt:=@zav;have zmm:=@zaz;have zmq:=@zbl;have qpa2:=@pa2;have znp:=@pe_un;have zmp:=@zao;have zmx:=@zcu;have qpa3:=@pa3;have zmo:=@pe_op;generalize @L2.PE=QE,@L2.PT=QT,@L2.PW=QW,@L2.PA=QA,@L2.PS=QS,@L2.PSs=QSs,@L2.PG=QG,@L2.PGs=QGs,@L2.PI=QI,@L2.PO=QO,@L2.PIf=QIf at znr zmu zna znf znc zn3 zms qpa1 qpv znl zmr zod zmv zmt zmm zmq qpa2 znp zmp zmx qpa3 zmo⊢;refine⟨_,
  (znr
   (zmu (zna (znf (znc (zn3 (zms (zeu T) (hr.mono (by decide)) rfl T.is_whole.mg T.is_whole.fn.kp T.is_whole.bn .nil pass0 (qpa1 (qpv 0) za1)))) (znf (znc (zn3 (zms (zeu T) (hr.mono (by decide)) rfl T.is_whole.mg T.is_whole.fn.kp T.is_whole.bn .nil pass0 (qpa1 (qpv 1) za1)))) (znl (znc (zn3 (zms (zeu T) (hr.mono (by decide)) rfl T.is_whole.mg T.is_whole.fn.kp T.is_whole.bn .nil pass0 (qpa1 (qpv 2) za1)))))))) (zmr zod) zmv)
   (zmu (zmt op_eq (qpv 2) zmm (nomark _)) (zmr zod) zmv)
   (zmq (i:=3) zhi.nd rfl (kc rfl) (zms (zh9 T) (hr.mono (by decide)) rfl T.divisor.mg T.divisor.fn.kp T.divisor.bn .nil pass0 (qpa2 (zms (zh9 T) (hr.mono (by decide)) rfl T.divisor.mg T.divisor.fn.kp T.divisor.bn .nil pass0 (qpa2 (qpv 2) za1 (qpv 0) za1)) zak (qpv 1) za1)))
   (zmu (zmt op_lt (qpv 2) zmm (nomark _)) (zmr (zmq (i:=3) zhi.nd rfl (kc rfl) (znp zig (qpv 3)))) zmv)
   (zmp (zmx (qpa3 (zmo zcs (qpv 0) (qpv 3)) za5 (zmo zcs (qpv 1) (qpv 3)) za5 (zmo zcs (qpv 2) (qpv 3)) za5))))
  ,?_⟩
 clear znr zmu zna znf znc zn3 zms qpa1 qpv znl zmr zod zmv zmt zmm zmq qpa2 znp zmp zmx qpa3 zmo QE QT QW QA QS QSs QG QGs QI QO QIf
 dsimp! [L2.start]
 simp! [zfa,zdr];have hg:(fac3 a b w).natAbs<2^8000:=QM (fac3_le hb) hz;have hn:=zj1 (x:=a) (y:=b) hb;refine ite2 (fun c=>absurd (of_decide_eq_true c) hb) (fun _=>ite2 (fun c=>?_) (fun c=>?_))
 ·have ef: -G (G w a) b=fac3 a b w:=(if_pos (of_decide_eq_true c)).symm;rw[ef];exact⟨cdivb hn hg,cdivb hn hg,cdivb hn hg,fun p hp=>q p _ (za2 hp _) upd_same⟩
 ·have ef:G (G w a) b=fac3 a b w:=(if_neg fun z=>c (decide_eq_true z)).symm;rw[ef];exact⟨cdivb hn hg,cdivb hn hg,cdivb hn hg,fun p hp=>q p _ (za2 hp _) upd_same⟩
theorem zga(T:Txt K mg ad fd):FnOk P w K mg base CX0 1 (ad 3) (fd 3) ["P","Q"] zii:=by
 refine T.before.fn.ok zgr (fun vs H Q E h=>?_) (fun cdv A outer s H vs Q E hr h=>?_)
 ·obtain⟨p,q,x1,y1,w1,x2,y2,w2,rfl,_⟩:=h;rfl
 obtain⟨p,q,x1,y1,w1,x2,y2,w2,rfl,⟨hp,pp⟩,⟨hq,pq⟩,k⟩:=h;have zn4:=@pss4;have zmq:=@zbl;have zmo:=@pe_op;have zmn:=@pe_ix;have qpv:=@pv;have zmm:=@zaz;have zmu:=@ps_if;have zmt:=@zav;have zmr:=@zae;have zmp:=@zao;have znb:=@zf0;have zmv:=@zb5;generalize @L2.PE=QE,@L2.PT=QT,@L2.PW=QW,@L2.PA=QA,@L2.PS=QS,@L2.PSs=QSs,@L2.PG=QG,@L2.PGs=QGs,@L2.PI=QI,@L2.PO=QO,@L2.PIf=QIf at zn4 zmq zmo zmn qpv zmm zmu zmt zmr zmp znb zmv⊢;refine⟨_,
  (zn4
   (zmq (i:=2) zgr.nd rfl (kc rfl) (zmo za9 (zmn za0 (qpv 0) zmm (fun _ _=>rfl)) (zmn za0 (qpv 1) zmm (fun _ _=>rfl))))
   (zmq (i:=3) zgr.nd rfl (kc rfl) (zmo za9 (zmn za0 (qpv 1) zmm (fun _ _=>rfl)) (zmn za0 (qpv 0) zmm (fun _ _=>rfl))))
   (zmu (zmt op_ne (qpv 2) (qpv 3) (nomark _)) (zmr (zmp (znb op_lt (qpv 2) (qpv 3) (nomark _)))) zmv)
   (zmp (znb op_lt (zmo za9 (zmn za0 (qpv 0) zmm (fun _ _=>rfl)) (zmn za0 (qpv 1) zmm (fun _ _=>rfl))) (zmo za9 (zmn za0 (qpv 1) zmm (fun _ _=>rfl)) (zmn za0 (qpv 0) zmm (fun _ _=>rfl))) (nomark _))))
  ,?_⟩
 clear zn4 zmq zmo zmn qpv zmm zmu zmt zmr zmp znb zmv QE QT QW QA QS QSs QG QGs QI QO QIf
 dsimp! [L2.start]
 simp! [hp,hq];refine⟨cbig pp.1 pq.2.2,cbig pq.1 pp.2.2,?_⟩;unfold bef at k;refine ite2 (fun c=>?_) (fun c=>⟨cbig pp.2.1 pq.2.2,cbig pq.2.1 pp.2.2,?_⟩)
 ·have c':¬x1*w2=x2*w1:=by simpa using c
  rw[if_neg c'] at k;exact k
 ·have c':x1*w2=x2*w1:=by simpa using c
  rw[if_pos c'] at k;exact k
theorem ok_sign_of(T:Txt K mg ad fd):FnOk P w K mg base CX0 1 (ad 4) (fd 4) ["number"] zlg:=by
 refine T.sign_of.fn.ok sc_sign_of (fun vs H Q E h=>?_) (fun cdv A outer s H vs Q E hr h=>?_)
 ·obtain⟨z,rfl,_⟩:=h;rfl
 obtain⟨z,rfl,k⟩:=h;have zn7:=@pss3;have zmu:=@ps_if;have zmt:=@zav;have qpv:=@pv;have zmm:=@zaz;have zmr:=@zae;have zmp:=@zao;have zmv:=@zb5;have znp:=@pe_un;generalize @L2.PE=QE,@L2.PT=QT,@L2.PW=QW,@L2.PA=QA,@L2.PS=QS,@L2.PSs=QSs,@L2.PG=QG,@L2.PGs=QGs,@L2.PI=QI,@L2.PO=QO,@L2.PIf=QIf at zn7 zmu zmt qpv zmm zmr zmp zmv znp⊢;refine⟨_,
  (zn7
   (zmu (zmt op_gt (qpv 0) zmm (nomark _)) (zmr (zmp zmm)) zmv)
   (zmu (zmt op_lt (qpv 0) zmm (nomark _)) (zmr (zmp (znp zig zmm))) zmv)
   (zmp zmm))
  ,?_⟩
 clear zn7 zmu zmt qpv zmm zmr zmp zmv znp QE QT QW QA QS QSs QG QGs QI QO QIf
 dsimp! [L2.start]
 simp! [];unfold sgn at k;refine ite2 (fun c=>?_) (fun c=>ite2 (fun c2=>?_) (fun c2=>?_))
 ·rw[if_pos (of_decide_eq_true c)] at k;exact k
 ·rw[if_neg (fun z=>c (decide_eq_true z)),if_pos (of_decide_eq_true c2)] at k;exact k
 ·rw[if_neg (fun z=>c (decide_eq_true z)),if_neg (fun z=>c2 (decide_eq_true z))] at k;exact k
theorem zgx(T:Txt K mg ad fd):FnOk P w K mg base CX0 1 (ad 5) (fd 5) ["P","Q"] sp_line:=by
 refine T.line_of.fn.ok sc_line_of (fun vs H Q E h=>?_) (fun cdv A outer s H vs Q E hr h=>?_)
 ·obtain⟨p,q,x1,y1,w1,x2,y2,w2,rfl,_⟩:=h;rfl
 obtain⟨p,q,x1,y1,w1,x2,y2,w2,rfl,⟨hp,pp⟩,⟨hq,pq⟩,k⟩:=h;have zmr:=@zae;have zmp:=@zao;have zmx:=@zcu;have qpa3:=@pa3;have zmo:=@pe_op;have zmn:=@pe_ix;have qpv:=@pv;have zmm:=@zaz;generalize @L2.PE=QE,@L2.PT=QT,@L2.PW=QW,@L2.PA=QA,@L2.PS=QS,@L2.PSs=QSs,@L2.PG=QG,@L2.PGs=QGs,@L2.PI=QI,@L2.PO=QO,@L2.PIf=QIf at zmr zmp zmx qpa3 zmo zmn qpv zmm⊢;refine⟨_,
  (zmr (zmp (zmx (qpa3 (zmo zbn (zmo za9 (zmn za0 (qpv 0) zmm (fun _ _=>rfl)) (zmn za0 (qpv 1) zmm (fun _ _=>rfl))) (zmo za9 (zmn za0 (qpv 0) zmm (fun _ _=>rfl)) (zmn za0 (qpv 1) zmm (fun _ _=>rfl)))) za5 (zmo zbn (zmo za9 (zmn za0 (qpv 0) zmm (fun _ _=>rfl)) (zmn za0 (qpv 1) zmm (fun _ _=>rfl))) (zmo za9 (zmn za0 (qpv 0) zmm (fun _ _=>rfl)) (zmn za0 (qpv 1) zmm (fun _ _=>rfl)))) za5 (zmo zbn (zmo za9 (zmn za0 (qpv 0) zmm (fun _ _=>rfl)) (zmn za0 (qpv 1) zmm (fun _ _=>rfl))) (zmo za9 (zmn za0 (qpv 0) zmm (fun _ _=>rfl)) (zmn za0 (qpv 1) zmm (fun _ _=>rfl)))) za5))))
  ,?_⟩
 clear zmr zmp zmx qpa3 zmo zmn qpv zmm QE QT QW QA QS QSs QG QGs QI QO QIf
 dsimp! [L2.start]
 simp! [hp,hq];exact⟨cbig pp.2.1 pq.2.2,cbig pp.2.2 pq.2.1,cbig pp.2.2 pq.1,cbig pp.1 pq.2.2,cbig pp.1 pq.2.1,cbig pp.2.1 pq.1,fun r hr=>k r _ (za2 hr _) upd_same⟩
theorem zeh(T:Txt K mg ad fd):FnOk P w K mg base CX0 2 (ad 6) (fd 6) ["line","P"] sp_side:=by
 refine T.side_of.fn.ok sc_side_of (fun vs H Q E h=>?_) (fun cdv A outer s H vs Q E hr h=>?_)
 ·obtain⟨l,p,a,b,c,x,y,w,rfl,_⟩:=h;rfl
 obtain⟨l,p,a,b,c,x,y,w,rfl,hl,⟨la,lb,lc⟩,hp,⟨lx,ly,lw⟩,k⟩:=h;have zmr:=@zae;have zmp:=@zao;have zms:=@zb3;have qpa1:=@pa1;have zmo:=@pe_op;have zmn:=@pe_ix;have qpv:=@pv;have zmm:=@zaz;generalize @L2.PE=QE,@L2.PT=QT,@L2.PW=QW,@L2.PA=QA,@L2.PS=QS,@L2.PSs=QSs,@L2.PG=QG,@L2.PGs=QGs,@L2.PI=QI,@L2.PO=QO,@L2.PIf=QIf at zmr zmp zms qpa1 zmo zmn qpv zmm⊢;refine⟨_,
  (zmr (zmp (zms (ok_sign_of T) (hr.mono (by decide)) rfl T.sign_of.mg T.sign_of.fn.kp T.sign_of.bn .nil pass0 (qpa1 (zmo zal (zmo zal (zmo za9 (zmn za0 (qpv 0) zmm (fun _ _=>rfl)) (zmn za0 (qpv 1) zmm (fun _ _=>rfl))) (zmo za9 (zmn za0 (qpv 0) zmm (fun _ _=>rfl)) (zmn za0 (qpv 1) zmm (fun _ _=>rfl)))) (zmo za9 (zmn za0 (qpv 0) zmm (fun _ _=>rfl)) (zmn za0 (qpv 1) zmm (fun _ _=>rfl)))) za5))))
  ,?_⟩
 clear zmr zmp zms qpa1 zmo zmn qpv zmm QE QT QW QA QS QSs QG QGs QI QO QIf
 dsimp! [L2.start]
 simp! [zlg,hl,hp];exact⟨cbig la lx,cbig lb ly,cbig lc lw,k⟩
theorem ok_met(T:Txt K mg ad fd):FnOk P w K mg base CX0 3 (ad 7) (fd 7) ["one","other"] sp_met:=by
 refine T.met.fn.ok zjn (fun vs H Q E h=>?_) (fun cdv A outer s H vs Q E hr h=>?_)
 ·obtain⟨p,q,a,b,c,a',b',c',rfl,_⟩:=h;rfl
 obtain⟨p,q,a,b,c,a',b',c',rfl,hp,⟨la,lb,lc⟩,hq,⟨la',lb',lc'⟩,k0,k1⟩:=h;have znr:=@pss5;have zmq:=@zbl;have zmo:=@pe_op;have zmn:=@pe_ix;have qpv:=@pv;have zmm:=@zaz;have zmu:=@ps_if;have zmt:=@zav;have zmr:=@zae;have zmp:=@zao;have znq:=@zjw;have zmv:=@zb5;have zms:=@zb3;have qpa3:=@pa3;generalize @L2.PE=QE,@L2.PT=QT,@L2.PW=QW,@L2.PA=QA,@L2.PS=QS,@L2.PSs=QSs,@L2.PG=QG,@L2.PGs=QGs,@L2.PI=QI,@L2.PO=QO,@L2.PIf=QIf at znr zmq zmo zmn qpv zmm zmu zmt zmr zmp znq zmv zms qpa3⊢;refine⟨_,
  (znr
   (zmq (i:=2) zjn.nd rfl (kc rfl) (zmo zbn (zmo za9 (zmn za0 (qpv 0) zmm (fun _ _=>rfl)) (zmn za0 (qpv 1) zmm (fun _ _=>rfl))) (zmo za9 (zmn za0 (qpv 0) zmm (fun _ _=>rfl)) (zmn za0 (qpv 1) zmm (fun _ _=>rfl)))))
   (zmu (zmt op_eq (qpv 2) zmm (nomark _)) (zmr (zmp znq)) zmv)
   (zmq (i:=3) zjn.nd rfl (kc rfl) (zmo zbn (zmo za9 (zmn za0 (qpv 0) zmm (fun _ _=>rfl)) (zmn za0 (qpv 1) zmm (fun _ _=>rfl))) (zmo za9 (zmn za0 (qpv 0) zmm (fun _ _=>rfl)) (zmn za0 (qpv 1) zmm (fun _ _=>rfl)))))
   (zmq (i:=4) zjn.nd rfl (kc rfl) (zmo zbn (zmo za9 (zmn za0 (qpv 0) zmm (fun _ _=>rfl)) (zmn za0 (qpv 1) zmm (fun _ _=>rfl))) (zmo za9 (zmn za0 (qpv 0) zmm (fun _ _=>rfl)) (zmn za0 (qpv 1) zmm (fun _ _=>rfl)))))
   (zmp (zms (ok_point T) (hr.mono (by decide)) rfl T.point.mg T.point.fn.kp T.point.bn .nil pass0 (qpa3 (qpv 3) za1 (qpv 4) za1 (qpv 2) za1))))
  ,?_⟩
 clear znr zmq zmo zmn qpv zmm zmu zmt zmr zmp znq zmv zms qpa3 QE QT QW QA QS QSs QG QGs QI QO QIf
 dsimp! [L2.start]
 simp! [zic,hp,hq];have lw:(a*b'-b*a').natAbs<2^(2001+2001+1):=zdb (zap la lb') (zap lb la');refine⟨cbig la lb',cbig lb la',ite2 (fun e=>k0 (of_decide_eq_true e)) (fun e=>?_)⟩;have ne:a*b'-b*a'≠0:=fun z=>e (decide_eq_true z);exact⟨cbig lb lc',cbig lc lb',cbig lc la',cbig la lc',ne,zag lw (by decide),k1 ne⟩
theorem ok_meet_on_line(T:Txt K mg ad fd):FnOk P w K mg base CX0 2 (ad 12) (fd 12) ["one","other"] sp_mol:=by
 refine T.meet_on_line.fn.ok zda (fun vs H Q E h=>?_) (fun cdv A outer s H vs Q E hr h=>?_)
 ·obtain⟨s,t,p,q,r,u,a,b,c,d,rfl,_⟩:=h;rfl
 obtain⟨sA,t,p,q,r,u,a,b,c,d,rfl,⟨hs,ht,ha,hb,hc,hd⟩,k⟩:=h
 obtain⟨tl,htl,hk⟩:∃tl,PSs (cxOf CX0 P w K mg base ["one","other","first","second"] "meet_on_line" (defScope zai) (ad 12) cdv A outer s H E).nox ((defBody zai).drop 2) tl/\∀(F S:Addr),PtQ 130 H F (fst3 a c)->PtQ 130 H S (snd3 b d)->
   tl {nx:=fun _ H'=>Q .non H',rt:=Q} [some (.ref sA),some (.ref t),some (.ref F),some (.ref S)] H:=by
  have zn7:=@pss3;have zmu:=@ps_if;have zn3:=@zfv;have zms:=@zb3;have qpa2:=@pa2;have qpv:=@pv;have zmr:=@zae;have zmp:=@zao;have znq:=@zjw;have zmv:=@zb5;have zmt:=@zav;have zmx:=@zcu;have znw:=@zk6;generalize @L2.PE=QE,@L2.PT=QT,@L2.PW=QW,@L2.PA=QA,@L2.PS=QS,@L2.PSs=QSs,@L2.PG=QG,@L2.PGs=QGs,@L2.PI=QI,@L2.PO=QO,@L2.PIf=QIf at zn7 zmu zn3 zms qpa2 qpv zmr zmp znq zmv zmt zmx znw⊢;refine⟨_,
  (zn7
   (zmu (zn3 (zms (zga T) (hr.mono (by decide)) rfl T.before.mg T.before.fn.kp T.before.bn .nil pass0 (qpa2 (qpv 3) za1 (qpv 2) za1))) (zmr (zmp znq)) zmv)
   (zmu (zmt (ziq (hu64 hr)) (qpv 2) (qpv 3) (nomark _)) (zmr (zmp (zmx (qpa2 znw za4 (qpv 2) za1)))) zmv)
   (zmp (zmx (qpa2 znw za4 (zmx (qpa2 (qpv 2) za1 (qpv 3) za1)) zaj))))
   ,fun F S hF hS=>?_⟩
  clear zn7 zmu zn3 zms qpa2 qpv zmr zmp znq zmv zmt zmx znw QE QT QW QA QS QSs QG QGs QI QO QIf;simp! [];unfold mtL at k;refine⟨S,F,_,_,_,_,_,_,rfl,hS.tb,hF.tb,_,rfl,ite2 (fun e=>?_) (fun e=>?_)⟩
  ·rw[if_pos (show bq (snd3 b d) (fst3 a c)=true from e)] at k;exact k .non H (.refl _) rfl
  ·rw[if_neg (show ¬bq (snd3 b d) (fst3 a c)=true from e)] at k;refine⟨_,_,rd_pt (.of hF.1),rd_pt (.of hS.1),zbc _ _ _,zbc _ _ _,_,rfl,?_⟩;rw[zey]
   by_cases eq:(fst3 a c).x=(snd3 b d).x/\(fst3 a c).y=(snd3 b d).y/\(fst3 a c).w=(snd3 b d).w
   ·rw[decide_eq_true eq];rw[if_pos eq] at k;refine iteT fun x hx=>?_;have g:=za2 hx (HO.tup [V.str "spot",V.ref F]);exact k _ _ g ⟨x,F,rfl,upd_same,g _ _ hF.1⟩
   ·rw[decide_eq_false eq];rw[if_neg eq] at k;refine iteF fun y hy=>?_;have g1:=za2 hy (HO.tup [V.ref F,V.ref S]);have y1:upd H y (HO.tup [V.ref F,V.ref S]) y=some (HO.tup [V.ref F,V.ref S]):=upd_same;generalize upd H y (HO.tup [V.ref F,V.ref S])=H1 at*;intro x hx;have g:=za2 hx (HO.tup [V.str "part",V.ref y]);have g2:=g1.trans g;exact k _ _ g2 ⟨x,y,F,S,rfl,upd_same,g _ _ y1,g2 _ _ hF.1,g2 _ _ hS.1⟩
 have znn:=@za7;have zmq:=@zbl;have zoe:=@pe_ifExp;have zn3:=@zfv;have zms:=@zb3;have qpa2:=@pa2;have zmn:=@pe_ix;have qpv:=@pv;have zmm:=@zaz;generalize @L2.PE=QE,@L2.PT=QT,@L2.PW=QW,@L2.PA=QA,@L2.PS=QS,@L2.PSs=QSs,@L2.PG=QG,@L2.PGs=QGs,@L2.PI=QI,@L2.PO=QO,@L2.PIf=QIf at znn zmq zoe zn3 zms qpa2 zmn qpv zmm htl⊢;refine⟨_,
  (znn (zmq (i:=2) zda.nd rfl (kc rfl) (zoe (zn3 (zms (zga T) (hr.mono (by decide)) rfl T.before.mg T.before.fn.kp T.before.bn .nil pass0 (qpa2 (zmn za0 (qpv 0) zmm (fun _ _=>rfl)) za3 (zmn za0 (qpv 1) zmm (fun _ _=>rfl)) za3))) (zmn za0 (qpv 1) zmm (fun _ _=>rfl)) (zmn za0 (qpv 0) zmm (fun _ _=>rfl))))
   (znn (zmq (i:=3) zda.nd rfl (kc rfl) (zoe (zn3 (zms (zga T) (hr.mono (by decide)) rfl T.before.mg T.before.fn.kp T.before.bn .nil pass0 (qpa2 (zmn za0 (qpv 0) zmm (fun _ _=>rfl)) za3 (zmn za0 (qpv 1) zmm (fun _ _=>rfl)) za3))) (zmn za0 (qpv 0) zmm (fun _ _=>rfl)) (zmn za0 (qpv 1) zmm (fun _ _=>rfl))))
   htl))
  ,?_⟩
 clear htl znn zmq zoe zn3 zms qpa2 zmn qpv zmm QE QT QW QA QS QSs QG QGs QI QO QIf;have f1:bq a c=true->PtQ 130 H r (fst3 a c):=fun e=>by unfold fst3;rw[if_pos e];exact hc
 have f2:¬bq a c=true->PtQ 130 H p (fst3 a c):=fun e=>by unfold fst3;rw[if_neg e];exact ha
 have s1:bq b d=true->PtQ 130 H q (snd3 b d):=fun e=>by unfold snd3;rw[if_pos e];exact hb
 have s2:¬bq b d=true->PtQ 130 H u (snd3 b d):=fun e=>by unfold snd3;rw[if_neg e];exact hd
 simp! [hs,ht];refine⟨p,r,_,_,_,_,_,_,rfl,ha.tb,hc.tb,_,rfl,ite2 (fun e=>?_) (fun e=>?_)⟩
 ·simp! [hs,ht];refine⟨q,u,_,_,_,_,_,_,rfl,hb.tb,hd.tb,_,rfl,ite2 (fun e2=>?_) (fun e2=>?_)⟩
  ·simp! [hs,ht];exact hk r q (f1 e) (s1 e2)
  ·simp! [hs,ht];exact hk r u (f1 e) (s2 e2)
 ·simp! [hs,ht];refine⟨q,u,_,_,_,_,_,_,rfl,hb.tb,hd.tb,_,rfl,ite2 (fun e2=>?_) (fun e2=>?_)⟩
  ·simp! [hs,ht];exact hk p q (f2 e) (s1 e2)
  ·simp! [hs,ht];exact hk p u (f2 e) (s2 e2)
theorem ok_meet(T:Txt K mg ad fd):FnOk P w K mg base CX0 4 (ad 11) (fd 11) ["one","other"] sp_meet:=by
 refine T.meet.fn.ok zf1 (fun vs H Q E h=>?_) (fun cdv A outer s H vs Q E hr h=>?_)
 ·obtain⟨s,t,p,q,r,u,a,b,c,d,rfl,_⟩:=h;rfl
 obtain⟨s,t,p,q,r,u,a,b,c,d,rfl,h4,k⟩:=h;have zoc:=@pss9;have zmq:=@zbl;have zms:=@zb3;have qpa2:=@pa2;have zmn:=@pe_ix;have qpv:=@pv;have zmm:=@zaz;have zmx:=@zcu;have zmu:=@ps_if;have zmt:=@zav;have zmr:=@zae;have zmp:=@zao;have zmv:=@zb5;have znq:=@zjw;have zn0:=@ze4;have zoo:=@pi_zipT;have zmo:=@pe_op;have zo4:=@zl9;have znk:=@zg5;have zmw:=@zby;have zno:=@zhj;have znw:=@zk6;generalize @L2.PE=QE,@L2.PT=QT,@L2.PW=QW,@L2.PA=QA,@L2.PS=QS,@L2.PSs=QSs,@L2.PG=QG,@L2.PGs=QGs,@L2.PI=QI,@L2.PO=QO,@L2.PIf=QIf at zoc zmq zms qpa2 zmn qpv zmm zmx zmu zmt zmr zmp zmv znq zn0 zoo zmo zo4 znk zmw zno znw⊢;refine⟨_,
  (zoc
   (zmq (i:=2) zf1.nd rfl (kc rfl) (zms (zgx T) (hr.mono (by decide)) rfl T.line_of.mg T.line_of.fn.kp T.line_of.bn .nil pass0 (qpa2 (zmn za0 (qpv 0) zmm (fun _ _=>rfl)) za3 (zmn za0 (qpv 0) zmm (fun _ _=>rfl)) za3)))
   (zmq (i:=3) zf1.nd rfl (kc rfl) (zmx (qpa2 (zms (zeh T) (hr.mono (by decide)) rfl T.side_of.mg T.side_of.fn.kp T.side_of.bn .nil pass0 (qpa2 (qpv 2) za1 (zmn za0 (qpv 1) zmm (fun _ _=>rfl)) za3)) zak (zms (zeh T) (hr.mono (by decide)) rfl T.side_of.mg T.side_of.fn.kp T.side_of.bn .nil pass0 (qpa2 (qpv 2) za1 (zmn za0 (qpv 1) zmm (fun _ _=>rfl)) za3)) zak)))
   (zmu (zmt (ziq (hu64 hr)) (qpv 3) (zmx (qpa2 zmm za4 zmm za4)) (nomark _)) (zmr (zmp (zms (ok_meet_on_line T) (hr.mono (by decide)) rfl T.meet_on_line.mg T.meet_on_line.fn.kp T.meet_on_line.bn .nil pass0 (qpa2 (qpv 0) za1 (qpv 1) za1)))) zmv)
   (zmu (zmt op_eq (zmn za0 (qpv 3) zmm (fun _ _=>rfl)) (zmn za0 (qpv 3) zmm (fun _ _=>rfl)) (nomark _)) (zmr (zmp znq)) zmv)
   (zmq (i:=4) zf1.nd rfl (kc rfl) (zms (zgx T) (hr.mono (by decide)) rfl T.line_of.mg T.line_of.fn.kp T.line_of.bn .nil pass0 (qpa2 (zmn za0 (qpv 1) zmm (fun _ _=>rfl)) za3 (zmn za0 (qpv 1) zmm (fun _ _=>rfl)) za3)))
   (zmq (i:=5) zf1.nd rfl (kc rfl) (zmx (qpa2 (zms (zeh T) (hr.mono (by decide)) rfl T.side_of.mg T.side_of.fn.kp T.side_of.bn .nil pass0 (qpa2 (qpv 4) za1 (zmn za0 (qpv 0) zmm (fun _ _=>rfl)) za3)) zak (zms (zeh T) (hr.mono (by decide)) rfl T.side_of.mg T.side_of.fn.kp T.side_of.bn .nil pass0 (qpa2 (qpv 4) za1 (zmn za0 (qpv 0) zmm (fun _ _=>rfl)) za3)) zak)))
   (zmu (zmt op_eq (zmn za0 (qpv 5) zmm (fun _ _=>rfl)) (zmn za0 (qpv 5) zmm (fun _ _=>rfl)) (nomark _)) (zmr (zmp znq)) zmv)
   (zn0 pM rfl (zoo rfl T.b_zip (qpa2 (zmo zla (qpv 1) (qpv 0)) za5 (zmo zla (qpv 3) (qpv 5)) za5)) (zo4 (n:=2) rfl (znk (zmw (i:=6) zf1.nd rfl (kc rfl)) (znk (zmw (i:=7) zf1.nd rfl (kc rfl)) zno))) (zmr (zmu (zmt op_eq (qpv 7) zmm (nomark _)) (zmr (zmp (zmx (qpa2 znw za4 (qpv 6) za1)))) zmv)))
   (zmp (zmx (qpa2 znw za4 (zms (ok_met T) (hr.mono (by decide)) rfl T.met.mg T.met.fn.kp T.met.bn .nil pass0 (qpa2 (qpv 2) za1 (qpv 4) za1)) zak))))
  ,?_⟩
 clear zoc zmq zms qpa2 zmn qpv zmm zmx zmu zmt zmr zmp zmv znq zn0 zoo zmo zo4 znk zmw zno znw QE QT QW QA QS QSs QG QGs QI QO QIf
 dsimp! [L2.start]
 have e0:sgn (lnA a.x a.y a.w b.x b.y b.w*c.x+lnB a.x a.y a.w b.x b.y b.w*c.y+lnC a.x a.y a.w b.x b.y b.w*c.w)=sgn (dt a b c):=rfl;have e1:sgn (lnA a.x a.y a.w b.x b.y b.w*d.x+lnB a.x a.y a.w b.x b.y b.w*d.y+lnC a.x a.y a.w b.x b.y b.w*d.w)=sgn (dt a b d):=rfl;have e2:sgn (lnA c.x c.y c.w d.x d.y d.w*a.x+lnB c.x c.y c.w d.x d.y d.w*a.y+lnC c.x c.y c.w d.x d.y d.w*a.w)=sgn (dt c d a):=rfl;have e3:sgn (lnA c.x c.y c.w d.x d.y d.w*b.x+lnB c.x c.y c.w d.x d.y d.w*b.y+lnC c.x c.y c.w d.x d.y d.w*b.w)=sgn (dt c d b):=rfl;unfold mtF at k;simp! [h4.s,h4.t];refine⟨p,q,_,_,_,_,_,_,rfl,h4.a.tb,h4.b.tb,fun l H1 g1 hl=>?_⟩;have i1:=h4.same g1;simp! [i1.s,i1.t];refine⟨l,r,_,_,_,_,_,_,rfl,hl,ln_bd i1.a.tb.2 i1.b.tb.2,i1.c.1,i1.c.tb.2,?_⟩;simp! [i1.s,i1.t];refine⟨l,u,_,_,_,_,_,_,rfl,hl,ln_bd i1.a.tb.2 i1.b.tb.2,i1.d.1,i1.d.tb.2,?_⟩;simp! [e0,e1];intro SD hSD;have g2:=za2 hSD (HO.tup [V.int (sgn (dt a b c)),V.int (sgn (dt a b d))]);have s2:upd H1 SD (HO.tup [V.int (sgn (dt a b c)),V.int (sgn (dt a b d))]) SD=some (HO.tup [V.int (sgn (dt a b c)),V.int (sgn (dt a b d))]):=upd_same;generalize upd H1 SD (HO.tup [V.int (sgn (dt a b c)),V.int (sgn (dt a b d))])=H2 at*;have i2:=i1.same g2;intro Z hZ;have g3':=za2 hZ (HO.tup [V.int 0,V.int 0]);have z3:upd H2 Z (HO.tup [V.int 0,V.int 0]) Z=some (HO.tup [V.int 0,V.int 0]):=upd_same;generalize upd H2 Z (HO.tup [V.int 0,V.int 0])=H3 at*;have i3:=i2.same g3';have s3:=g3' _ _ s2;have g13:=g1.trans (g2.trans g3');refine⟨_,_,rd_i2 (.of s3),rd_i2 (.of z3),zh6 _ _,zh6 _ _,_,rfl,?_⟩;rw[dI2_eqv]
 by_cases cl:sgn (dt a b c)=0/\sgn (dt a b d)=0
 ·rw[decide_eq_true cl];rw[if_pos cl] at k;exact iteT ⟨s,t,p,q,r,u,a,b,c,d,rfl,i3,fun v H' g h=>k v H' (g13.trans g) h⟩
 rw[decide_eq_false cl];rw[if_neg cl] at k;refine iteF ?_;simp! [s3];refine ite2 (fun c1=>?_) (fun c1=>?_)
 ·rw[if_pos (of_decide_eq_true c1)] at k;exact k .non _ g13 rfl
 have n1:sgn (dt a b c)≠sgn (dt a b d):=fun z=>c1 (decide_eq_true z);rw[if_neg n1] at k;simp! [i3.s,i3.t];refine⟨r,u,_,_,_,_,_,_,rfl,i3.c.tb,i3.d.tb,fun m H4 g4 hm=>?_⟩;have i4:=i3.same g4;have s4:=g4 _ _ s3;simp! [i4.s,i4.t];refine⟨m,p,_,_,_,_,_,_,rfl,hm,ln_bd i4.c.tb.2 i4.d.tb.2,i4.a.1,i4.a.tb.2,?_⟩;simp! [i4.s,i4.t];refine⟨m,q,_,_,_,_,_,_,rfl,hm,ln_bd i4.c.tb.2 i4.d.tb.2,i4.b.1,i4.b.tb.2,?_⟩;simp! [e2,e3];intro SO hSO;have g5:=za2 hSO (HO.tup [V.int (sgn (dt c d a)),V.int (sgn (dt c d b))]);have o5:upd H4 SO (HO.tup [V.int (sgn (dt c d a)),V.int (sgn (dt c d b))]) SO=some (HO.tup [V.int (sgn (dt c d a)),V.int (sgn (dt c d b))]):=upd_same;generalize upd H4 SO (HO.tup [V.int (sgn (dt c d a)),V.int (sgn (dt c d b))])=H5 at*;have i5:=i4.same g5;have s5:=g5 _ _ s4;have g15:=g13.trans (g4.trans g5);refine ite2 (fun c2=>?_) (fun c2=>?_)
 ·rw[if_pos (of_decide_eq_true c2)] at k;exact k .non _ g15 rfl
 have n2:sgn (dt c d a)≠sgn (dt c d b):=fun z=>c2 (decide_eq_true z);rw[if_neg n2] at k;refine zbz ?_;simp! [iZipU,rCatT];refine⟨_,.of i5.t,_,.of i5.s,by simp,by show 4<=sizeLine;decide,fun z=>by simp at z,fun _ E1 hE1=>?_⟩
 have g6:=za2 hE1 (HO.tup ([V.ref r,V.ref u]++[V.ref p,V.ref q]));have e6:upd H5 E1 (HO.tup ([V.ref r,V.ref u]++[V.ref p,V.ref q])) E1=some (HO.tup [V.ref r,V.ref u,V.ref p,V.ref q]):=upd_same;generalize upd H5 E1 (HO.tup ([V.ref r,V.ref u]++[V.ref p,V.ref q]))=H6 at*;have s6:=g6 _ _ s5;have o6:=g6 _ _ o5;refine⟨_,.of s6,_,.of o6,by simp,by show 4<=sizeLine;decide,fun z=>by simp at z,fun _ E2 hE2=>?_⟩
 have g7:=za2 hE2 (HO.tup ([V.int (sgn (dt a b c)),V.int (sgn (dt a b d))]++[V.int (sgn (dt c d a)),V.int (sgn (dt c d b))]));have f7:upd H6 E2 (HO.tup ([V.int (sgn (dt a b c)),V.int (sgn (dt a b d))]++[V.int (sgn (dt c d a)),V.int (sgn (dt c d b))])) E2=some (HO.tup [V.int (sgn (dt a b c)),V.int (sgn (dt a b d)),V.int (sgn (dt c d a)),V.int (sgn (dt c d b))]):=upd_same;generalize upd H6 E2 (HO.tup ([V.int (sgn (dt a b c)),V.int (sgn (dt a b d))]++[V.int (sgn (dt c d a)),V.int (sgn (dt c d b))]))=H7 at*;have e7:=g7 _ _ e6;have g57:=g6.trans g7;have i7:=i5.same g57;have l7:=g57 _ _ (g5 _ _ (g4 _ _ (g3' _ _ (g2 _ _ hl))));have m7:=g57 _ _ (g5 _ _ hm);have g17:=g15.trans g57;refine⟨⟨_,e7⟩,?_⟩;refine forW_zipTO (xs:=[V.ref r,V.ref u,V.ref p,V.ref q]) (ys:=[V.int (sgn (dt a b c)),V.int (sgn (dt a b d)),V.int (sgn (dt c d a)),V.int (sgn (dt c d b))]) (fun i σ H'=>Same H7 H'/\∃x y,σ=[some (V.ref s),some (V.ref t),some (V.ref l),some (V.ref SD),some (V.ref m),some (V.ref SO),x,y]/\(1<=i->sgn (dt a b c)≠0)/\(2<=i->sgn (dt a b d)≠0)/\(3<=i->sgn (dt c d a)≠0)/\(4<=i->sgn (dt c d b)≠0))
  ⟨.refl _,none,none,rfl,fun z=>absurd z (by decide),fun z=>absurd z (by decide),fun z=>absurd z (by decide),fun z=>absurd z (by decide)⟩ (fun i σ H' iv=>⟨iv.1 _ _ e7,iv.1 _ _ f7⟩) rfl ?_ ?_
 ·intro _ _;rintro i x y T' σ H8 hx hy ⟨g8,u1,u2,rfl,c1,c2,c3,c4⟩ hT';have i8:=i7.same g8;obtain⟨e,sd',P',rfl,rfl,hP,hz,hnz⟩:∃(e:Addr)(sd':Int)(P':Q3),x=.ref e/\y=.int sd'/\PtQ 130 H8 e P'/\(sd'=0->mtS a b c d=P')/\(sd'≠0->(1<=i+1->sgn (dt a b c)≠0)/\(2<=i+1->sgn (dt a b d)≠0)/\(3<=i+1->sgn (dt c d a)≠0)/\(4<=i+1->sgn (dt c d b)≠0)):=by
   match i,hx,hy with
   |0,hx,hy=>
    cases hx;cases hy;exact⟨r,_,c,rfl,rfl,i8.c,fun z=>by unfold mtS;rw[if_pos z],fun z=>⟨fun _=>z,fun z=>absurd z (by decide),fun z=>absurd z (by decide),fun z=>absurd z (by decide)⟩⟩
   |1,hx,hy=>
    cases hx;cases hy;exact⟨u,_,d,rfl,rfl,i8.d,fun z=>by unfold mtS;rw[if_neg (c1 (by decide)),if_pos z],fun z=>⟨fun _=>c1 (by decide),fun _=>z,fun z=>absurd z (by decide),fun z=>absurd z (by decide)⟩⟩
   |2,hx,hy=>
    cases hx;cases hy;exact⟨p,_,a,rfl,rfl,i8.a,fun z=>by unfold mtS;rw[if_neg (c1 (by decide)),if_neg (c2 (by decide)),if_pos z],fun z=>⟨fun _=>c1 (by decide),fun _=>c2 (by decide),fun _=>z,fun z=>absurd z (by decide)⟩⟩
   |3,hx,hy=>
    cases hx;cases hy;exact⟨q,_,b,rfl,rfl,i8.b,fun z=>by unfold mtS;rw[if_neg (c1 (by decide)),if_neg (c2 (by decide)),if_neg (c3 (by decide)),if_pos z],fun z=>⟨fun _=>c1 (by decide),fun _=>c2 (by decide),fun _=>c3 (by decide),fun _=>z⟩⟩
  have g9:=za2 hT' (HO.tup [V.ref e,V.int sd']);have t9:upd H8 T' (HO.tup [V.ref e,V.int sd']) T'=some (HO.tup [V.ref e,V.int sd']):=upd_same;generalize upd H8 T' (HO.tup [V.ref e,V.int sd'])=H9 at*;simp! [gTup];refine⟨_,.of t9,rfl,_,_,rfl,_,_,rfl,rfl,?_⟩;refine⟨rfl,ite2 (fun c=>fun z hz'=>?_) (fun c=>⟨g8.trans g9,hnz (by simpa using c)⟩)⟩
  have s0:sd'=0:=by simpa using c
  have g10:=za2 hz' (HO.tup [V.str "spot",V.ref e]);refine k _ _ (g17.trans (g8.trans (g9.trans g10))) ?_;rw[hz s0];exact⟨z,e,rfl,upd_same,g10 _ _ (g9 _ _ hP.1)⟩
 ·rintro σ H8 ⟨g8,u1,u2,rfl,c1,c2,c3,c4⟩;have cw:=zk2 (a:=a) (b:=b) h4.c.pt.pos h4.d.pt.pos n1;simp! [];refine⟨l,m,_,_,_,_,_,_,rfl,g8 _ _ l7,ln_bd h4.a.tb.2 h4.b.tb.2,g8 _ _ m7,ln_bd h4.c.tb.2 h4.d.tb.2,fun z=>absurd z cw,fun _ M H9 g9 hM=>?_⟩;simp! [];intro z hz;have g10:=za2 hz (HO.tup [V.str "spot",V.ref M]);have em:mtS a b c d=crP a b c d:=by unfold mtS;rw[if_neg (c1 (by show 1<=4;decide)),if_neg (c2 (by show 2<=4;decide)),if_neg (c3 (by show 3<=4;decide)),if_neg (c4 (by show 4<=4;decide))]
  refine k _ _ (g17.trans (g8.trans (g9.trans g10))) ?_;rw[em];exact⟨z,M,rfl,upd_same,g10 _ _ hM⟩
theorem putK_old{κ:Type}[DecidableEq κ]{kvs:List (κ×V)}{k:κ}(v:V)(h:(valV kvs k).isSome=true):(putK kvs k v).map uq=kvs.map uq:=by
 unfold putK;rw[zdf,if_pos h,UN];refine jB fun kv _=>?_;show(if kv.1=k then(kv.1,v) else kv).1=kv.1
 split<;>rfl
theorem zfi{κ:Type}[DecidableEq κ]{kvs:List (κ×V)}{k:κ}(h:k∈kvs.map uq):(valV kvs k).isSome=true:=by
 cases e:valV kvs k with
 |some v=>rfl
 |none=>exact absurd h (valV_not e)
def nKeys(ns:List Nat):List Key:=ns.map fun i:Nat=>(UX (i:Int):Key)
theorem zie{ns:List Nat}{i:Nat}:(UX (i:Int):Key)∈nKeys ns↔i∈ns:=by
 unfold nKeys
 constructor
 ·intro h;obtain⟨j,hj,e⟩:=uD.mp h;have:(j:Int)=(i:Int):=CN e;have e':j=i:=by omega
  rw[←e'];exact hj
 ·intro h;exact uD.mpr ⟨i,h,rfl⟩
structure Ly(H:Hp)(d:Addr)(os:List Addr)(n:Nat)(T:Q3->Nat->Prop)(kvs:List (List Key×V))(qs:List Q3):Prop where
 own:d∈os
 at_:H d=some (.dT kvs)
 keys:kvs.map uq=qs.map kQ
 nd:qs.Nodup
 pq:∀q,q∈qs->PQ 700 q
 mem:∀q,q∈qs↔∃i,T q i
 len:kvs.length<=n
 inn:∀q,q∈qs->∃b kws ns,valV kvs (kQ q)=some (.ref b)/\b∈os/\H b=some (.dK kws)/\kws.map uq=nKeys ns/\kws.length<=n/\ns.Nodup/\∀i,i∈ns↔T q i
 inj:∀q q' b,valV kvs (kQ q)=some (.ref b)->valV kvs (kQ q')=some (.ref b)->q=q'
 live:∀b,b∈os->(∃x,H b=some (.dT x))∨∃x,H b=some (.dK x)
theorem Ly.has{H:Hp}{d:Addr}{os:List Addr}{n:Nat}{T:Q3->Nat->Prop}{kvs:List (List Key×V)}{qs:List Q3}(L:Ly H d os n T kvs qs){q:Q3}:(valV kvs (kQ q)).isSome=true↔q∈qs:=by
 constructor
 ·intro h
  cases e:valV kvs (kQ q) with
  |none=>rw[e] at h;cases h
  |some v=>
   have m:=zka e;have m':kQ q∈kvs.map uq:=m;rw[L.keys] at m';obtain⟨r,hr,er⟩:=uD.mp m';rw[←zh8 er];exact hr
 ·intro h;refine zfi ?_;rw[L.keys];exact uD.mpr ⟨q,h,rfl⟩
theorem Ly.keep{H H':Hp}{d:Addr}{os:List Addr}{n:Nat}{T:Q3->Nat->Prop}{kvs:List (List Key×V)}{qs:List Q3}(L:Ly H d os n T kvs qs)(g:∀b o,b∈os->H b=some o->H' b=some o):Ly H' d os n T kvs qs:=
 ⟨L.own,g _ _ L.own L.at_,L.keys,L.nd,L.pq,L.mem,L.len,fun q hq=>by
  obtain⟨b,kws,ns,h1,h2,h3,h4⟩:=L.inn q hq;exact⟨b,kws,ns,h1,h2,g _ _ h2 h3,h4⟩,L.inj,fun b hb=>(L.live b hb).imp (fun⟨x,h⟩=>⟨x,g _ _ hb h⟩) fun⟨x,h⟩=>⟨x,g _ _ hb h⟩⟩
theorem Ly.same{H H':Hp}{d:Addr}{os:List Addr}{n:Nat}{T:Q3->Nat->Prop}{kvs:List (List Key×V)}{qs:List Q3}(L:Ly H d os n T kvs qs)(g:Same H H'):Ly H' d os n T kvs qs:=L.keep fun b o _ h=>g _ _ h
theorem Ly.to{H:Hp}{d:Addr}{os:List Addr}{n:Nat}{T T':Q3->Nat->Prop}{kvs:List (List Key×V)}{qs:List Q3}(L:Ly H d os n T kvs qs)(h:∀q i,T q i↔T' q i):Ly H d os n T' kvs qs:=by
 have:T=T':=funext fun q=>funext fun i=>propext (h q i);rw[←this];exact L
theorem Ly.le{H:Hp}{d:Addr}{os:List Addr}{m n:Nat}{T:Q3->Nat->Prop}{kvs:List (List Key×V)}{qs:List Q3}(L:Ly H d os m T kvs qs)(h:m<=n):Ly H d os n T kvs qs:=
 ⟨L.own,L.at_,L.keys,L.nd,L.pq,L.mem,kz L.len h,fun q hq=>by
  obtain⟨b,kws,ns,h1,h2,h3,h4,h5,h6⟩:=L.inn q hq;exact⟨b,kws,ns,h1,h2,h3,h4,kz h5 h,h6⟩,L.inj,L.live⟩
theorem Ly.not{H:Hp}{d:Addr}{os:List Addr}{n:Nat}{T:Q3->Nat->Prop}{kvs:List (List Key×V)}{qs:List Q3}(L:Ly H d os n T kvs qs){b:Addr}{o:HO}(h:H b=some o)(h1:∀x,o≠.dT x)(h2:∀x,o≠.dK x):b∉os:=fun z=>by
 rcases L.live b z with⟨x,e⟩|⟨x,e⟩
 ·rw[h] at e;exact h1 x (pJ e)
 ·rw[h] at e;exact h2 x (pJ e)
def sp_note:Sp:=fun vs H Q _=>∃(d p:Addr)(os:List Addr)(n:Nat)(T:Q3->Nat->Prop)(kvs:List (List Key×V))(qs:List Q3)(r:Q3)(i:Nat),vs=[.ref d,.ref p,.int i]/\Ly H d os n T kvs qs/\n<=17000/\QH H p r/\
 ∀os' kvs' qs' H',(∀b o,H b=some o->b∉os->H' b=some o)->(∀b,b∈os'->b∈os∨H b=none)->Ly H' d os' (n+1) (fun q j=>T q j∨(q=r/\j=i)) kvs' qs'->Q .non H'
theorem Ly.put{H:Hp}{d b:Addr}{os:List Addr}{n:Nat}{T:Q3->Nat->Prop}{kvs:List (List Key×V)}{qs:List Q3}{kws:List (Key×V)}{ns:List Nat}{r:Q3}{i:Nat}(L:Ly H d os n T kvs qs)(hr:r∈qs)(e1:valV kvs (kQ r)=some (.ref b))(hb:H b=some (.dK kws)):
  Ly (upd H b (.dK (putK kws (UX (i:Int)) (.bl true)))) d os (n+1) (fun q j=>T q j∨(q=r/\j=i)) kvs qs:=by
 obtain⟨b',kws',ns',f1,f2,f3,f4,f5,f6,f7⟩:=L.inn r hr;rw[e1] at f1
 cases f1;rw[hb] at f3
 cases f3;have nbd:d≠b:=fun z=>by rw[←z,L.at_] at hb;cases hb
 refine⟨L.own,by rw[za6 nbd];exact L.at_,L.keys,L.nd,L.pq,fun q=>?_,jh L.len,fun q hq=>?_,L.inj,fun b' hb'=>?_⟩
 ·rw[L.mem]
  constructor
  ·rintro⟨j,hj⟩;exact⟨j,.inl hj⟩
  ·rintro⟨j,hj|⟨rfl,rfl⟩⟩
   ·exact⟨j,hj⟩
   ·exact(L.mem q).mp hr
 ·by_cases e:q=r
  ·subst e;refine⟨b,_,if i∈ns' then ns' else ns'++[i],e1,f2,upd_same,?_,?_,?_,fun j=>?_⟩
   ·by_cases m:i∈ns'
    ·rw[if_pos m,putK_old _ (zfi (by rw[f4];exact zie.mpr m)),f4]
    ·have nv:valV kws (UX (i:Int))=none:=by
      cases ev:valV kws (UX (i:Int)) with
      |none=>rfl
      |some v=>
       have mm:(UX (i:Int):Key)∈kws.map uq:=zka ev;rw[f4] at mm;exact absurd (zie.mp mm) m
     rw[if_neg m,zg1 _ nv,pg,f4];unfold nKeys;rw[pg];rfl
   ·exact kz (zcq _ _ _) (Ur f5)
   ·split
    ·exact f6
    ·rename_i m
     exact zj0 f6 m
   ·by_cases m:i∈ns'
    ·rw[if_pos m,f7];refine⟨.inl,fun h=>h.elim id fun⟨_,z⟩=>?_⟩;rw[z];exact(f7 i).mp m
    ·rw[if_neg m,kf,f7,kr]
     constructor
     ·rintro(h|h)
      ·exact .inl h
      ·exact .inr ⟨rfl,h⟩
     ·rintro(h|⟨_,h⟩)
      ·exact .inl h
      ·exact .inr h
  ·obtain⟨b2,kws2,ns2,j1,j2,j3,j4,j5,j6,j7⟩:=L.inn q hq;have nb:b2≠b:=fun z=>by
    rw[z] at j1;exact e (L.inj _ _ _ j1 e1)
   refine⟨b2,kws2,ns2,j1,j2,by rw[za6 nb];exact j3,j4,jh j5,j6,fun j=>?_⟩
   rw[j7];exact⟨.inl,fun h=>h.elim id fun⟨z,_⟩=>absurd z e⟩
 ·by_cases e:b'=b
  ·rw[e];exact .inr ⟨_,upd_same⟩
  ·rw[za6 e];exact L.live b' hb'
theorem Ly.new{H:Hp}{d b:Addr}{os:List Addr}{n:Nat}{T:Q3->Nat->Prop}{kvs:List (List Key×V)}{qs:List Q3}{r:Q3}(i:Nat)(L:Ly H d os n T kvs qs)(hr:valV kvs (kQ r)=none)(pr:PQ 700 r)(hb:H b=none):
  Ly (upd (upd (upd H b (.dK [])) d (.dT (putK kvs (kQ r) (.ref b)))) b (.dK (putK [] (UX (i:Int)) (.bl true)))) d (b::os) (n+1) (fun q j=>T q j∨(q=r/\j=i)) (putK kvs (kQ r) (.ref b)) (qs++[r]):=by
 have nbd:d≠b:=fun z=>by rw[←z,L.at_] at hb;cases hb
 have rq:r∉qs:=fun z=>by
  have:=L.has.mpr z;rw[hr] at this
  cases this
 have nT:∀j,¬T r j:=fun j hj=>rq ((L.mem r).mpr ⟨j,hj⟩);refine⟨pB _ L.own,by rw[za6 nbd];exact upd_same,?_,zj0 L.nd rq,fun q hq=>?_,fun q=>?_,kz (zcq _ _ _) (Ur L.len),fun q hq=>?_,fun q q' c h1 h2=>?_,fun b' hb'=>?_⟩
 ·rw[zg1 _ hr,pg,pg,L.keys];rfl
 ·rcases kf.mp hq with h|h
  ·exact L.pq q h
  ·rw[kr.mp h];exact pr
 ·rw[kf,L.mem,kr]
  constructor
  ·rintro(⟨j,h⟩|h)
   ·exact⟨j,.inl h⟩
   ·exact⟨i,.inr ⟨h,rfl⟩⟩
  ·rintro⟨j,h|⟨h,_⟩⟩
   ·exact .inl ⟨j,h⟩
   ·exact .inr h
 ·by_cases e:q=r
  ·subst e;refine⟨b,_,[i],by rw[zel,if_pos rfl],ku,upd_same,?_,?_,Qo _ _,fun j=>?_⟩
   ·rw[zg1 _ rfl];rfl
   ·exact kz (zcq _ _ _) (by simp)
   ·rw[kr];exact⟨fun h=>.inr ⟨rfl,h⟩,fun h=>h.elim (fun h=>absurd h (nT j)) fun h=>h.2⟩
  ·have hq':q∈qs:=(kf.mp hq).resolve_right fun z=>e (kr.mp z);obtain⟨b2,kws2,ns2,j1,j2,j3,j4,j5,j6,j7⟩:=L.inn q hq';have nb:b2≠b:=fun z=>by rw[z,hb] at j3;cases j3
   have nd2:b2≠d:=fun z=>by rw[z,L.at_] at j3;cases j3
   refine⟨b2,kws2,ns2,by rw[zel,if_neg fun z=>e (zh8 z)];exact j1,pB _ j2,by rw[za6 nb,za6 nd2,za6 nb];exact j3,j4,jh j5,j6,fun j=>?_⟩
   rw[j7];exact⟨.inl,fun h=>h.elim id fun⟨z,_⟩=>absurd z e⟩
 ·rw[zel] at h1 h2;have old:∀q,¬kQ q=kQ r->valV kvs (kQ q)=some (.ref b)->False:=fun q ne h=>by
   have hq:=L.has.mp (by rw[h];rfl)
   obtain⟨b2,_,_,j1,j2,j3,_⟩:=L.inn q hq;rw[h] at j1
   cases j1;rw[hb] at j3
   cases j3
  by_cases e1:kQ q=kQ r<;>by_cases e2:kQ q'=kQ r
  ·rw[zh8 e1,zh8 e2]
  ·rw[if_pos e1] at h1;rw[if_neg e2] at h2
   cases h1;exact(old q' e2 h2).elim
  ·rw[if_neg e1] at h1;rw[if_pos e2] at h2
   cases h2;exact(old q e1 h1).elim
  ·rw[if_neg e1] at h1;rw[if_neg e2] at h2;exact L.inj _ _ _ h1 h2
 ·by_cases e:b'=b
  ·rw[e];exact .inr ⟨_,upd_same⟩
  ·rw[za6 e]
   by_cases e2:b'=d
   ·rw[e2];exact .inl ⟨_,upd_same⟩
   ·rw[za6 e2,za6 e];exact L.live b' ((kh.mp hb').resolve_left e)
theorem ziu(T:Txt K mg ad fd):FnOk P w K mg base CX0 1 (ad 16) (fd 16) ["lying","P","number"] sp_note:=by
 refine T.note.fn.ok sc_note (fun vs H Q E h=>?_) (fun cdv A outer s H vs Q E hr h=>?_)
 ·obtain⟨d,p,os,n,T,kvs,qs,r,i,rfl,_⟩:=h;rfl
 obtain⟨d,p,os,n,T',kvs,qs,r,i,rfl,L,hn,hp,k⟩:=h;have zmz:=@pss2;have zmu:=@ps_if;have zo7:=@zm6;have zo8:=@zid;have qpv:=@pv;have zmr:=@zae;have zo2:=@zl6;have zop:=@pe_dnewK;have zmv:=@zb5;have znm:=@zhs;have znd:=@pe_bl;generalize @L2.PE=QE,@L2.PT=QT,@L2.PW=QW,@L2.PA=QA,@L2.PS=QS,@L2.PSs=QSs,@L2.PG=QG,@L2.PGs=QGs,@L2.PI=QI,@L2.PO=QO,@L2.PIf=QIf,@L2.PC=QC,@L2.PK=QK at zmz zmu zo7 zo8 qpv zmr zo2 zop zmv znm znd⊢;refine⟨_,
  (zmz
   (zmu (zo7 (zo8 (hu_of hr) (qpv 1) (qpv 0))) (zmr (zo2 (hu_of hr) (qpv 0) (qpv 1) zop rfl)) zmv)
   (zo2 (hu_of hr) (znm (hu_of hr) (qpv 0) (qpv 1) (fun _ _=>rfl)) (qpv 2) znd rfl))
  ,?_⟩
 clear zmz zmu zo7 zo8 qpv zmr zo2 zop zmv znm znd QE QT QW QA QS QSs QG QGs QI QO QIf QC QK
 dsimp! [L2.start]
 simp! [tDNotIn,sDPut,tDGet,tDNewK];refine⟨_,.t (k:=kQ r) L.at_ hp.1,ite2 (fun c=>?_) fun c=>?_⟩
 ·have nv:valV kvs (kQ r)=none:=by
   cases e:valV kvs (kQ r) with
   |none=>rfl
   |some u=>rw[e] at c;cases c
  intro b hb;have nbd:d≠b:=za8 L.at_ hb;have nbp:p≠b:=za8 hp.1 hb;refine⟨_,.t (k:=kQ r) (by rw[za6 nbd];exact L.at_) (by rw[za6 nbp];exact hp.1) (small10k (by have:=L.len;omega)),.ref b,?_,b,rfl,_,.k (k:=UX (i:Int)) (kvs:=[]) (by rw[za6 nbd.symm];exact upd_same) (small10k (by simp)),k (b::os) _ _ _ (fun b' o h n=>?_) (fun b' h=>?_) (L.new i nv hp.2 hb)⟩
  ·have npd:p≠d:=fun z=>by
    have h1:=hp.1;rw[z,L.at_] at h1
    cases h1
   have:=DGet.t (k:=kQ r) (a:=d) (b:=p) (kvs:=putK kvs (kQ r) (V.ref b)) (H:=upd (upd H b (HO.dK [])) d (HO.dT (putK kvs (kQ r) (V.ref b)))) upd_same (by rw[za6 npd,za6 nbp];exact hp.1)
   rw[zel,if_pos rfl] at this;exact this
  ·have n1:b'≠b:=za8 h hb;have n2:b'≠d:=fun z=>n (by rw[z];exact L.own)
   rw[za6 n1,za6 n2,za6 n1];exact h
  ·rcases kh.mp h with h|h
   ·rw[h];exact .inr hb
   ·exact .inl h
 ·have z:(valV kvs (kQ r)).isSome=true:=by
   cases e:(valV kvs (kQ r)).isSome with
   |true=>rfl
   |false=>exact absurd (by rw[e];rfl) c
  have hr':=L.has.mp z;obtain⟨b,kws,ns,f1,f2,f3,f4,f5,f6,f7⟩:=L.inn r hr';refine⟨.ref b,by rw[←f1];exact .t (k:=kQ r) L.at_ hp.1,b,rfl,_,.k (k:=UX (i:Int)) f3 (small10k (by omega)),k os kvs qs _ (fun b' o h n=>?_) (fun b' h=>.inl h) (L.put (ns:=ns) hr' f1 f3)⟩
  rw[za6 (fun z=>n (by rw[z];exact f2))]
  exact h
def Shr:MR->Q3->Prop
 |.none,_=>False
 |.spot q,p=>p=q
 |.part a b,p=>p=a∨p=b
def sp_shared:Sp:=fun vs H Q _=>∃(v:V)(r:MR),vs=[v]/\MtV H v r/\(∀p,Shr r p->PQ 700 p)/\∀(t:Addr)(xs:List V)(ps:List Q3)(H':Hp),Same H H'->H' t=some (.tup xs)->xs.length<=2->LR QH H' xs ps->(∀p,p∈ps↔Shr r p)->Q (.ref t) H'
theorem ok_shared_ends(T:Txt K mg ad fd):FnOk P w K mg base CX0 1 (ad 17) (fd 17) ["common"] sp_shared:=by
 refine T.shared_ends.fn.ok sc_shared_ends (fun vs H Q E h=>?_) (fun cdv A outer s H vs Q E hr h=>?_)
 ·obtain⟨v,r,rfl,_⟩:=h;rfl
 obtain⟨v,r,rfl,hv,hq,k⟩:=h;have zn7:=@pss3;have zmu:=@ps_if;have zmt:=@zav;have qpv:=@pv;have znq:=@zjw;have zmr:=@zae;have zmp:=@zao;have zmx:=@zcu;have zn6:=@zde;have zmv:=@zb5;have zmn:=@pe_ix;have zmm:=@zaz;have znw:=@zk6;have qpa1:=@pa1;generalize @L2.PE=QE,@L2.PT=QT,@L2.PW=QW,@L2.PA=QA,@L2.PS=QS,@L2.PSs=QSs,@L2.PG=QG,@L2.PGs=QGs,@L2.PI=QI,@L2.PO=QO,@L2.PIf=QIf at zn7 zmu zmt qpv znq zmr zmp zmx zn6 zmv zmn zmm znw qpa1⊢;refine⟨_,
  (zn7
   (zmu (zmt op_isN (qpv 0) znq (nomark _)) (zmr (zmp (zmx zn6))) zmv)
   (zmu (zmt op_eq (zmn za0 (qpv 0) zmm (fun _ _=>rfl)) znw (nomark _)) (zmr (zmp (zmx (qpa1 (zmn za0 (qpv 0) zmm (fun _ _=>rfl)) za3)))) zmv)
   (zmp (zmn za0 (qpv 0) zmm (fun _ _=>rfl))))
  ,?_⟩
 clear zn7 zmu zmt qpv znq zmr zmp zmx zn6 zmv zmn zmm znw qpa1 QE QT QW QA QS QSs QG QGs QI QO QIf
 dsimp! [L2.start]
 simp! []
 cases r with
 |none=>
  have ev:v=.non:=hv;subst ev;rw[decide_eq_true (rfl:V.non=V.non)];exact iteT fun t ht=>k t [] [] _ (za2 ht _) upd_same (by simp) .nil (fun p=>⟨fun h=>(by cases h),fun h=>h.elim⟩)
 |spot q=>
  obtain⟨x,y,rfl,h1,h2⟩:=hv;simp! [h1];refine⟨rfl,fun t ht=>?_⟩;have g:=za2 ht (HO.tup [V.ref y]);exact k t [.ref y] [q] _ g upd_same (by simp) (.one ⟨g _ _ h2,hq q rfl⟩) (fun p=>kr)
 |part a b=>
  obtain⟨x,y,m,n,rfl,h1,h2,h3,h4⟩:=hv;simp! [h1];refine⟨rfl,?_⟩;rw[decide_eq_false (by decide:¬(V.str (pK "part")=V.str (pK "spot")))]
  refine iteF (k y [.ref m,.ref n] [a,b] H (.refl _) h2 (by simp) ((LR.one (R:=QH) (a:=a) ⟨h3,hq a (.inl rfl)⟩).app (.one ⟨h4,hq b (.inr rfl)⟩)) (fun p=>?_))
  show p∈[a,b]↔p=a∨p=b
  simp
theorem zih{H H':Hp}{tb tc:Addr}{lp lp':Pos}{ql ql':Str}(h:LamTab H tb lp ql)(h':LamTab H tc lp' ql')(ne:tb≠tc)(g:SameT tc H H'):LamTab H' tb lp ql:=by
 obtain⟨ps,h1,h2,h3⟩:=h;refine⟨ps,g _ _ ne h1,h2,h3.imp id fun⟨c,e,hc⟩=>⟨c,e,g _ _ (h'.ne hc fun _ z=>nomatch z) hc⟩⟩
def mtI(ss:List (Q3×Q3))(x:Nat×Nat):MR:=mtF (ss.getD x.1 zQ).1 (ss.getD x.1 zQ).2 (ss.getD x.2 zQ).1 (ss.getD x.2 zQ).2
def EndOf(ss:List (Q3×Q3))(q:Q3)(i:Nat):Prop:=∃e,ss[i]?=some e/\(q=e.1∨q=e.2)
def LyT(ss:List (Q3×Q3))(ps:List (Nat×Nat))(q:Q3)(i:Nat):Prop:=EndOf ss q i∨∃x,x∈ps/\(i=x.1∨i=x.2)/\Shr (mtI ss x) q
theorem zm0{a b c d:Q3}(ha:PQ 130 a)(hb:PQ 130 b)(hc:PQ 130 c)(hd:PQ 130 d)(bab:bq a b=true)(bcd:bq c d=true){p:Q3}(h:Shr (mtF a b c d) p):PQ 700 p/\on3 a b p=true/\on3 c d p=true:=by
 obtain⟨b1,b2,b3⟩:=cr_bd ha hb hc hd
 cases e:mtF a b c d with
 |none=>rw[e] at h;cases h
 |spot q=>
  rw[e] at h;have h':p=q:=h;subst h';obtain⟨_,p1,p2,p3,_⟩:=zkr (m:=700) (by decide) ha hb hc hd bab bcd (zag b1 (by decide)) (zag b2 (by decide)) (zag b3 (by decide)) e
  exact⟨p1,p2,p3⟩
 |part u v=>
  rw[e] at h;have h':p=u∨p=v:=h;obtain⟨_,_,p1,p2,_,p3,p4,_⟩:=zll ha hb hc hd bab bcd e;rcases h' with rfl|rfl
  ·exact⟨Pt.mono p1 (by decide),p3.1,p3.2⟩
  ·exact⟨Pt.mono p2 (by decide),p4.1,p4.2⟩
def sp_lying(tb:Addr)(lp:Pos)(ql:Str):Sp:=fun vs H Q _=>∃(l:Addr)(ys:List V)(ss:List (Q3×Q3)),vs=[.ref l]/\H l=some (.lst ys)/\ys.length<=63/\LR (StE 130) H ys ss/\LamTab H tb lp ql/\
 ∀(d:Addr)(os:List Addr)(kvs:List (List Key×V))(qs:List Q3)(ps:List (Nat×Nat))(g:Int)(H':Hp),SameT tb H H'->LamTab H' tb lp ql->(∀b,b∈os->H b=none)->Ly H' d os 17000 (LyT ss ps) kvs qs->0<g->(∀p,p∈ss.flatMap (fun s=>[s.1,s.2])->p.w<=g)->(∀e,e∈ps->e.1<ys.length/\e.2<ys.length)->
  (∀a b,a<ys.length->b<ys.length->a≠b->Nigh g (ss.getD a zQ) (ss.getD b zQ)->(a,b)∈ps∨(b,a)∈ps)->Q (.ref d) H'
theorem s2_of{H:Hp}{ys:List V}{ss:List (Q3×Q3)}(h:LR (StE 130) H ys ss):LR S2H H ys ss:=⟨h.1,fun j v z=>by
 obtain⟨p,e,e1,e2,c,d,h1,h2,h3,_⟩:=h.2 j v z;exact⟨p,e,e1,e2,c,d,h1,PtH.mono h2 (by decide),PtH.mono h3 (by decide)⟩⟩
structure LI(tb:Addr)(H H':Hp)(Dp t:Addr)(pv xs:List V)(ps:List (Nat×Nat))(rs:List Q3)(os:List Addr):Prop where
 st:SameT tb H H'
 lt:LamTab H' tb lposN qlN
 dp:H' Dp=some (.lst pv)
 pvs:LR PrH H' pv ps
 tt:H' t=some (.tup xs)
 rr:LR QH H' xs rs
 ow:∀b,b∈os->H b=none
theorem LI.note{tb:Addr}{H H8 H9:Hp}{Dp t d:Addr}{pv xs:List V}{ps:List (Nat×Nat)}{rs:List Q3}{os os':List Addr}{n:Nat}{T:Q3->Nat->Prop}{kvs:List (List Key×V)}{qs:List Q3}(I:LI tb H H8 Dp t pv xs ps rs os)(L:Ly H8 d os n T kvs qs)(fr:∀b o,H8 b=some o->b∉os->H9 b=some o)(ow:∀b,b∈os'->b∈os∨H8 b=none)(ht:∀b,H8 b=none->H b=none):LI tb H H9 Dp t pv xs ps rs os':=by
 have ts:TupSame H8 H9:=fun b ys h=>fr b _ h (L.not h (fun _ z=>nomatch z) fun _ z=>nomatch z);refine⟨fun b o nb h=>fr b o (I.st b o nb h) fun z=>?_,?_,fr _ _ I.dp (L.not I.dp (fun _ z=>nomatch z) fun _ z=>nomatch z),I.pvs.ts pr_ts ts,ts _ _ I.tt,I.rr.ts qh_ts ts,fun b hb=>?_⟩
 ·rw[I.ow b z] at h
  cases h
 ·obtain⟨tp,h1,h2,h3⟩:=I.lt;exact⟨tp,fr _ _ h1 (L.not h1 (fun _ z=>nomatch z) fun _ z=>nomatch z),h2,h3.imp id fun⟨c,e,hc⟩=>⟨c,e,fr _ _ hc (L.not hc (fun _ z=>nomatch z) fun _ z=>nomatch z)⟩⟩
 ·rcases ow b hb with z|z
  ·exact I.ow b z
  ·exact ht b z
theorem ok_lying_at(T:Txt K mg ad fd)(hK:K.In base)(hB:∀b,b∈([ad 41,ad 43]:List Addr)->base.BuiltinsAt mg b):FnOk P w K mg base CX0 5 (ad 15) (fd 15) ["stretches"] (sp_lying (ad 43) lposN qlN):=by
 refine T.lying_at.fn.ok zc1 (fun vs H Q E h=>?_) (fun cdv A outer s H vs Q E hr h=>?_)
 ·obtain⟨l,ys,ss,rfl,_⟩:=h;rfl
 obtain⟨l,ys,ss,rfl,hl,hn,hs,lt,k⟩:=h;have zn4:=@pss4;have zmq:=@zbl;have zo6:=@zk1;have zn0:=@ze4;have zoq:=@pi_enu;have qpa1:=@pa1;have qpv:=@pv;have zo3:=@zkb;have znk:=@zg5;have zmw:=@zby;have zno:=@zhj;have zmr:=@zae;have zof:=@pi_tup;have zn5:=@zdz;have zms:=@zb3;have qpa3:=@pa3;have zn1:=@zdl;have qpa2:=@pa2;have zmn:=@pe_ix;have zmz:=@pss2;have zmp:=@zao;generalize @L2.PE=QE,@L2.PT=QT,@L2.PW=QW,@L2.PA=QA,@L2.PS=QS,@L2.PSs=QSs,@L2.PG=QG,@L2.PGs=QGs,@L2.PI=QI,@L2.PO=QO,@L2.PIf=QIf at zn4 zmq zo6 zn0 zoq qpa1 qpv zo3 znk zmw zno zmr zof zn5 zms qpa3 zn1 qpa2 zmn zmz zmp⊢;refine⟨_,
  (zn4
   (zmq (i:=1) zc1.nd rfl (kc rfl) zo6)
   (zn0 pM rfl (zoq rfl T.b_enumerate (qpa1 (qpv 0) za1)) (zo3 (n:=2) rfl (znk (zmw (i:=2) zc1.nd rfl (kc rfl)) (znk (zmw (i:=3) zc1.nd rfl (kc rfl)) zno))) (zmr (zn0 pM rfl (zof (qpv 3)) (zmw (i:=4) zc1.nd rfl (kc rfl)) (zmr (zn5 (zms (ziu T) (hr.mono (by decide)) rfl T.note.mg T.note.fn.kp T.note.bn .nil pass0 (qpa3 (qpv 1) za1 (qpv 4) za1 (qpv 2) za1)))))))
   (zn0 pM rfl (zn1 (zms (ok_near_pairs T hK hB) (hr.mono (by decide)) rfl T.near_pairs.mg T.near_pairs.fn.kp T.near_pairs.bn .nil pass0 (qpa1 (qpv 0) za1))) (zo3 (n:=2) rfl (znk (zmw (i:=5) zc1.nd rfl (kc rfl)) (znk (zmw (i:=6) zc1.nd rfl (kc rfl)) zno))) (zmr (zn0 pM rfl (zof (zms (ok_shared_ends T) (hr.mono (by decide)) rfl T.shared_ends.mg T.shared_ends.fn.kp T.shared_ends.bn .nil pass0 (qpa1 (zms (ok_meet T) (hr.mono (by decide)) rfl T.meet.mg T.meet.fn.kp T.meet.bn .nil pass0 (qpa2 (zmn zaa (qpv 0) (qpv 5) (fun _ _=>rfl)) za3 (zmn zaa (qpv 0) (qpv 6) (fun _ _=>rfl)) za3)) zak))) (zmw (i:=4) zc1.nd rfl (kc rfl)) (zmz
   (zn5 (zms (ziu T) (hr.mono (by decide)) rfl T.note.mg T.note.fn.kp T.note.bn .nil pass0 (qpa3 (qpv 1) za1 (qpv 4) za1 (qpv 5) za1)))
   (zn5 (zms (ziu T) (hr.mono (by decide)) rfl T.note.mg T.note.fn.kp T.note.bn .nil pass0 (qpa3 (qpv 1) za1 (qpv 4) za1 (qpv 6) za1)))))))
   (zmp (qpv 1)))
  ,?_⟩
 clear zn4 zmq zo6 zn0 zoq qpa1 qpv zo3 znk zmw zno zmr zof zn5 zms qpa3 zn1 qpa2 zmn zmz zmp QE QT QW QA QS QSs QG QGs QI QO QIf
 dsimp! [L2.start]
 simp! [tDNewT];intro d hd;have g1:=za2 hd (HO.dT []);have hd1:upd H d (HO.dT []) d=some (.dT []):=upd_same;generalize upd H d (HO.dT [])=H1 at*;have L1:Ly H1 d [d] 0 (fun q i=>i<0/\EndOf ss q i) [] []:=⟨kr.mpr rfl,hd1,rfl,.nil,fun q hq=>(by cases hq),fun q=>⟨fun h=>(by cases h),fun⟨i,h,_⟩=>(by omega)⟩,kI _,fun q hq=>(by cases hq),fun q q' b h=>(by cases h),fun b hb=>(by rw[kr.mp hb];exact .inl ⟨_,hd1⟩)⟩
 refine zbz ?_;simp! [iEnu];refine⟨⟨ys,g1 _ _ hl⟩,fun K'=>?_⟩;refine for_enuO (K:=K') (l:=l) (xs:=ys) (fun i σ H'=>∃(os:List Addr)(kvs:List (List Key×V))(qs:List Q3)(o2 o3 o4 o5 o6:Option V),σ=[some (V.ref l),some (V.ref d),o2,o3,o4,o5,o6]/\Same H H'/\(∀b,b∈os->H b=none)/\Ly H' d os (2*i) (fun q j=>j<i/\EndOf ss q j) kvs qs) ⟨[d],[],[],none,none,none,none,none,rfl,g1,fun b hb=>(by rw[kr.mp hb];exact hd),L1⟩ (fun i σ H' iv=>?_) ?_ ?_
 ·obtain⟨os,kvs,qs,o2,o3,o4,o5,o6,_,g,_⟩:=iv;exact g _ _ hl
 ·intro _ _;rintro i v Tn σ H2 hi ⟨os,kvs,qs,o2,o3,o4,o5,o6,rfl,g2,hos,L2'⟩ hTn;have hi':=(kG.mp hi).1;obtain⟨p,e,rfl,he,c,c2,h1,h2,h3,hb⟩:=hs.2 i v hi;have g3:=za2 hTn (HO.tup [V.int (i:Int),V.ref p]);have t3:upd H2 Tn (HO.tup [V.int (i:Int),V.ref p]) Tn=some (HO.tup [V.int (i:Int),V.ref p]):=upd_same;generalize upd H2 Tn (HO.tup [V.int (i:Int),V.ref p])=H3 at*;simp! [t3];have g03:=g2.trans g3;have hp3:=g03 _ _ h1;refine zbz ?_;simp! [iTup];refine⟨⟨_,.of hp3⟩,?_⟩;refine zjr (K:=K) (a:=p) (xs:=[V.ref c,V.ref c2]) (fun m σ H'=>∃(os:List Addr)(kvs:List (List Key×V))(qs:List Q3)(o4 o5 o6:Option V),σ=[some (V.ref l),some (V.ref d),some (V.int (i:Int)),some (V.ref p),o4,o5,o6]/\Same H H'/\H' p=some (.tup [.ref c,.ref c2])/\(∀b,b∈os->H b=none)/\Ly H' d os (2*i+m) (fun q j=>(j<i/\EndOf ss q j)∨(j=i/\((1<=m/\q=e.1)∨(2<=m/\q=e.2)))) kvs qs)
   ⟨os,kvs,qs,o4,o5,o6,rfl,g03,hp3,hos,(L2'.same g3).to fun q j=>⟨.inl,fun h=>h.elim id fun⟨_,h⟩=>(by omega)⟩⟩ (fun m σ H' _ iv=>?_) ?_ ?_
  ·obtain⟨_,_,_,_,_,_,_,_,h,_⟩:=iv;exact .of h
  ·intro _ _;rintro m v σ H4 hm ⟨os,kvs,qs,o4,o5,o6,rfl,g4,hp4,hos4,L4⟩;obtain⟨cc,r,rfl,hcc,hmr⟩:∃(cc:Addr)(r:Q3),v=.ref cc/\QH H4 cc r/\∀q,((1<=m/\q=e.1)∨(2<=m/\q=e.2)∨q=r)↔((1<=m+1/\q=e.1)∨(2<=m+1/\q=e.2)):=by
    match m,hm with
    |0,hm=>
     cases hm;exact⟨c,e.1,rfl,⟨g4 _ _ h2.1,Pt.mono h2.2 (by decide)⟩,fun q=>⟨fun h=>(by rcases h with h|h|h;omega;omega;exact .inl ⟨by omega,h⟩),fun h=>(by rcases h with h|h;exact .inr (.inr h.2);omega)⟩⟩
    |1,hm=>
     cases hm;exact⟨c2,e.2,rfl,⟨g4 _ _ h3.1,Pt.mono h3.2 (by decide)⟩,fun q=>⟨fun h=>(by rcases h with h|h|h;exact .inl ⟨by omega,h.2⟩;omega;exact .inr ⟨by omega,h⟩),fun h=>(by rcases h with h|h;exact .inl ⟨by omega,h.2⟩;exact .inr (.inr h.2))⟩⟩
    |(n+2),hm=>cases hm
   have hm2:m<2:=(kG.mp hm).1;simp! [];refine⟨d,cc,os,_,_,kvs,qs,r,i,rfl,L4,by omega,hcc,fun os' kvs' qs' H5 fr ow L5=>?_⟩
   have g5:Same H H5:=fun b o h=>fr b o (g4 _ _ h) fun z=>by
    have:=hos4 b z;rw[this] at h
    cases h
   refine⟨g5,g5 _ _ h1,os',fun b hb=>?_,kvs',qs',?_⟩
   ·rcases ow b hb with z|z
    ·exact hos4 b z
    ·exact g4.free z
   ·refine L5.to fun q j=>?_;have:=hmr q
    constructor
    ·rintro((h|⟨h,h'⟩)|⟨h,h'⟩)
     ·exact .inl h
     ·exact .inr ⟨h,this.mp (h'.elim .inl fun z=>.inr (.inl z))⟩
     ·exact .inr ⟨h',this.mp (.inr (.inr h))⟩
    ·rintro(h|⟨h,h'⟩)
     ·exact .inl (.inl h)
     ·rcases this.mpr h' with z|z|z
      ·exact .inl (.inr ⟨h,.inl z⟩)
      ·exact .inl (.inr ⟨h,.inr z⟩)
      ·exact .inr ⟨z,h⟩
  ·rintro σ H4 ⟨os,kvs,qs,o4,o5,o6,rfl,g4,hp4,hos4,L4⟩;simp! [];refine⟨g4,os,hos4,kvs,qs,?_⟩;have e2:2*(i+1)=2*i+[V.ref c,V.ref c2].length:=rfl;rw[e2];refine L4.to fun q j=>?_
   constructor
   ·rintro(⟨h,h'⟩|⟨rfl,h|h⟩)
    ·exact⟨by omega,h'⟩
    ·exact⟨by omega,e,he,.inl h.2⟩
    ·exact⟨by omega,e,he,.inr h.2⟩
   ·rintro⟨h,h'⟩
    by_cases ji:j=i
    ·subst ji;obtain⟨e',he',h'⟩:=h';rw[he] at he'
     cases he';rcases h' with h'|h'
     ·exact .inr ⟨rfl,.inl ⟨by show 1<=2;omega,h'⟩⟩
     ·exact .inr ⟨rfl,.inr ⟨by show 2<=2;omega,h'⟩⟩
    ·exact .inl ⟨by omega,h'⟩
 ·rintro σ H2 ⟨os,kvs,qs,o2,o3,o4,o5,o6,rfl,g2,hos,L2'⟩;simp! [];have lss:ss.length=ys.length:=hs.1.symm;have L3:Ly H2 d os (2*ys.length) (EndOf ss) kvs qs:=L2'.to fun q j=>⟨fun h=>h.2,fun h=>⟨by
   obtain⟨e,he,_⟩:=h;have:=(kG.mp he).1;omega,h⟩⟩
  refine zbz ?_;simp! [iList];refine⟨l,ys,ss,rfl,g2 _ _ hl,hn,(s2_of hs).ts s2_ts (zan g2),lt.same g2,fun Dp pv ps g H3 hDp st3 lt3 hDp3 lpv hpv gp gm hps hnear=>?_⟩;have tbo:∀b,H b=none->b≠(ad 43):=fun b hb z=>by
   obtain⟨tp,e,_⟩:=lt;rw[←z,hb] at e
   cases e
  have st03:SameT (ad 43) H H3:=fun b o nb h=>st3 b o nb (g2 _ _ h);have L4:=L3.keep (H':=H3) fun b o hb h=>st3 b o (tbo b (hos b hb)) h;refine⟨Dp,rfl,⟨_,.of hDp3⟩,?_⟩;refine zdp (K:=K) (a:=Dp) (xs:=pv) (fun i σ H'=>∃(os:List Addr)(kvs:List (List Key×V))(qs:List Q3)(o2 o3 o4 o5 o6:Option V),σ=[some (V.ref l),some (V.ref d),o2,o3,o4,o5,o6]/\SameT (ad 43) H H'/\LamTab H' (ad 43) lposN qlN/\H' Dp=some (.lst pv)/\LR PrH H' pv ps/\(∀b,b∈os->H b=none)/\Ly H' d os (2*ys.length+4*i) (fun q j=>EndOf ss q j∨∃x,x∈ps.take i/\(j=x.1∨j=x.2)/\Shr (mtI ss x) q) kvs qs)
   ⟨os,kvs,qs,o2,o3,o4,o5,o6,rfl,st03,lt3,hDp3,hpv,hos,L4.to fun q j=>⟨.inl,fun h=>h.elim id fun⟨x,hx,_⟩=>(by rw[uO] at hx;cases hx)⟩⟩ (fun i σ H' _ iv=>?_) ?_ ?_
  ·obtain⟨_,_,_,_,_,_,_,_,_,_,_,h,_⟩:=iv;exact .of h
  ·intro _ _;rintro i v σ H5 hi ⟨os,kvs,qs,o2,o3,o4,o5,o6,rfl,st5,lt5,hDp5,hpv5,hos5,L5⟩;have hi':=(kG.mp hi).1;obtain⟨pp,x,rfl,hx,hpp⟩:=hpv5.2 i v hi;have hpp':H5 pp=some (.tup [.int (x.1:Int),.int (x.2:Int)]):=hpp;obtain⟨x1,x2⟩:=hps x (kg hx);have hl5:=st5.lst lt hl;have tup5:∀{b:Addr}{xs:List V},H b=some (.tup xs)->H5 b=some (.tup xs):=fun h=>st5.tup lt h;obtain⟨s1,e1,i1,j1,c1,d1,k1,k2,k3,k4⟩:=hs.at x1;obtain⟨s2,e2,i2,j2,c2,d2,m1,m2,m3,m4⟩:=hs.at x2;have a1:atI ys (x.1:Int)=some (.ref s1):=zaq i1;have a2:atI ys (x.2:Int)=some (.ref s2):=zaq i2;have em:mtI ss x=mtF e1.1 e1.2 e2.1 e2.2:=by
    unfold mtI;rw[kB,kB,j1,j2];rfl
   simp! [hpp'];refine zbz ?_;simp! [iTup,hl5,a1,a2];refine⟨s1,s2,c1,d1,c2,d2,e1.1,e1.2,e2.1,e2.2,rfl,⟨tup5 k1,tup5 m1,⟨tup5 k2.1,k2.2⟩,⟨tup5 k3.1,k3.2⟩,⟨tup5 m2.1,m2.2⟩,⟨tup5 m3.1,m3.2⟩⟩,fun v6 H6 g6 mv=>?_⟩;refine⟨v6,_,rfl,mv,fun p hp=>(zm0 k2.2 k3.2 m2.2 m3.2 k4 m4 hp).1,fun t xs rs H7 g7 ht7 lx hr7 mr=>?_⟩;have g57:=g6.trans g7;have L7:=L5.same g57;refine⟨t,rfl,⟨_,.of ht7⟩,?_⟩;have I7:LI (ad 43) H H7 Dp t pv xs ps rs os:=⟨SameT.same st5 g57,lt5.same g57,g57 _ _ hDp5,hpv5.ts pr_ts (zan g57),ht7,hr7,hos5⟩;refine zjr (K:=K) (a:=t) (xs:=xs) (fun m σ H'=>∃(os:List Addr)(kvs:List (List Key×V))(qs:List Q3)(o2 o3 o4:Option V),σ=[some (V.ref l),some (V.ref d),o2,o3,o4,some (V.int (x.1:Int)),some (V.int (x.2:Int))]/\LI (ad 43) H H' Dp t pv xs ps rs os/\Ly H' d os (2*ys.length+4*i+2*m) (fun q j=>(EndOf ss q j∨∃x,x∈ps.take i/\(j=x.1∨j=x.2)/\Shr (mtI ss x) q)∨(q∈rs.take m/\(j=x.1∨j=x.2))) kvs qs)
    ⟨os,kvs,qs,o2,o3,o4,rfl,I7,L7.to fun q j=>⟨.inl,fun h=>h.elim id fun h=>(by have:=h.1;rw[uO] at this;cases this)⟩⟩ (fun m σ H' _ iv=>?_) ?_ ?_
   ·obtain⟨_,_,_,_,_,_,_,h,_⟩:=iv;exact .of h.tt
   ·intro _ _;rintro m v σ H8 hm ⟨os,kvs,qs,o2,o3,o4,rfl,I8,L8⟩;have hm':=(kG.mp hm).1;obtain⟨cc,r,rfl,hr,hcc⟩:=I8.rr.2 m v hm;simp! [];refine⟨d,cc,os,_,_,kvs,qs,r,x.1,rfl,L8,by omega,hcc,fun os9 kvs9 qs9 H9 fr9 ow9 L9=>?_⟩
    have nn:∀{H':Hp},SameT (ad 43) H H'->LamTab H' (ad 43) lposN qlN->∀b,H' b=none->H b=none:=fun{H'} s' l' b hb=>by
     cases e:H b with
     |none=>rfl
     |some o=>
      by_cases nb:b=(ad 43)
      ·obtain⟨tp,e3,_⟩:=l';rw[←nb,hb] at e3
       cases e3
      ·rw[s' b o nb e] at hb
       cases hb
    have I9:=I8.note L8 fr9 ow9 (nn I8.st I8.lt);obtain⟨cc',r',ecc,hr',hcc'⟩:=I9.rr.2 m _ hm
    cases ecc;rw[hr] at hr'
    cases hr';simp! [];refine⟨d,cc,os9,_,_,kvs9,qs9,r,x.2,rfl,L9,by omega,hcc',fun os10 kvs10 qs10 H10 fr10 ow10 L10=>?_⟩
    have I10:=I9.note L9 fr10 ow10 (nn I9.st I9.lt);refine⟨os10,I10,kvs10,qs10,?_⟩;rw[show 2*ys.length+4*i+2*(m+1)=2*ys.length+4*i+2*m+1+1 by omega]
    refine L10.to fun q j=>?_;rw[uA,hr];show((_∨_)∨_)↔_∨(q∈rs.take m++[r]/\_);rw[kf,kr]
    constructor
    ·rintro((h|h)|h)
     ·rcases h with h|h
      ·exact .inl h
      ·exact .inr ⟨.inl h.1,h.2⟩
     ·exact .inr ⟨.inr h.1,.inl h.2⟩
     ·exact .inr ⟨.inr h.1,.inr h.2⟩
    ·rintro(h|⟨h|h,h'|h'⟩)
     ·exact .inl (.inl (.inl h))
     ·exact .inl (.inl (.inr ⟨h,.inl h'⟩))
     ·exact .inl (.inl (.inr ⟨h,.inr h'⟩))
     ·exact .inl (.inr ⟨h,h'⟩)
     ·exact .inr ⟨h,h'⟩
   ·rintro σ H8 ⟨os,kvs,qs,o2,o3,o4,rfl,I8,L8⟩;simp! [];refine⟨I8.st,I8.lt,I8.dp,I8.pvs,os,I8.ow,kvs,qs,(L8.le (by omega)).to fun q j=>?_⟩
    rw[kx (Qq hr7.1.symm),mr,uA,hx,←em]
    constructor
    ·rintro((h|⟨y,h1,h2⟩)|h)
     ·exact .inl h
     ·exact .inr ⟨y,pi _ h1,h2⟩
     ·exact .inr ⟨x,kJ _ (by simp),h.2,h.1⟩
    ·rintro(h|⟨y,h1,h2,h3⟩)
     ·exact .inl (.inl h)
     ·rcases kf.mp h1 with h1|h1
      ·exact .inl (.inr ⟨y,h1,h2,h3⟩)
      ·have e':y=x:=by simpa using h1
       rw[e'] at h2 h3;exact .inr ⟨h3,h2⟩
  ·rintro σ H5 ⟨os,kvs,qs,o2,o3,o4,o5,o6,rfl,st5,lt5,hDp5,hpv5,hos5,L5⟩;simp! [];rw[kx (Qq hpv5.1.symm)] at L5;exact k d os kvs qs ps g H5 st5 lt5 hos5 (L5.le (by omega)) gp gm hps hnear
theorem bq_dir{p q:Q3}(h:bq p q=true):dX p q≠0∨dY p q≠0:=by
 have:=bq_lt.mp h;unfold Lt LP at this;simp only[CZ] at this;rcases this with h|⟨_,h⟩
 ·exact .inl (by omega)
 ·exact .inr (by omega)
theorem cr_same(a b:Q3):crW a b a b=0:=by unfold crW;grind
theorem cr_on{a b c d q:Q3}(h1:dt a b q=0)(h2:dt c d q=0):q.x*crW a b c d=crX a b c d*q.w/\q.y*crW a b c d=crY a b c d*q.w:=by
 unfold dt det3 at h1 h2;unfold crX crY crW;generalize lnA a.x a.y a.w b.x b.y b.w=A at*;generalize lnB a.x a.y a.w b.x b.y b.w=B at*;generalize lnC a.x a.y a.w b.x b.y b.w=C at*;generalize lnA c.x c.y c.w d.x d.y d.w=A' at*;generalize lnB c.x c.y c.w d.x d.y d.w=B' at*;generalize lnC c.x c.y c.w d.x d.y d.w=C' at*
 constructor<;>grind
theorem ln_dir(a b:Q3):lnA a.x a.y a.w b.x b.y b.w= -dY a b/\lnB a.x a.y a.w b.x b.y b.w=dX a b:=by
 unfold lnA lnB dX dY
 constructor<;>grind
theorem par_tr{A B A1 B1 A2 B2:Int}(h:A≠0∨B≠0)(e1:A*B1-B*A1=0)(e2:A*B2-B*A2=0):A1*B2-B1*A2=0:=by
 have f1:A*(A1*B2-B1*A2)=0:=by grind
 have f2:B*(A1*B2-B1*A2)=0:=by grind
 rcases h with h|h
 ·exact(pL.mp f1).resolve_left h
 ·exact(pL.mp f2).resolve_left h
theorem ln_ne{a b:Q3}(h:bq a b=true):lnA a.x a.y a.w b.x b.y b.w≠0∨lnB a.x a.y a.w b.x b.y b.w≠0:=by
 obtain⟨e1,e2⟩:=ln_dir a b;rw[e1,e2];rcases bq_dir h with h|h
 ·exact .inr h
 ·exact .inl (by omega)
theorem zlw{a b c d e f:Q3}(h:bq a b=true)(h1:crW a b c d=0)(h2:crW a b e f=0):crW c d e f=0:=par_tr (ln_ne h) h1 h2
theorem zdj{a b c d q r:Q3}(hq:0<q.w)(bcd:bq c d=true)(z:crW a b c d=0)(h1:dt a b q=0)(h2:dt c d q=0)(hr:dt c d r=0):dt a b r=0:=by
 have ln:=ln_ne bcd;unfold crW at z;unfold dt det3 at*;generalize lnA a.x a.y a.w b.x b.y b.w=A at*;generalize lnB a.x a.y a.w b.x b.y b.w=B at*;generalize lnC a.x a.y a.w b.x b.y b.w=C at*;generalize lnA c.x c.y c.w d.x d.y d.w=A' at*;generalize lnB c.x c.y c.w d.x d.y d.w=B' at*;generalize lnC c.x c.y c.w d.x d.y d.w=C' at*;have e:q.w*(A*r.x+B*r.y+C*r.w)=0:=by
  have f1:A'*(q.w*(A*r.x+B*r.y+C*r.w))=0:=by grind
  have f2:B'*(q.w*(A*r.x+B*r.y+C*r.w))=0:=by grind
  rcases ln with h|h
  ·exact(pL.mp f1).resolve_left h
  ·exact(pL.mp f2).resolve_left h
 exact(pL.mp e).resolve_left (by omega)
theorem zgs(a b:Q3):dt a b a=0/\dt a b b=0:=⟨zfy a b,zf4 a b⟩
theorem zjc{a b:Q3}(h:bq a b=true):on3 a b a=true/\on3 a b b=true:=⟨on_of (zfy a b) (zep a) (zdm h),on_of (zf4 a b) (zdm h) (zep b)⟩
theorem zjq{n:Nat}{a b c d q:Q3}(ha:PQ n a)(hb:PQ n b)(hc:PQ n c)(hd:PQ n d)(hq:PQ n q)(s0:dt a b c=0)(s1:dt a b d=0)(h1:on3 a b q=true)(h2:on3 c d q=true)(e:q=a∨q=b∨q=c∨q=d):Shr (mtF a b c d) q:=by
 obtain⟨_,i1,i2⟩:=zc0 h1;obtain⟨_,j1,j2⟩:=zc0 h2;unfold mtF;rw[s0,s1,if_pos ⟨zei,zei⟩];have F:fst3 a c=q∨(bq (fst3 a c) q=true/\bq q (fst3 a c)=false):=by
  unfold fst3
  split
  ·by_cases z:bq c q=true
   ·exact .inr ⟨z,j1⟩
   ·exact .inl (zgg hc hq z (by rw[j1];decide))
  ·by_cases z:bq a q=true
   ·exact .inr ⟨z,i1⟩
   ·exact .inl (zgg ha hq z (by rw[i1];decide))
 have S:snd3 b d=q∨(bq q (snd3 b d)=true/\bq (snd3 b d) q=false):=by
  unfold snd3
  split
  ·by_cases z:bq q b=true
   ·exact .inr ⟨z,i2⟩
   ·exact .inl (zgg hb hq (by rw[i2];decide) z)
  ·by_cases z:bq q d=true
   ·exact .inr ⟨z,j2⟩
   ·exact .inl (zgg hd hq (by rw[j2];decide) z)
 have E:fst3 a c=q∨snd3 b d=q:=by
  rcases e with rfl|rfl|rfl|rfl
  ·left;unfold fst3;rw[if_neg (by rw[j1];decide)]
  ·right;unfold snd3
   split
   ·rfl
   ·rename_i z
    exact zgg hd hq (by rw[j2];decide) z
  ·left;unfold fst3
   split
   ·rfl
   ·rename_i z
    exact zgg ha hq z (by rw[i1];decide)
  ·right;unfold snd3;rw[if_neg (by rw[i2];decide)]
 have nb:¬bq (snd3 b d) (fst3 a c)=true:=by
  rcases E with E|E
  ·rw[E];rcases S with S|S
   ·rw[S,zep];decide
   ·rw[S.2];decide
  ·rw[E];rcases F with F|F
   ·rw[F,zep];decide
   ·rw[F.2];decide
 unfold mtL;rw[if_neg nb]
 by_cases z:(fst3 a c).x=(snd3 b d).x/\(fst3 a c).y=(snd3 b d).y/\(fst3 a c).w=(snd3 b d).w
 ·rw[if_pos z];show q=fst3 a c;rcases E with E|E
  ·exact E.symm
  ·rw[←E];exact(Q3.ext' z).symm
 ·rw[if_neg z];rcases E with E|E
  ·exact .inl E.symm
  ·exact .inr E.symm
structure Told(ss:List (Q3×Q3))(ps:List (Nat×Nat))(g:Int):Prop where
 ok:∀s,s∈ss->PQ 130 s.1/\PQ 130 s.2/\bq s.1 s.2=true
 gp:∀s,s∈ss->s.1.w<=g/\s.2.w<=g
 lt:∀e,e∈ps->e.1<ss.length/\e.2<ss.length
 all:∀a b,a<ss.length->b<ss.length->a≠b->Nigh g (ss.getD a zQ) (ss.getD b zQ)->(a,b)∈ps∨(b,a)∈ps
section
variable{ss:List (Q3×Q3)}{ps:List (Nat×Nat)}{g:Int}
theorem zbo{i:Nat}(h:i<ss.length):ss.getD i zQ∈ss:=by
 rw[kB,kL h];exact Uq h
def OnI(ss:List (Q3×Q3))(q:Q3)(i:Nat):Prop:=on3 (ss.getD i zQ).1 (ss.getD i zQ).2 q=true
theorem zd6{q:Q3}{i:Nat}:EndOf ss q i↔i<ss.length/\(q=(ss.getD i zQ).1∨q=(ss.getD i zQ).2):=by
 constructor
 ·rintro⟨e,h,z⟩;have hi:=(kG.mp h).1;rw[kB,h];exact⟨hi,z⟩
 ·rintro⟨hi,z⟩;rw[kB,kL hi] at z;exact⟨ss[i],kL hi,z⟩
theorem Told.lies(T:Told ss ps g){q:Q3}{i:Nat}(h:LyT ss ps q i):i<ss.length/\PQ 700 q/\OnI ss q i:=by
 rcases h with h|⟨x,hx,hi,hs⟩
 ·obtain⟨hi,z⟩:=zd6.mp h;obtain⟨o1,o2,o3⟩:=T.ok _ (zbo hi);refine⟨hi,?_⟩;unfold OnI;rcases z with z|z
  ·rw[z];exact⟨Pt.mono o1 (by decide),(zjc o3).1⟩
  ·rw[z];exact⟨Pt.mono o2 (by decide),(zjc o3).2⟩
 ·obtain⟨l1,l2⟩:=T.lt x hx;obtain⟨o1,o2,o3⟩:=T.ok _ (zbo l1);obtain⟨r1,r2,r3⟩:=T.ok _ (zbo l2);obtain⟨p1,p2,p3⟩:=zm0 o1 o2 r1 r2 o3 r3 hs;rcases hi with rfl|rfl
  ·exact⟨l1,p1,p2⟩
  ·exact⟨l2,p1,p3⟩
theorem Told.pair(T:Told ss ps g){q:Q3}{i j:Nat}(hi:i<ss.length)(hj:j<ss.length)(ne:i≠j)(hq:0<q.w)(oi:OnI ss q i)(oj:OnI ss q j):(i,j)∈ps∨(j,i)∈ps:=by
 obtain⟨o1,o2,o3⟩:=T.ok _ (zbo hi);obtain⟨r1,r2,r3⟩:=T.ok _ (zbo hj);obtain⟨g1,g2⟩:=T.gp _ (zbo hi);obtain⟨g3,g4⟩:=T.gp _ (zbo hj);exact T.all i j hi hj ne (nigh_of o1 o2 r1 r2 g1 g2 g3 g4 hq oi oj)
theorem zjt{q:Q3}{i j:Nat}(h:(i,j)∈ps∨(j,i)∈ps)(s1:Shr (mtI ss (i,j)) q)(s2:Shr (mtI ss (j,i)) q):LyT ss ps q i:=by
 rcases h with h|h
 ·exact .inr ⟨_,h,.inl rfl,s1⟩
 ·exact .inr ⟨_,h,.inr rfl,s2⟩
def CrI(ss:List (Q3×Q3))(i j:Nat):Int:=crW (ss.getD i zQ).1 (ss.getD i zQ).2 (ss.getD j zQ).1 (ss.getD j zQ).2
theorem Told.cross(T:Told ss ps g){m:Nat}(hm:700<=m){q:Q3}{i j:Nat}(hi:i<ss.length)(hj:j<ss.length)(hq:PQ m q)(oi:OnI ss q i)(oj:OnI ss q j)(c:CrI ss i j≠0):LyT ss ps q i:=by
 have ne:i≠j:=fun z=>by
  subst z;exact c (cr_same _ _)
 obtain⟨o1,o2,o3⟩:=T.ok _ (zbo hi);obtain⟨r1,r2,r3⟩:=T.ok _ (zbo hj);obtain⟨ex,ey⟩:=cr_on (zc0 oi).1 (zc0 oj).1;obtain⟨s1,s2,s3⟩:=zln (ss.getD i zQ).1 (ss.getD i zQ).2 (ss.getD j zQ).1 (ss.getD j zQ).2;obtain⟨b1,b2,b3⟩:=cr_bd o1 o2 r1 r2;obtain⟨d1,d2,d3⟩:=cr_bd r1 r2 o1 o2;have up:∀{z:Int},z.natAbs<2^(130+130+1+(130+130+1)+1)->z.natAbs<2^m:=fun h=>zag h (by omega)
 refine zjt (T.pair hi hj ne hq.pos oi oj) ?_ ?_
 ·show Shr (mtF _ _ _ _) q
  rw[zlf (by omega) o1 o2 r1 r2 o3 r3 (up b1) (up b2) (up b3) c hq ex ey oi oj]
  rfl
 ·show Shr (mtF _ _ _ _) q
  rw[zlf (by omega) r1 r2 o1 o2 r3 o3 (up d1) (up d2) (up d3) (by rw[s3];unfold CrI at c;omega) hq (by rw[s1,s3,AD,ur,ex]) (by rw[s2,s3,AD,ur,ey]) oj oi]
  rfl
theorem Told.ends(T:Told ss ps g){q:Q3}{i k:Nat}(hi:i<ss.length)(h:EndOf ss q k)(oi:OnI ss q i):LyT ss ps q i:=by
 obtain⟨hk,z⟩:=zd6.mp h;obtain⟨_,hq,ok⟩:=T.lies (.inl h:LyT ss ps q k)
 by_cases e:i=k
 ·subst e;exact .inl h
 by_cases c:CrI ss i k=0
 ·obtain⟨o1,o2,o3⟩:=T.ok _ (zbo hi);obtain⟨r1,r2,r3⟩:=T.ok _ (zbo hk);have up:∀{z:Q3},PQ 130 z->PQ 700 z:=fun h=>Pt.mono h (by decide)
  have c':crW (ss.getD k zQ).1 (ss.getD k zQ).2 (ss.getD i zQ).1 (ss.getD i zQ).2=0:=by
   have:=(zln (ss.getD i zQ).1 (ss.getD i zQ).2 (ss.getD k zQ).1 (ss.getD k zQ).2).2.2;unfold CrI at c;omega
  have l1:=(zc0 oi).1;have l2:=(zc0 ok).1;have de:=zgs (ss.getD k zQ).1 (ss.getD k zQ).2;have df:=zgs (ss.getD i zQ).1 (ss.getD i zQ).2;refine zjt (T.pair hi hk e hq.pos oi ok) ?_ ?_
  ·exact zjq (up o1) (up o2) (up r1) (up r2) hq (zdj hq.pos r3 c l1 l2 de.1) (zdj hq.pos r3 c l1 l2 de.2) oi ok (.inr (.inr z))
  ·exact zjq (up r1) (up r2) (up o1) (up o2) hq (zdj hq.pos o3 c' l2 l1 df.1) (zdj hq.pos o3 c' l2 l1 df.2) ok oi (z.imp id .inl)
 ·exact T.cross (kI _) hi hk hq oi ok c
theorem zhr{a b c d q:Q3}(ha:PQ 130 a)(hb:PQ 130 b)(hc:PQ 130 c)(hd:PQ 130 d)(bab:bq a b=true)(bcd:bq c d=true)(s0:dt a b c=0)(s1:dt a b d=0)(h:Shr (mtF a b c d) q):(q=a∨q=b)∨(q=c∨q=d):=by
 obtain⟨b1,b2,b3⟩:=cr_bd ha hb hc hd
 cases e:mtF a b c d with
 |none=>rw[e] at h;cases h
 |spot p=>
  rw[e] at h;have h':q=p:=h;obtain⟨_,_,_,_,z⟩:=zkr (m:=700) (by decide) ha hb hc hd bab bcd (zag b1 (by decide)) (zag b2 (by decide)) (zag b3 (by decide)) e
  rcases z ⟨by rw[s0,zei],by rw[s1,zei]⟩ with⟨z,_⟩|⟨z,_⟩
  ·exact .inl (.inr (h'.trans z))
  ·exact .inr (.inr (h'.trans z))
 |part u v=>
  rw[e] at h;have h':q=u∨q=v:=h;obtain⟨_,_,_,_,_,_,_,z1,z2⟩:=zll ha hb hc hd bab bcd e;rcases h' with h'|h'
  ·rcases z1 with z|z
   ·exact .inl (.inl (h'.trans z))
   ·exact .inr (.inl (h'.trans z))
  ·rcases z2 with z|z
   ·exact .inl (.inr (h'.trans z))
   ·exact .inr (.inr (h'.trans z))
theorem Told.full(T:Told ss ps g){q:Q3}{i j:Nat}(hi:i<ss.length)(h:LyT ss ps q j)(oi:OnI ss q i):LyT ss ps q i:=by
 obtain⟨hj,hq,oj⟩:=T.lies h;rcases h with h|⟨x,hx,hxj,hs⟩
 ·exact T.ends hi h oi
 obtain⟨l1,l2⟩:=T.lt x hx;obtain⟨_,_,n1⟩:=T.lies (.inr ⟨x,hx,.inl rfl,hs⟩:LyT ss ps q x.1);obtain⟨_,_,n2⟩:=T.lies (.inr ⟨x,hx,.inr rfl,hs⟩:LyT ss ps q x.2);obtain⟨o1,o2,o3⟩:=T.ok _ (zbo l1);obtain⟨r1,r2,r3⟩:=T.ok _ (zbo l2);obtain⟨t1,t2,t3⟩:=T.ok _ (zbo hi)
 by_cases c:CrI ss x.1 x.2=0
 ·have de:=zgs (ss.getD x.2 zQ).1 (ss.getD x.2 zQ).2;rcases zhr o1 o2 r1 r2 o3 r3 (zdj hq.pos r3 c (zc0 n1).1 (zc0 n2).1 de.1) (zdj hq.pos r3 c (zc0 n1).1 (zc0 n2).1 de.2) hs with z|z
  ·exact T.ends hi (zd6.mpr ⟨l1,z⟩) oi
  ·exact T.ends hi (zd6.mpr ⟨l2,z⟩) oi
 ·by_cases c1:CrI ss i x.1=0
  ·by_cases c2:CrI ss i x.2=0
   ·exact absurd (zlw t3 c1 c2) c
   ·exact T.cross (kI _) hi l2 hq oi n2 c2
  ·exact T.cross (kI _) hi l1 hq oi n1 c1
end
def lposB:Pos:=(lamAt zb8).2
def qlB:Str:=(AI "in_order" (defScope zb8) 0 0 .none).qual++"<lambda>"
def OrdOf(os ps:List Q3):Prop:=os.Pairwise (Lt 1)/\(∀p,p∈os↔p∈ps)/\os.length<=ps.length
def sp_inord(tb:Addr)(lp:Pos)(ql:Str):Sp:=fun vs H Q _=>∃(l:Addr)(ys:List V)(ps:List Q3),vs=[.ref l]/\H l=some (.lst ys)/\ys.length<=20000/\LR QH H ys ps/\LamTab H tb lp ql/\
 ∀D zs(os:List Q3) H',H D=none->SameT tb H H'->LamTab H' tb lp ql->H' D=some (.lst zs)->LR QH H' zs os->OrdOf os ps->Q (.ref D) H'
theorem map_range{α:Type}(l:List α)(d:α):(uP l.length).map (fun i=>l.getD i d)=l:=by
 refine vR fun i=>?_;rw[ke]
 by_cases c:i<l.length
 ·rw[jA c,uM,kB,kL c];rfl
 ·rw[Qd (by rw[pd];omega),Qd (by omega)]
  rfl
theorem zju{α:Type}{l:List α}{d:α}{i:Nat}(h:i<l.length):l.getD i d∈l:=by
 rw[kB,kL h];exact Uq h
theorem zm7{H:Hp}{ys:List V}{ps:List Q3}(h:LR QH H ys ps){p:Q3}(hp:p∈ps):PQ 700 p:=by
 obtain⟨j,hj⟩:=pZ.mp hp;have hj':j<ys.length:=by rw[h.1];exact(kG.mp hj).1
 obtain⟨b,r,_,e2,hr⟩:=h.at hj';rw[hj] at e2
 cases e2;exact hr.2
theorem ky_apart{g:Int}{a b:Q3}(ha:PQ 700 a)(hb:PQ 700 b)(ga:a.w<=g)(gb:b.w<=g)(ne:a≠b):kyQ g a≠kyQ g b:=fun e=>by
 cases h1:bq a b with
 |true=>
  have:=ky_lt ha.pos hb.pos ga gb h1;rw[e,sto2.irr] at this
  cases this
 |false=>
  cases h2:bq b a with
  |true=>
   have:=ky_lt hb.pos ha.pos gb ga h2;rw[e,sto2.irr] at this
   cases this
  |false=>exact ne (zjp ha hb h1 h2)
theorem ky_back{g:Int}{a b:Q3}(ha:PQ 700 a)(hb:PQ 700 b)(ga:a.w<=g)(gb:b.w<=g)(h:lt2 (kyQ g a) (kyQ g b)=true):Lt 1 a b:=by
 cases h1:bq a b with
 |true=>exact bq_lt.mp h1
 |false=>
  cases h2:bq b a with
  |true=>
   have:=sto2.tr _ _ _ h (ky_lt hb.pos ha.pos gb ga h2);rw[sto2.irr] at this
   cases this
  |false=>
   rw[zjp ha hb h1 h2,sto2.irr] at h
   cases h
theorem ok_in_order(T:Txt K mg ad fd)(hK:K.In base)(hB:∀b,b∈([ad 41,ad 43]:List Addr)->base.BuiltinsAt mg b):FnOk P w K mg base CX0 3 (ad 9) (fd 9) ["points"] (sp_inord (ad 41) lposB qlB):=by
 refine T.in_order_c.ok zgn (fun vs H Q E h=>?_) (fun A outer s H vs Q E hr h=>?_)
 ·obtain⟨l,ys,ps,rfl,_⟩:=h;rfl
 obtain⟨l,ys,ps,rfl,hl,h30,hp,lt,k⟩:=h;have zmz:=@pss2;have zmq:=@zbl;have zms:=@zb3;have qpa1:=@pa1;have qpv:=@pv;have zmp:=@zao;have zor:=@pe_sortS;have zns:=@zgf;have znm:=@zhs;generalize @L2.PE=QE,@L2.PT=QT,@L2.PW=QW,@L2.PA=QA,@L2.PS=QS,@L2.PSs=QSs,@L2.PG=QG,@L2.PGs=QGs,@L2.PI=QI,@L2.PO=QO,@L2.PIf=QIf at zmz zmq zms qpa1 qpv zmp zor zns znm⊢;refine⟨_,
  (zmz
   (zmq (i:=1) zgn.nd rfl (Ul rfl) (zms (zf9 T) (hr.mono (by omega)) rfl T.order_keys.mg T.order_keys.fn.kp T.order_keys.bn .nil pass0 (qpa1 (qpv 0) za1)))
   (zmp (zor (P:=ad 41) (c0:=ad 40) (x:="P") (y:="keys") (c:=s.heap.objs.size+1) (i0:=1) (zfd (hu80 hr)) kpG_pairs hr rfl T.b_sorted (qpa1 (zns (zgu rfl) rfl T.b_list zdv (qpa1 (qpv 1) za1)) zak) ⟨rfl,rfl,rfl,rfl,rfl,by decide+kernel,by decide+kernel⟩ rfl rfl rfl rfl rfl rfl (AJ hK T.in_order_c.hd) (hB _ (by simp)) (fun _ _ _ _=>rfl) (by intro fa2 c2 A2 s3 H3 hu2;exact(znm (by show A2.units+3+1<cLine;omega) (qpv 1) (qpv 0) (fun _ _=>rfl))))))
  ,?_⟩
 clear zmz zmq zms qpa1 qpv zmp zor zns znm QE QT QW QA QS QSs QG QGs QI QO QIf
 dsimp! [L2.start]
 simp! [];refine⟨l,ys,ps,rfl,hl,by omega,hp,fun d kvs g qs H2 g2 hd2 gp gm ky q1 q2 q3 q4=>?_⟩
 simp! [tSortS,rListD];refine⟨kvs,hd2,fun bs L lb hb hL=>?_⟩;have lk:kvs.length=qs.length:=by have:=congrArg vK q1;simpa using this
 have hb2:LR QH H2 (bs.map V.ref) qs:=by
  refine⟨by rw[kN,lb,lk],fun j v hv=>?_⟩
  rw[ke] at hv
  cases eb:bs[j]? with
  |none=>rw[eb] at hv;cases hv
  |some b=>
   rw[eb] at hv
   cases hv;have hj:j<kvs.length:=by rw[←lb];exact(kG.mp eb).1
   have hj':j<qs.length:=by omega
   have ekv:=kL hj;have e:=congrArg (fun l=>l[j]?) q1;simp only[ke,ekv,kL hj',uM,QB] at e;have z:=hb j b _ eb ekv;rw[e,zm9] at z;exact⟨b,qs[j],rfl,kL hj',z,zm7 hp ((q3 _).mp (Uq hj'))⟩
 have g3:=za2 hL (HO.lst (bs.map V.ref));have hL3:upd H2 L (HO.lst (bs.map V.ref)) L=some (HO.lst (bs.map V.ref)):=upd_same;generalize upd H2 L (HO.lst (bs.map V.ref))=H3 at*;have lys:ps.length=ys.length:=hp.1.symm;have lbs:(bs.map V.ref).length=qs.length:=by rw[kN,lb,lk]
 have g23:=g2.trans g3;refine⟨by rw[lbs];exact uI (small10k (by omega)),lt.same g23,fun c' H4 st4 lt4 hc4=>?_⟩
 have hd4:H4 d=some (.dT kvs):=st4 _ _ ((lt.same g23).ne (g3 _ _ hd2) fun _ z=>nomatch z) (g3 _ _ hd2);have ts4:TupSame H3 H4:=fun b xs q=>st4.tup (lt.same g23) q;have ky4:=(ky.ts (zan g3)).ts ts4;have hb4:LR QH H4 (bs.map V.ref) qs:=(hb2.same g3).ts qh_ts ts4;have z0:Q3:=⟨0,0,0⟩;refine⟨fun i ks H'=>Same H4 H'/\ks.length=i/\∀j,j<i->∃b,ks[j]?=some (.ref b)/\H' b=some (.tup [.int (kyQ g (qs.getD j z0)).1,.int (kyQ g (qs.getD j z0)).2]),⟨⟨.refl _,rfl,fun j hj=>by omega⟩,fun i ks H' q=>q.1 _ _ hc4,fun i ks H' q=>q.2.1,fun i ks H5 v hv q=>?_,fun ks H5 q=>?_⟩⟩
 ·obtain⟨g5,lk5,q⟩:=q;obtain⟨p,f,rfl,hf,hpf⟩:=hb4.2 i v hv;have hpf5:=hpf.same g5;have hd5:=g5 _ _ hd4;obtain⟨b1,e1,h1⟩:=ky4 f ((q3 f).mp (kg hf));simp! [tDGet];refine⟨_,by rw[←e1];exact .t (k:=kQ f) hd5 hpf5.1,g5,by rw[kK,lk5];rfl,fun j hj=>?_⟩
  by_cases e:j<i
  ·obtain⟨b,hb1,hb2⟩:=q j e;exact⟨b,by rw[uY (by omega)];exact hb1,hb2⟩
  ·have ej:j=i:=by omega
   subst ej;have e4:qs.getD j z0=f:=by rw[kB,hf];rfl
   rw[e4];exact⟨b1,by rw[uV (by omega),lk5,Nat.sub_self];rfl,g5 _ _ h1⟩
 ·obtain⟨g5,lk5,q⟩:=q;refine⟨_,⟨fun i=>kyQ g (qs.getD i z0),fun i hi=>q i (by omega),rfl⟩,fun D pp hD or ep=>?_⟩
  rw[lbs] at or;simp only[zkt] at ep;have gw:∀f,f∈qs->f.w<=g:=fun f hf=>gm f ((q3 f).mp hf);have pqs:∀f,f∈qs->PQ 700 f:=fun f hf=>zm7 hp ((q3 f).mp hf);have pm:(pp.map fun i=>qs.getD i z0).Perm qs:=by
   have:=or.map fun i=>qs.getD i z0
   rwa [map_range] at this
  have g6:=za2 hD (HO.lst (pp.map fun i=>(bs.map V.ref).getD i .non));refine k D _ (pp.map fun i=>qs.getD i z0) _ (g23.free (?_:H3 D=none)) (fun b o nb e=>g6 _ _ (g5 _ _ (st4 _ _ nb (g23 _ _ e)))) ((lt4.same g5).same g6) upd_same ?_ ⟨?_,fun p=>?_,?_⟩
  ·have h3:=g5.free hD
   cases e:H3 D with
   |none=>rfl
   |some o=>
    by_cases nb:D=(ad 41)
    ·obtain⟨tp,e3,_⟩:=lt4;rw[←nb,h3] at e3
     cases e3
    ·rw[st4 _ _ nb e] at h3
     cases h3
  ·have hb6:LR QH (upd H5 D (HO.lst (pp.map fun i=>(bs.map V.ref).getD i .non))) (bs.map V.ref) qs:=hb4.same (g5.trans g6);refine⟨by rw[kN,kN],fun j v hv=>?_⟩
   rw[ke] at hv
   cases e:pp[j]? with
   |none=>rw[e] at hv;cases hv
   |some i=>
    rw[e] at hv;have ev:(bs.map V.ref).getD i .non=v:=by simpa using hv
    have hi:i<qs.length:=QF.mp (or.mem_iff.mp (kg e));obtain⟨b1,f,e1,e2,e3⟩:=hb6.at (j:=i) (by omega)
    rw[kB,e1] at ev;refine⟨b1,f,ev.symm,?_,e3⟩;rw[ke,e,uM,kB,e2];rfl
  ·have pn:pp.Pairwise (·≠·):=or.nodup_iff.mpr List.nodup_range;refine jj.mpr (vB (fun{i j} hi hj h=>?_) (pn.and ep));have bi:=QF.mp (or.mem_iff.mp hi);have bj:=QF.mp (or.mem_iff.mp hj);have mi:qs.getD i z0∈qs:=zju bi;have mj:qs.getD j z0∈qs:=zju bj;have ne:qs.getD i z0≠qs.getD j z0:=fun e=>by
    rw[kB,kL bi,kB,kL bj] at e;rcases Nat.lt_or_gt_of_ne h.1 with z|z
    ·exact Qc.mp q2 i j bi bj z e
    ·exact Qc.mp q2 j i bj bi z e.symm
   refine ky_back (pqs _ mi) (pqs _ mj) (gw _ mi) (gw _ mj) ?_;rcases sto2.tot _ _ (ky_apart (pqs _ mi) (pqs _ mj) (gw _ mi) (gw _ mj) ne) with q|q
   ·exact q
   ·rw[h.2] at q;cases q
  ·rw[pm.mem_iff,q3]
  ·rw[pm.length_eq];exact q4
def sp_stopat(K:kC):Sp:=fun vs H Q _=>∃(p nl sl:Addr)(ys:List V)(ss:List (Q3×Q3))(ns:List Nat)(r:Q3),vs=[.ref p,.ref nl,.ref sl]/\QH H p r/\H nl=some (.lst (natV ns))/\H sl=some (.lst ys)/\LR (StE 130) H ys ss/\(∀k,k∈ns->k<ys.length)/\ns.length<=17001/\
 ∀(t b1 b2 b3:Addr)(H':Hp),H t=none->Same H H'->H' t=some (.tup [.ref p,.ref b1,.ref b2,.ref b3])->H b1=none->H b2=none->H b3=none->b1≠b2->b1≠b3->b2≠b3->H' b1=some (.lst (natV (ns.filter fun k=>decide ((ss.getD k zQ).1=r))))->H' b2=some (.lst (natV (ns.filter fun k=>decide ((ss.getD k zQ).1≠r/\(ss.getD k zQ).2≠r))))->H' b3=some (.lst (natV (ns.filter fun k=>decide ((ss.getD k zQ).2=r))))->Q (.ref t) H'
theorem zi8(a b:Q3):decide (a=b)=decide (a.x=b.x/\a.y=b.y/\a.w=b.w):=by
 by_cases h:a=b
 ·rw[decide_eq_true h,decide_eq_true (by rw[h];exact⟨rfl,rfl,rfl⟩)]
 ·rw[decide_eq_false h,decide_eq_false fun z=>h (Q3.ext' z)]
theorem rd_pair{K:kC}{H:Hp}{p a b:Addr}{d e:PyData}(hp:H p=some (.tup [.ref a,.ref b]))(ha:RdD K H d (.ref a))(hb:RdD K H e (.ref b)):RdD K H (.tuple [d,e]) (.ref p):=by
 rw[RdD];refine⟨p,_,rfl,.of hp,?_⟩;rw[RdDs];refine⟨_,_,rfl,ha,?_⟩;rw[RdDs];refine⟨_,_,rfl,hb,?_⟩;rw[RdDs]
theorem ok_stop_at(T:Txt K mg ad fd):FnOk P w K mg base CX0 1 (ad 14) (fd 14) ["P","numbers","stretches"] (sp_stopat K):=by
 refine T.stop_at.fn.ok zen (fun vs H Q E h=>?_) (fun cdv A outer s H vs Q E hr h=>?_)
 ·obtain⟨p,nl,sl,ys,ss,ns,r,rfl,_⟩:=h;rfl
 obtain⟨p,nl,sl,ys,ss,ns,r,rfl,hp,hnl,hsl,hs,hns,hlen,k⟩:=h;have zn4:=@pss4;have zn9:=@zfo;unfold L2.CompBody at zn9;have zn1:=@zdl;have qpv:=@pv;have zmw:=@zby;have znj:=@zhm;have zmt:=@zav;have zmn:=@pe_ix;have zmm:=@zaz;have zmp:=@zao;have zmx:=@zcu;have qpa4:=@pa4;generalize @L2.PE=QE,@L2.PT=QT,@L2.PW=QW,@L2.PA=QA,@L2.PS=QS,@L2.PSs=QSs,@L2.PG=QG,@L2.PGs=QGs,@L2.PI=QI,@L2.PO=QO,@L2.PIf=QIf at zn4 zn9 zn1 qpv zmw znj zmt zmn zmm zmp zmx qpa4⊢;refine⟨_,
  (zn4
   (zn9 (i:=3) zen.nd rfl (kc rfl) (dsc:=defScope zbu) (N:=["P","numbers","stretches","begins","through","ends"]) (own:=["number"]) (ix:=[0,2]) rfl rfl rfl ⟨rfl,by decide+kernel,by decide+kernel,by decide+kernel,by decide+kernel⟩ (zn1 (qpv 1)) (fun cl C fp s2 H2 xe=>⟨(zmw (i:=0) (show uW (["number","P","stretches"]:List Str) from by decide+kernel) rfl (kc rfl)),(znj (zmt (zk0 (K':=K) rfl (hu64 hr)) (zmn za0 (zmn zaa (qpv 2) (qpv 0) (fun _ _=>rfl)) zmm (fun _ _=>rfl)) (qpv 1) (nomark _))),(qpv 0)⟩))
   (zn9 (i:=4) zen.nd rfl (kc rfl) (dsc:=defScope zbu) (N:=["P","numbers","stretches","begins","through","ends"]) (own:=["number"]) (ix:=[0,2]) rfl rfl rfl ⟨rfl,by decide+kernel,by decide+kernel,by decide+kernel,by decide+kernel⟩ (zn1 (qpv 1)) (fun cl C fp s2 H2 xe=>⟨(zmw (i:=0) (show uW (["number","P","stretches"]:List Str) from by decide+kernel) rfl (kc rfl)),(znj (zmt (op_notInT (K':=K) rfl (hu64 hr)) (qpv 1) (zmn zaa (qpv 2) (qpv 0) (fun _ _=>rfl)) rfl)),(qpv 0)⟩))
   (zn9 (i:=5) zen.nd rfl (kc rfl) (dsc:=defScope zbu) (N:=["P","numbers","stretches","begins","through","ends"]) (own:=["number"]) (ix:=[0,2]) rfl rfl rfl ⟨rfl,by decide+kernel,by decide+kernel,by decide+kernel,by decide+kernel⟩ (zn1 (qpv 1)) (fun cl C fp s2 H2 xe=>⟨(zmw (i:=0) (show uW (["number","P","stretches"]:List Str) from by decide+kernel) rfl (kc rfl)),(znj (zmt (zk0 (K':=K) rfl (hu64 hr)) (zmn za0 (zmn zaa (qpv 2) (qpv 0) (fun _ _=>rfl)) zmm (fun _ _=>rfl)) (qpv 1) (nomark _))),(qpv 0)⟩))
   (zmp (zmx (qpa4 (qpv 0) za1 (qpv 3) za1 (qpv 4) za1 (qpv 5) za1))))
  ,?_⟩
 clear zn4 zn9 zn1 qpv zmw znj zmt zmn zmm zmp zmx qpa4 QE QT QW QA QS QSs QG QGs QI QO QIf
 dsimp! [L2.start]
 simp! [];refine zax ?_;simp! [iList];refine⟨⟨_,.of hnl⟩,fun B1 hB1=>?_⟩;refine zau (xs:=natV ns) (fun i us H'=>Same H H'/\H' B1=some (.lst us)/\us=natV ((ns.take i).filter fun k=>decide ((ss.getD k zQ).1=r))) ⟨za2 hB1 _,upd_same,rfl⟩ (fun i us H' q=>.of (q.1 _ _ hnl)) ?_ ?_
 ·rintro i us H2 v hi hv ⟨g2,hB2,eu⟩;obtain⟨m,m1,rfl⟩:=zd9 hv;have hm:=hns m (kg m1);obtain⟨b,e,e1,e2,c,c2,h1,h2,h3,hb⟩:=hs.at hm;have ai:atI ys (m:Int)=some (.ref b):=zaq e1;have hsl2:=g2 _ _ hsl;have h12:=g2 _ _ h1;simp! [hsl2,ai,h12];refine⟨_,_,rd_pt (.of (g2 _ _ h2.1)),rd_pt (.of (g2 _ _ hp.1)),zbc _ _ _,zbc _ _ _,_,rfl,?_⟩;rw[zey];refine zcm hi m1 (by omega) g2 hB1 hB2 eu ?_
  show decide ((ss.getD m zQ).1=r)=_
  rw[kB,e2];exact zi8 e.1 r
 rintro us1 H2 ⟨g2,hB2,eu1⟩;rw[zb1,uh] at eu1;have hnl2:=g2 _ _ hnl;refine zax ?_;simp! [iList];refine⟨⟨_,.of hnl2⟩,fun B2 hB2'=>?_⟩;refine zau (xs:=natV ns) (fun i us H'=>Same H2 H'/\H' B2=some (.lst us)/\us=natV ((ns.take i).filter fun k=>decide ((ss.getD k zQ).1≠r/\(ss.getD k zQ).2≠r))) ⟨za2 hB2' _,upd_same,rfl⟩ (fun i us H' q=>.of (q.1 _ _ hnl2)) ?_ ?_
 ·rintro i us H3 v hi hv ⟨g3,hB3,eu⟩;obtain⟨m,m1,rfl⟩:=zd9 hv;have hm:=hns m (kg m1);obtain⟨b,e,e1,e2,c,c2,h1,h2,h3,hb⟩:=hs.at hm;have ai:atI ys (m:Int)=some (.ref b):=zaq e1;have g03:=g2.trans g3;have hsl3:=g03 _ _ hsl;have h13:=g03 _ _ h1;simp! [hsl3,ai];refine⟨_,[_,_],rd_pt (.of (g03 _ _ hp.1)),rd_pair (g03 _ _ h1) (rd_pt (.of (g03 _ _ h2.1))) (rd_pt (.of (g03 _ _ h3.1))),?_,?_,?_,_,rfl,?_⟩
  ·simp[dPt,ug,pN]
  ·simp[dPt,ug,pN]
  ·simp[dPt,ud,uF]
  ·refine zcm hi m1 (by omega) g3 hB2' hB3 eu ?_
   show decide ((ss.getD m zQ).1≠r/\(ss.getD m zQ).2≠r)=_
   rw[kB,e2];simp only[vh,List.any_nil,zey,Bw,←zi8];show decide (e.1≠r/\e.2≠r)=_
   by_cases h1:e.1=r<;>by_cases h2:e.2=r<;>simp[h1,h2]
 rintro us2 H3 ⟨g3,hB3,eu2⟩;rw[zb1,uh] at eu2;have g03:=g2.trans g3;have hnl3:=g03 _ _ hnl;refine zax ?_;simp! [iList];refine⟨⟨_,.of hnl3⟩,fun B3 hB3'=>?_⟩;refine zau (xs:=natV ns) (fun i us H'=>Same H3 H'/\H' B3=some (.lst us)/\us=natV ((ns.take i).filter fun k=>decide ((ss.getD k zQ).2=r))) ⟨za2 hB3' _,upd_same,rfl⟩ (fun i us H' q=>.of (q.1 _ _ hnl3)) ?_ ?_
 ·rintro i us H4 v hi hv ⟨g4,hB4,eu⟩;obtain⟨m,m1,rfl⟩:=zd9 hv;have hm:=hns m (kg m1);obtain⟨b,e,e1,e2,c,c2,h1,h2,h3,hb⟩:=hs.at hm;have ai:atI ys (m:Int)=some (.ref b):=zaq e1;have g04:=g03.trans g4;have hsl4:=g04 _ _ hsl;have h14:=g04 _ _ h1;simp! [hsl4,ai,h14];refine⟨_,_,rd_pt (.of (g04 _ _ h3.1)),rd_pt (.of (g04 _ _ hp.1)),zbc _ _ _,zbc _ _ _,_,rfl,?_⟩;rw[zey];refine zcm hi m1 (by omega) g4 hB3' hB4 eu ?_
  show decide ((ss.getD m zQ).2=r)=_
  rw[kB,e2];exact zi8 e.2 r
 rintro us3 H4 ⟨g4,hB4,eu3⟩;rw[zb1,uh] at eu3;have g04:=g03.trans g4;subst eu1 eu2 eu3;intro t ht;have g5:=za2 ht (HO.tup [V.ref p,V.ref B1,V.ref B2,V.ref B3]);exact k t B1 B2 B3 _ (g04.free ht) (g04.trans g5) upd_same hB1 (g2.free hB2') (g03.free hB3') (za8 hB2 hB2') (za8 (g3 _ _ hB2) hB3') (za8 hB3 hB3') (((g3.trans g4).trans g5) _ _ hB2) ((g4.trans g5) _ _ hB3) (g5 _ _ hB4)
theorem nd_lt:∀{n:Nat}{l:List Nat},l.Nodup->(∀x,x∈l->x<n)->l.length<=n
 |0,[],_,_=>kI _
 |0,x::l,_,h=>absurd (h x ku) (BZ _)
 |n+1,l,nd,h=>by
  have:=nd_lt (n:=n) (l:=l.erase n) (nd.erase n) fun x hx=>by
   have h1:=h x (List.mem_of_mem_erase hx);have h2:x≠n:=fun z=>by
    rw[z] at hx;exact(List.Nodup.not_mem_erase nd) hx
   omega
  rw[List.length_erase] at this
  split at this<;>omega
theorem ste_ok{H:Hp}{ys:List V}{ss:List (Q3×Q3)}(h:LR (StE 130) H ys ss):∀s,s∈ss->PQ 130 s.1/\PQ 130 s.2/\bq s.1 s.2=true:=fun s hs=>by
 obtain⟨j,hj⟩:=pZ.mp hs;obtain⟨p,e,_,e2,c,d,_,h2,h3,h4⟩:=h.at (j:=j) (by rw[h.1];exact(kG.mp hj).1)
 rw[hj] at e2
 cases e2;exact⟨h2.2,h3.2,h4⟩
theorem zkm:∀{a b:List Nat},a.Pairwise (·<·)->b.Pairwise (·<·)->(∀x,x∈a↔x∈b)->a=b
 |[],[],_,_,_=>rfl
 |[],y::b,_,_,h=>absurd ((h y).mpr ku) (by simp)
 |x::a,[],_,_,h=>absurd ((h x).mp ku) (by simp)
 |x::a,y::b,ha,hb,h=>by
  obtain⟨a1,a2⟩:=Ub.mp ha;obtain⟨b1,b2⟩:=Ub.mp hb;have e:x=y:=by
   rcases kh.mp ((h x).mp ku) with z|z
   ·exact z
   ·rcases kh.mp ((h y).mpr ku) with z'|z'
    ·exact z'.symm
    ·have:=a1 y z';have:=b1 x z;omega
  subst e;rw[zkm a2 b2 fun z=>?_]
  constructor
  ·intro hz;rcases kh.mp ((h z).mp (pB _ hz)) with q|q
   ·have:=a1 z hz;omega
   ·exact q
  ·intro hz;rcases kh.mp ((h z).mpr (pB _ hz)) with q|q
   ·have:=b1 z hz;omega
   ·exact q
def onF(ss:List (Q3×Q3))(q:Q3):List Nat:=(uP ss.length).filter fun k=>on3 (ss.getD k zQ).1 (ss.getD k zQ).2 q
theorem onF_up(ss:List (Q3×Q3))(q:Q3):(onF ss q).Pairwise (·<·):=List.Pairwise.filter _ List.pairwise_lt_range
theorem ze5{ss:List (Q3×Q3)}{q:Q3}{k:Nat}:k∈onF ss q↔k<ss.length/\OnI ss q k:=by
 unfold onF OnI;rw[uE,List.mem_range]
def bgF(ss:List (Q3×Q3))(q:Q3):List Nat:=(onF ss q).filter fun k=>decide ((ss.getD k zQ).1=q)
def thF(ss:List (Q3×Q3))(q:Q3):List Nat:=(onF ss q).filter fun k=>decide ((ss.getD k zQ).1≠q/\(ss.getD k zQ).2≠q)
def enF(ss:List (Q3×Q3))(q:Q3):List Nat:=(onF ss q).filter fun k=>decide ((ss.getD k zQ).2=q)
abbrev R4:=Q3×Addr×Addr×Addr
def fl(xs:List R4):List Addr:=xs.flatMap fun x=>[x.2.1,x.2.2.1,x.2.2.2]
theorem zhf(xs:List R4)(x:R4):fl (xs++[x])=fl xs++[x.2.1,x.2.2.1,x.2.2.2]:=by simp[fl]
def SpY(ss:List (Q3×Q3))(H:Hp)(p:Addr)(x:R4):Prop:=∃a,H p=some (.tup [.ref a,.ref x.2.1,.ref x.2.2.1,.ref x.2.2.2])/\QH H a x.1/\H x.2.1=some (.lst (natV (bgF ss x.1)))/\H x.2.2.1=some (.lst (natV (thF ss x.1)))/\H x.2.2.2=some (.lst (natV (enF ss x.1)))
theorem zm1{ss:List (Q3×Q3)}{H H':Hp}{p:Addr}{x:R4}(h:SpY ss H p x)(g:TupSame H H')(g':∀b,b∈[x.2.1,x.2.2.1,x.2.2.2]->∀us,H b=some (.lst us)->H' b=some (.lst us)):SpY ss H' p x:=by
 obtain⟨a,h1,h2,h3,h4,h5⟩:=h;exact⟨a,g _ _ h1,qh_ts _ _ _ _ g h2,g' _ (by simp) _ h3,g' _ (by simp) _ h4,g' _ (by simp) _ h5⟩
theorem zcy{ss:List (Q3×Q3)}{H H':Hp}{ys:List V}{xs:List R4}(h:LR (SpY ss) H ys xs)(g:TupSame H H')(g':∀b,b∈fl xs->∀us,H b=some (.lst us)->H' b=some (.lst us)):LR (SpY ss) H' ys xs:=⟨h.1,fun j v z=>by
 obtain⟨p,x,e,f,s⟩:=h.2 j v z;exact⟨p,x,e,f,zm1 s g fun b hb=>g' b (Us.mpr ⟨x,kg f,hb⟩)⟩⟩
def SameTT(tb tc:Addr)(H H':Hp):Prop:=∀b o,b≠tb->b≠tc->H b=some o->H' b=some o
def sp_stops(tb:Addr)(lp:Pos)(ql:Str)(tc:Addr)(lp':Pos)(ql':Str):Sp:=fun vs H Q _=>∃(l:Addr)(ys:List V)(ss:List (Q3×Q3)),vs=[.ref l]/\H l=some (.lst ys)/\ys.length<=63/\LR (StE 130) H ys ss/\LamTab H tb lp ql/\LamTab H tc lp' ql'/\
 ∀(D:Addr)(zs:List V)(xs:List R4)(ps:List (Nat×Nat))(g:Int)(H':Hp),SameTT tb tc H H'->LamTab H' tb lp ql->LamTab H' tc lp' ql'->H' D=some (.lst zs)->zs.length<=17000->LR (SpY ss) H' zs xs->Told ss ps g->(xs.map (·.1)).Pairwise (Lt 1)->(∀q,q∈xs.map (·.1)↔∃i,LyT ss ps q i)->(fl xs).Nodup->(∀b,b∈fl xs->H b=none/\b≠D)->H D=none->Q (.ref D) H'
theorem zhz(T:Txt K mg ad fd)(hK:K.In base)(hB:∀b,b∈([ad 41,ad 43]:List Addr)->base.BuiltinsAt mg b):FnOk P w K mg base CX0 6 (ad 13) (fd 13) ["stretches"] (sp_stops (ad 41) lposB qlB (ad 43) lposN qlN):=by
 refine T.stops.fn.ok zjh (fun vs H Q E h=>?_) (fun cdv A outer s H vs Q E hr h=>?_)
 ·obtain⟨l,ys,ss,rfl,_⟩:=h;rfl
 obtain⟨l,ys,ss,rfl,hl,hn,hs,ltB,ltN,k⟩:=h;have zmz:=@pss2;have zmq:=@zbl;have zms:=@zb3;have qpa1:=@pa1;have qpv:=@pv;have zmp:=@zao;have zne:=@zgi;unfold L2.CompBody at zne;have zn1:=@zdl;have zns:=@zgf;have zmw:=@zby;have znh:=@zfn;have qpa3:=@pa3;have zmy:=@zc5;have znm:=@zhs;generalize @L2.PE=QE,@L2.PT=QT,@L2.PW=QW,@L2.PA=QA,@L2.PS=QS,@L2.PSs=QSs,@L2.PG=QG,@L2.PGs=QGs,@L2.PI=QI,@L2.PO=QO,@L2.PIf=QIf at zmz zmq zms qpa1 qpv zmp zne zn1 zns zmw znh qpa3 zmy znm⊢;refine⟨_,
  (zmz
   (zmq (i:=1) zjh.nd rfl (Ul rfl) (zms (ok_lying_at T hK hB) (hr.mono (by decide)) rfl T.lying_at.mg T.lying_at.fn.kp T.lying_at.bn .nil pass0 (qpa1 (qpv 0) za1)))
   (zmp (zne (dsc:=defScope zdk) (N:=["stretches","lying"]) (own:=["P"]) (ix:=[0,1]) rfl rfl rfl ⟨rfl,by decide+kernel,by decide+kernel,by decide+kernel,by decide+kernel⟩ (zn1 (zms (ok_in_order T hK hB) (hr.mono (by decide)) rfl T.in_order.mg T.in_order.fn.kp T.in_order.bn .nil pass0 (qpa1 (zns (zgu rfl) rfl T.b_list zdv (qpa1 (qpv 1) za1)) zak))) (fun cl C fp s2 H2 xe=>⟨(zmw (i:=0) (show uW (["P","stretches","lying"]:List Str) from by decide+kernel) rfl (kc rfl)),znh,(zms (ok_stop_at T) (hr.mono (by decide)) rfl T.stop_at.mg T.stop_at.fn.kp T.stop_at.bn .nil pass0 (qpa3 (qpv 0) za1 (zmy (call_sortI (hu100 hr)) rfl T.b_sorted zg7 (qpa1 (zns (call_listK rfl) rfl T.b_list zdv (qpa1 (znm (hu_of hr) (qpv 2) (qpv 0) (fun _ _=>rfl)) za3)) zak)) zak (qpv 1) za1))⟩))))
  ,?_⟩
 clear zmz zmq zms qpa1 qpv zmp zne zn1 zns zmw znh qpa3 zmy znm QE QT QW QA QS QSs QG QGs QI QO QIf
 dsimp! [L2.start]
 simp! [];refine⟨l,ys,ss,rfl,hl,by omega,hs,ltN,fun d os kvs qs ps g H1 st1 lt1 hos L1 gp gm hps hnear=>?_⟩
 have TT:Told ss ps g:=⟨ste_ok hs,fun s h=>⟨gm _ (Us.mpr ⟨s,h,ku⟩),gm _ (Us.mpr ⟨s,h,pB _ ku⟩)⟩,by rw[←hs.1];exact hps,by rw[←hs.1];exact hnear⟩
 have lss:=hs.1;have ltB1:=zih ltB ltN T.tne01 st1;refine zax ?_;simp! [iList,rListD];refine⟨kvs,L1.at_,fun bs La lb hb hLa=>?_⟩;have lk:kvs.length=qs.length:=by have:=congrArg vK L1.keys;simpa using this
 have hb1:LR QH H1 (bs.map V.ref) qs:=by
  refine⟨by rw[kN,lb,lk],fun j v hv=>?_⟩
  rw[ke] at hv
  cases eb:bs[j]? with
  |none=>rw[eb] at hv;cases hv
  |some b=>
   rw[eb] at hv
   cases hv;have hj:j<kvs.length:=by rw[←lb];exact(kG.mp eb).1
   have hj':j<qs.length:=by omega
   have ekv:=kL hj;have e:=congrArg (fun l=>l[j]?) L1.keys;simp only[ke,ekv,kL hj',uM,QB] at e;have z:=hb j b _ eb ekv;rw[e,zm9] at z;exact⟨b,qs[j],rfl,kL hj',z,L1.pq _ (Uq hj')⟩
 have g2:=za2 hLa (HO.lst (bs.map V.ref));have hLa2:upd H1 La (HO.lst (bs.map V.ref)) La=some (HO.lst (bs.map V.ref)):=upd_same;generalize upd H1 La (HO.lst (bs.map V.ref))=H2 at*;refine⟨La,_,qs,rfl,hLa2,by rw[kN,lb];have:=L1.len;omega,hb1.same g2,ltB1.same g2,fun D1 zs rs H3 hD1 st3 lt3 hD3 hz ho=>?_⟩
 obtain⟨ho1,hrs,hrl⟩:=ho;have ltB2:=ltB1.same g2;have ltN3:=zih (lt1.same g2) ltB2 T.tne01.symm st3;have L3:Ly H3 d os 17000 (LyT ss ps) kvs qs:=(L1.same g2).keep fun b o hb h=>st3 b o (fun z=>by
  rcases(L1.same g2).live b hb with⟨x,e⟩|⟨x,e⟩
  ·exact ltB2.ne e (fun _ z=>nomatch z) z
  ·exact ltB2.ne e (fun _ z=>nomatch z) z) h
 have hl1:=st1.lst ltN hl;have hl3:H3 l=some (.lst ys):=st3.lst ltB2 (g2 _ _ hl1);have hs3:LR (StE 130) H3 ys ss:=hs.ts zbv fun b xs h=>st3.tup ltB2 (g2 _ _ (st1.tup ltN h));have sTT:SameTT (ad 41) (ad 43) H H3:=fun b o n1 n2 h=>st3 b o n1 (g2 _ _ (st1 b o n2 h));have hfr:∀{b:Addr},H3 b=none->H b=none:=fun{b} h=>by
  cases e:H b with
  |none=>rfl
  |some o=>
   have n1:b≠(ad 41):=fun z=>by
    obtain⟨tp,e3,_⟩:=lt3;rw[←z,h] at e3
    cases e3
   have n2:b≠(ad 43):=fun z=>by
    obtain⟨tp,e3,_⟩:=ltN3;rw[←z,h] at e3
    cases e3
   rw[sTT b o n1 n2 e] at h
   cases h
 refine⟨D1,rfl,⟨_,.of hD3⟩,fun D hD=>?_⟩;have lz:zs.length<=17000:=by
  have h1:=hz.1;have:=L1.len;omega
 refine zau (xs:=zs) (fun i us H'=>Same H3 H'/\H' D=some (.lst us)/\us.length=i/\∃xs:List R4,xs.map (·.1)=rs.take i/\LR (SpY ss) H' us xs/\(fl xs).Nodup/\∀b,b∈fl xs->H3 b=none/\b≠D/\∃o,H' b=some o) ⟨za2 hD _,upd_same,rfl,[],by rw[uO];rfl,.nil,Bo,fun b hb=>by cases hb⟩ (fun i us H' q=>.of (q.1 _ _ hD3)) ?_ ?_
 ·rintro i us H4 v hi hv ⟨g4,hD4,lu,xs,ex,hu,ndx,hfx⟩;obtain⟨b,r,rfl,hr',hbr⟩:=hz.2 i v hv;have hrq:=(hrs r).mp (kg hr');have L4:=L3.same g4;obtain⟨ib,kws,ns,f1,f2,f3,f4,f5,f6,f7⟩:=L4.inn r hrq;have hbr4:=hbr.same g4;simp! [tDGet,rListK,rSortI];have ek:(kws.map fun kv=>kV kv.1)=natV ns:=by
   have:(kws.map fun kv=>kV kv.1)=(kws.map uq).map kV:=by rw[UN];rfl
   rw[this,f4];unfold nKeys natV;rw[UN];rfl
  have hin:∀i,i∈ns->i<ys.length:=fun i hi=>by
   rw[lss];exact(TT.lies ((f7 i).mp hi)).1
  have ln:=nd_lt f6 hin;refine⟨.ref ib,by rw[←f1];exact .t (k:=kQ r) L4.at_ hbr4.1,ib,rfl,kws,f3,fun l1 hl1'=>?_⟩
  rw[ek];refine⟨ns.map fun i:Nat=>(i:Int),by unfold natV;rw[UN];rfl,by rw[kN];omega,fun D2 ms hD2 pm up=>?_⟩
  have em:ms.map V.int=natV (onF ss r):=by
   have e1:ms.map V.int=natV (ms.map vN):=by
    unfold natV;rw[UN];refine jB fun z hz=>?_;obtain⟨i,_,e⟩:=uD.mp (pm.mem_iff.mp hz);show V.int z=V.int ((z.toNat:Nat):Int);rw[←e];rfl
   have nn:∀z,z∈ms->0<=z:=fun z hz=>by
    obtain⟨i,_,e⟩:=uD.mp (pm.mem_iff.mp hz);rw[←e];omega
   have ndm:ms.Pairwise (·≠·):=pm.nodup_iff.mpr (jj.mpr (f6.imp fun h z=>h (by omega)))
   rw[e1,zkm (a:=ms.map vN) (b:=onF ss r) (jj.mpr (vB (fun{a b} ha hb h=>by have:=nn a ha;have:=nn b hb;omega) (ndm.and up))) (onF_up ss r) fun x=>?_]
   rw[ze5]
   constructor
   ·intro hx;obtain⟨z,hz,rfl⟩:=uD.mp hx;obtain⟨i,hi,e⟩:=uD.mp (pm.mem_iff.mp hz);rw[←e];exact⟨(TT.lies ((f7 i).mp hi)).1,(TT.lies ((f7 i).mp hi)).2.2⟩
   ·rintro⟨h1,h2⟩;obtain⟨j,hj⟩:=(L1.mem r).mp hrq;exact uD.mpr ⟨(x:Int),pm.mem_iff.mpr (uD.mpr ⟨x,(f7 x).mpr (TT.full h1 hj h2),rfl⟩),rfl⟩
  have lo:(onF ss r).length<=63:=by
   have:=congrArg vK em;rw[kN,zb1,pm.length_eq,kN] at this;omega
  have g5:=za2 hl1' (HO.lst (natV ns));generalize upd H4 l1 (HO.lst (natV ns))=H5 at*;have g6:=za2 hD2 (HO.lst (ms.map V.int));have hD6:upd H5 D2 (HO.lst (ms.map V.int)) D2=some (HO.lst (ms.map V.int)):=upd_same;generalize upd H5 D2 (HO.lst (ms.map V.int))=H6 at*;have g46:=g5.trans g6;have hD6':=g46 _ _ hD4;refine⟨ys,ss,onF ss r,r,hbr4.same g46,em,(g4.trans g46) _ _ hl3,hs3.ts zbv (zan (g4.trans g46)),fun k hk=>by rw[lss];exact(ze5.mp hk).1,by omega,fun t b1 b2 b3 H7 ht g7 ht7 n1 n2 n3 n12 n13 n23 e1 e2 e3=>?_⟩
  have hD7:=g7 _ _ hD6';have nd:∀{b:Addr},H6 b=none->b≠D:=fun h z=>by rw[z,hD6'] at h;cases h
  have no:∀{b:Addr},H6 b=none->b∉fl xs:=fun{b} h z=>by
   obtain⟨_,_,o,ho⟩:=hfx b z;rw[g46 _ _ ho] at h
   cases h
  have n3':∀{b:Addr},H6 b=none->H3 b=none:=fun h=>(g4.trans g46).free h;refine cw_put hi hD7 (small10k (by omega)) ⟨zar (g4.trans (g46.trans g7)) hD,upd_same,by rw[kK,lu];rfl,xs++[(r,b1,b2,b3)],?_,?_,?_,fun b hb=>?_⟩
  ·rw[pg,ex,uA,hr'];rfl
  ·have sx:SpY ss H7 t (r,b1,b2,b3):=⟨b,ht7,(hbr4.same g46).same g7,e1,e2,e3⟩;have h7:LR (SpY ss) H7 (us++[.ref t]) (xs++[(r,b1,b2,b3)]):=(zcy hu (zan (g46.trans g7)) fun b _ us h=>(g46.trans g7) _ _ h).snoc sx;refine zcy h7 (zf8 hD7) fun b hb us h=>?_;rw[zhf] at hb;have:b≠D:=by
    rcases kf.mp hb with hb|hb
    ·exact(hfx b hb).2.1
    ·simp only[kh,pP,or_false] at hb;rcases hb with rfl|rfl|rfl
     ·exact nd n1
     ·exact nd n2
     ·exact nd n3
   rw[za6 this];exact h
  ·rw[zhf,List.nodup_append];refine⟨ndx,by simp[n12,n13,n23],fun x hx y hy z=>?_⟩
   subst z;simp only[kh,pP,or_false] at hy;rcases hy with rfl|rfl|rfl
   ·exact no n1 hx
   ·exact no n2 hx
   ·exact no n3 hx
  ·rw[zhf] at hb;have live:∀{b:Addr}{o:HO},H7 b=some o->∃o,upd H7 D (HO.lst (us++[V.ref t])) b=some o:=fun{b o} h=>by
    by_cases z:b=D
    ·rw[z];exact⟨_,upd_same⟩
    ·exact⟨o,by rw[za6 z];exact h⟩
   rcases kf.mp hb with hb|hb
   ·obtain⟨x1,x2,o,x3⟩:=hfx b hb;exact⟨x1,x2,live ((g46.trans g7) _ _ x3)⟩
   ·simp only[kh,pP,or_false] at hb;rcases hb with rfl|rfl|rfl
    ·exact⟨n3' n1,nd n1,live e1⟩
    ·exact⟨n3' n2,nd n2,live e2⟩
    ·exact⟨n3' n3,nd n3,live e3⟩
 ·rintro us H4 ⟨g4,hD4,lu,xs,ex,hu,ndx,hfx⟩;rw[kx (Qq hz.1.symm)] at ex;exact k D us xs ps g H4 (fun b o n1 n2 h=>g4 _ _ (sTT b o n1 n2 h)) (lt3.same g4) (ltN3.same g4) hD4 (by omega) hu TT (by rw[ex];exact ho1) (fun q=>by rw[ex,hrs q,L1.mem q]) ndx (fun b hb=>⟨hfr (hfx b hb).1,(hfx b hb).2.1⟩) (hfr hD)
theorem zdg(T:Txt K mg ad fd):FnOk P w K mg base CX0 1 (ad 20) (fd 20) ["_law_found"] zfa:=by
 refine T.law_whole.fn.ok sc_law_whole (fun vs H Q E h=>?_) (fun cdv A outer s H vs Q E hr h=>?_)
 ·obtain⟨i,rfl,_⟩:=h;rfl
 obtain⟨i,rfl,q⟩:=h;have zmr:=@zae;have zmp:=@zao;have zo0:=@zkp;have zmy:=@zc5;have qpa2:=@pa2;have qpv:=@pv;have zni:=@zfr;have zo1:=@zk9;have znx:=@zlj;generalize @L2.PE=QE,@L2.PT=QT,@L2.PW=QW,@L2.PA=QA,@L2.PS=QS,@L2.PSs=QSs,@L2.PG=QG,@L2.PGs=QGs,@L2.PI=QI,@L2.PO=QO,@L2.PIf=QIf at zmr zmp zo0 zmy qpa2 qpv zni zo1 znx⊢;refine⟨_,
  (zmr (zmp (zo0 (zmy (isiF zfu) rfl T.b_isinstance zbe (qpa2 (qpv 0) za1 (zni (v:=.ty "int") rfl T.b_int zml rfl) za1)) (zo1 (znx (zmy (isiF zff) rfl T.b_isinstance zbe (qpa2 (qpv 0) za1 (zni (v:=.ty "bool") rfl T.b_bool zlb rfl) za1)))))))
  ,?_⟩
 clear zmr zmp zo0 zmy qpa2 qpv zni zo1 znx QE QT QW QA QS QSs QG QGs QI QO QIf
 dsimp! [L2.start]
 simp! [];exact q
theorem ok_law_is_point(T:Txt K mg ad fd):FnOk P w K mg base CX0 2 (ad 28) (fd 28) ["_law_found"] sp_is_point:=by
 refine T.law_is_point.fn.ok sc_law_is_point (fun vs H Q E h=>?_) (fun cdv A outer s H vs Q E hr h=>?_)
 ·obtain⟨p,x,y,w,rfl,_⟩:=h;rfl
 obtain⟨p,x,y,w,rfl,hp,hw,h1,q⟩:=h;have zn7:=@pss3;have zmu:=@ps_if;have zna:=@PW.pt;have znf:=@pw_or;have znc:=@zi4;have zn3:=@zfv;have zmy:=@zc5;have qpa2:=@pa2;have qpv:=@pv;have zni:=@zfr;have znl:=@zi6;have zmt:=@zav;have qpa1:=@pa1;have zmm:=@zaz;have zmr:=@zae;have zmp:=@zao;have znd:=@pe_bl;have zmv:=@zb5;have zms:=@zb3;have zmn:=@pe_ix;have znb:=@zf0;generalize @L2.PE=QE,@L2.PT=QT,@L2.PW=QW,@L2.PA=QA,@L2.PS=QS,@L2.PSs=QSs,@L2.PG=QG,@L2.PGs=QGs,@L2.PI=QI,@L2.PO=QO,@L2.PIf=QIf at zn7 zmu zna znf znc zn3 zmy qpa2 qpv zni znl zmt qpa1 zmm zmr zmp znd zmv zms zmn znb⊢;refine⟨_,
  (zn7
   (zmu (zna (znf (znc (zn3 (zmy (isiF zeo) rfl T.b_isinstance zbe (qpa2 (qpv 0) za1 (zni (v:=.ty "tuple") rfl T.b_tuple zja rfl) za1)))) (znl (zmt op_ne (zmy zbw rfl T.b_len zdd (qpa1 (qpv 0) za1)) zmm (nomark _))))) (zmr (zmp znd)) zmv)
   (zmu (zna (znf (znc (zn3 (zms (zdg T) (hr.mono (by decide)) rfl T.law_whole.mg T.law_whole.fn.kp T.law_whole.bn .nil pass0 (qpa1 (zmn za0 (qpv 0) zmm (fun _ _=>rfl)) za3)))) (znf (znc (zn3 (zms (zdg T) (hr.mono (by decide)) rfl T.law_whole.mg T.law_whole.fn.kp T.law_whole.bn .nil pass0 (qpa1 (zmn za0 (qpv 0) zmm (fun _ _=>rfl)) za3)))) (znf (znc (zn3 (zms (zdg T) (hr.mono (by decide)) rfl T.law_whole.mg T.law_whole.fn.kp T.law_whole.bn .nil pass0 (qpa1 (zmn za0 (qpv 0) zmm (fun _ _=>rfl)) za3)))) (znl (zmt op_lt (zmn za0 (qpv 0) zmm (fun _ _=>rfl)) zmm (nomark _))))))) (zmr (zmp znd)) zmv)
   (zmp (znb op_eq (zms (zct T) (hr.mono (by decide)) rfl T.law_divisor.mg T.law_divisor.fn.kp T.law_divisor.bn .nil pass0 (qpa2 (zms (zct T) (hr.mono (by decide)) rfl T.law_divisor.mg T.law_divisor.fn.kp T.law_divisor.bn .nil pass0 (qpa2 (zmn za0 (qpv 0) zmm (fun _ _=>rfl)) za3 (zmn za0 (qpv 0) zmm (fun _ _=>rfl)) za3)) zak (zmn za0 (qpv 0) zmm (fun _ _=>rfl)) za3)) zmm (nomark _))))
  ,?_⟩
 clear zn7 zmu zna znf znc zn3 zmy qpa2 qpv zni znl zmt qpa1 zmm zmr zmp znd zmv zms zmn znb QE QT QW QA QS QSs QG QGs QI QO QIf
 dsimp! [L2.start]
 have ht:=zki hp;simp! [zfa,zdr,hp,ht];refine iteNS rfl (ite2 (fun c=>absurd (of_decide_eq_true c) (by omega)) (fun _=>?_))
 rw[G3,h1];exact q
theorem zgk(T:Txt K mg ad fd):FnOk P w K mg base CX0 1 (ad 26) (fd 26) ["_law_a","_law_b","_law_c"] sp_kturn:=by
 refine T.law_turn.fn.ok zdt (fun vs H Q E h=>?_) (fun cdv A outer s H vs Q E hr h=>?_)
 ·obtain⟨p,q,r,x1,y1,w1,x2,y2,w2,x3,y3,w3,rfl,_⟩:=h;rfl
 obtain⟨p,q,r,x1,y1,w1,x2,y2,w2,x3,y3,w3,rfl,hp,hq,hr',k⟩:=h;have zn4:=@pss4;have zmq:=@zbl;have zmo:=@pe_op;have zmn:=@pe_ix;have qpv:=@pv;have zmm:=@zaz;have zmp:=@zao;have znb:=@zf0;generalize @L2.PE=QE,@L2.PT=QT,@L2.PW=QW,@L2.PA=QA,@L2.PS=QS,@L2.PSs=QSs,@L2.PG=QG,@L2.PGs=QGs,@L2.PI=QI,@L2.PO=QO,@L2.PIf=QIf at zn4 zmq zmo zmn qpv zmm zmp znb⊢;refine⟨_,
  (zn4
   (zmq (i:=3) zdt.nd rfl (kc rfl) (zmo za9 (zmn za0 (qpv 0) zmm (fun _ _=>rfl)) (zmo zbn (zmo za9 (zmn za0 (qpv 1) zmm (fun _ _=>rfl)) (zmn za0 (qpv 2) zmm (fun _ _=>rfl))) (zmo za9 (zmn za0 (qpv 2) zmm (fun _ _=>rfl)) (zmn za0 (qpv 1) zmm (fun _ _=>rfl))))))
   (zmq (i:=3) zdt.nd rfl (kc rfl) (zmo zbn (qpv 3) (zmo za9 (zmn za0 (qpv 0) zmm (fun _ _=>rfl)) (zmo zbn (zmo za9 (zmn za0 (qpv 1) zmm (fun _ _=>rfl)) (zmn za0 (qpv 2) zmm (fun _ _=>rfl))) (zmo za9 (zmn za0 (qpv 2) zmm (fun _ _=>rfl)) (zmn za0 (qpv 1) zmm (fun _ _=>rfl)))))))
   (zmq (i:=3) zdt.nd rfl (kc rfl) (zmo zal (qpv 3) (zmo za9 (zmn za0 (qpv 0) zmm (fun _ _=>rfl)) (zmo zbn (zmo za9 (zmn za0 (qpv 1) zmm (fun _ _=>rfl)) (zmn za0 (qpv 2) zmm (fun _ _=>rfl))) (zmo za9 (zmn za0 (qpv 2) zmm (fun _ _=>rfl)) (zmn za0 (qpv 1) zmm (fun _ _=>rfl)))))))
   (zmp (zmo op_sub_bb (znb op_gt (qpv 3) zmm (nomark _)) (znb op_lt (qpv 3) zmm (nomark _)))))
  ,?_⟩
 clear zn4 zmq zmo zmn qpv zmm zmp znb QE QT QW QA QS QSs QG QGs QI QO QIf
 dsimp! [L2.start]
 simp! [hp.1,hq.1,hr'.1,det3_cols,PyProof.Rows.b2i,decide_eq_true_eq];have c1:(y2*w3-y3*w2).natAbs<2^(6000+1):=zdb (zap hq.2.2.1 hr'.2.2.2) (zap hr'.2.2.1 hq.2.2.2);have c2:(x2*w3-x3*w2).natAbs<2^(6000+1):=zdb (zap hq.2.1 hr'.2.2.2) (zap hr'.2.1 hq.2.2.2);have c3:(x2*y3-x3*y2).natAbs<2^(6000+1):=zdb (zap hq.2.1 hr'.2.2.1) (zap hr'.2.1 hq.2.2.1);refine⟨cbig hq.2.2.1 hr'.2.2.2,cbig hr'.2.2.1 hq.2.2.2,cbig hp.2.1 c1,cbig hq.2.1 hr'.2.2.2,cbig hr'.2.1 hq.2.2.2,cbig hp.2.2.1 c2,cbig hq.2.1 hr'.2.2.1,cbig hr'.2.1 hq.2.2.1,cbig hp.2.2.2 c3,?_⟩;rw[sgn_diff];exact k
theorem ok_law_on(T:Txt K mg ad fd):FnOk P w K mg base CX0 2 (ad 27) (fd 27) ["_law_spot","_law_part_here"] sp_kon:=by
 refine T.law_on.fn.ok sc_law_on (fun vs H Q E h=>?_) (fun cdv A outer s H vs Q E hr h=>?_)
 ·obtain⟨p,s,a,b,x1,y1,w1,x2,y2,w2,x3,y3,w3,rfl,_⟩:=h;rfl
 obtain⟨p,s,a,b,x1,y1,w1,x2,y2,w2,x3,y3,w3,rfl,hs,ha,hb,hp,k⟩:=h;have zmz:=@pss2;have zmu:=@ps_if;have zmt:=@zav;have zms:=@zb3;have qpa3:=@pa3;have zmn:=@pe_ix;have qpv:=@pv;have zmm:=@zaz;have zmr:=@zae;have zmp:=@zao;have znd:=@pe_bl;have zmv:=@zb5;have zo0:=@zkp;have znx:=@zlj;have qpa2:=@pa2;have zo1:=@zk9;generalize @L2.PE=QE,@L2.PT=QT,@L2.PW=QW,@L2.PA=QA,@L2.PS=QS,@L2.PSs=QSs,@L2.PG=QG,@L2.PGs=QGs,@L2.PI=QI,@L2.PO=QO,@L2.PIf=QIf at zmz zmu zmt zms qpa3 zmn qpv zmm zmr zmp znd zmv zo0 znx qpa2 zo1⊢;refine⟨_,
  (zmz
   (zmu (zmt op_ne (zms (zgk T) (hr.mono (by decide)) rfl T.law_turn.mg T.law_turn.fn.kp T.law_turn.bn .nil pass0 (qpa3 (zmn za0 (qpv 1) zmm (fun _ _=>rfl)) za3 (zmn za0 (qpv 1) zmm (fun _ _=>rfl)) za3 (qpv 0) za1)) zmm (nomark _)) (zmr (zmp znd)) zmv)
   (zmp (zo0 (znx (zms (zd2 T) (hr.mono (by decide)) rfl T.law_before.mg T.law_before.fn.kp T.law_before.bn .nil pass0 (qpa2 (qpv 0) za1 (zmn za0 (qpv 1) zmm (fun _ _=>rfl)) za3))) (zo1 (znx (zms (zd2 T) (hr.mono (by decide)) rfl T.law_before.mg T.law_before.fn.kp T.law_before.bn .nil pass0 (qpa2 (zmn za0 (qpv 1) zmm (fun _ _=>rfl)) za3 (qpv 0) za1)))))))
  ,?_⟩
 clear zmz zmu zmt zms qpa3 zmn qpv zmm zmr zmp znd zmv zo0 znx qpa2 zo1 QE QT QW QA QS QSs QG QGs QI QO QIf
 dsimp! [L2.start]
 simp! [hs];unfold onB at k;refine⟨a,b,p,_,_,_,_,_,_,_,_,_,rfl,ha,hb,hp.mono,rfl,?_⟩;have hs1:=hs;have z:=k;have hp1:=hp;have ha1:=ha;have hb1:=hb;simp! [hs1];refine ite2 (fun c=>?_) (fun c=>?_)
 ·have c':¬sgn (det3 x1 y1 w1 x2 y2 w2 x3 y3 w3)=0:=by simpa using c
  rw[if_neg c'] at z;exact z
 ·have c':sgn (det3 x1 y1 w1 x2 y2 w2 x3 y3 w3)=0:=by simpa using c
  rw[if_pos c'] at z;refine⟨p,a,_,_,_,_,_,_,rfl,hp1,ha1,_,rfl,ite2 (fun c2=>?_) (fun c2=>?_)⟩
  ·have c2':bef x3 y3 w3 x1 y1 w1=false:=by simpa using c2
   simp! [hs1];refine⟨b,p,_,_,_,_,_,_,rfl,hb1,hp1,_,rfl,?_⟩;rw[c2',jX,AM] at z;exact z
  ·have c2':bef x3 y3 w3 x1 y1 w1=true:=by simpa using c2
   rw[c2',jt,Bd] at z;exact z
def dN(ns:List Nat):List PyData:=ns.map fun k:Nat=>.int (k:Int)
theorem rd_ns{K:kC}{H:Hp}:∀ns:List Nat,RdDs K H (dN ns) (natV ns)
 |[]=>by rw[dN,Qg,RdDs];rfl
 |k::ns=>by
  rw[dN,pE,RdDs];exact⟨_,_,rfl,by rw[RdD],rd_ns ns⟩
theorem rd_nl{K:kC}{H:Hp}{l:Addr}{ns:List Nat}(h:H l=some (.lst (natV ns))):RdD K H (.list (dN ns)) (.ref l):=by
 rw[RdD];exact⟨l,_,rfl,.of h,rd_ns ns⟩
theorem dN_ok:∀ns:List Nat,pN (dN ns)=true/\uF (dN ns)<=1/\pU (dN ns) (dN ns)=true
 |[]=>by simp[dN,pN,uF,pU]
 |k::ns=>by
  obtain⟨h1,h2,h3⟩:=dN_ok ns;unfold dN at*;rw[pE];refine⟨?_,?_,?_⟩
  ·simp[pN,ug,h1]
  ·simp only[uF,ud];omega
  ·simp[pU,pj,h3]
theorem zcv(ns:List Nat):uv (.list (dN ns))=true:=by
 obtain⟨h1,h2,_⟩:=dN_ok ns;unfold uv;rw[ug,h1,AM,ud];exact decide_eq_true (by omega)
theorem zgt(ns:List Nat):pj (.list (dN ns)) (.list (dN ns))=true:=by
 rw[pj];exact(dN_ok ns).2.2
theorem zmh(ns:List Nat):pj (.list (dN ns)) (.list (dN []))=decide (ns=[]):=by
 cases ns with
 |nil=>rw[zgt];rfl
 |cons k ns=>
  rw[decide_eq_false (fun z=>by cases z),pj]
  simp[dN,pU]
def sp_nums:Sp:=fun vs H Q _=>∃(f d:Addr)(ns:List Nat),vs=[.ref f,.ref d]/\H f=some (.lst (natV ns))/\H d=some (.lst (natV ns))/\ns.length<=63/\∀H',Same H H'->Q (.bl true) H'
theorem zdi(T:Txt K mg ad fd):FnOk P w K mg base CX0 2 (ad 37) (fd 37) ["_law_found","_law_due"] sp_nums:=by
 refine T.law_numbers.fn.ok sc_law_numbers (fun vs H Q E h=>?_) (fun cdv A outer s H vs Q E hr h=>?_)
 ·obtain⟨f,d,ns,rfl,_⟩:=h;rfl
 obtain⟨f,d,ns,rfl,hf,hd,hn,k⟩:=h;have zmz:=@pss2;have zmu:=@ps_if;have zna:=@PW.pt;have znf:=@pw_or;have znc:=@zi4;have zn3:=@zfv;have zmy:=@zc5;have qpa2:=@pa2;have qpv:=@pv;have zni:=@zfr;have znl:=@zi6;have zmt:=@zav;have zmr:=@zae;have zmp:=@zao;have znd:=@pe_bl;have zmv:=@zb5;have znb:=@zf0;have qpa1:=@pa1;have zne:=@zgi;unfold L2.CompBody at zne;have zn1:=@zdl;have zmw:=@zby;have znj:=@zhm;have zms:=@zb3;generalize @L2.PE=QE,@L2.PT=QT,@L2.PW=QW,@L2.PA=QA,@L2.PS=QS,@L2.PSs=QSs,@L2.PG=QG,@L2.PGs=QGs,@L2.PI=QI,@L2.PO=QO,@L2.PIf=QIf at zmz zmu zna znf znc zn3 zmy qpa2 qpv zni znl zmt zmr zmp znd zmv znb qpa1 zne zn1 zmw znj zms⊢;refine⟨_,
  (zmz
   (zmu (zna (znf (znc (zn3 (zmy (isiF zfh) rfl T.b_isinstance zbe (qpa2 (qpv 0) za1 (zni (v:=.ty "list") rfl T.b_list zdv rfl) za1)))) (znl (zmt (zha (hu64 hr)) (qpv 0) (qpv 1) (nomark _))))) (zmr (zmp znd)) zmv)
   (zmp (znb op_eq (zmy zbw rfl T.b_len zdd (qpa1 (zne (dsc:=defScope zat) (N:=["_law_found","_law_due"]) (own:=["_law_number"]) (ix:=[]) rfl rfl rfl ⟨rfl,by decide+kernel,by decide+kernel,by decide+kernel,by decide+kernel⟩ (zn1 (qpv 0)) (fun cl C fp s2 H2 xe=>⟨(zmw (i:=0) (show uW (["_law_number"]:List Str) from by decide+kernel) rfl (kc rfl)),(znj (zn3 (zms (zdg T) (hr.mono (by decide)) rfl T.law_whole.mg T.law_whole.fn.kp T.law_whole.bn .nil pass0 (qpa1 (qpv 0) za1)))),(qpv 0)⟩)) zf2)) (zmy zbw rfl T.b_len zdd (qpa1 (qpv 1) za1)) (nomark _))))
  ,?_⟩
 clear zmz zmu zna znf znc zn3 zmy qpa2 qpv zni znl zmt zmr zmp znd zmv znb qpa1 zne zn1 zmw znj zms QE QT QW QA QS QSs QG QGs QI QO QIf
 dsimp! [L2.start]
 have tf:=zld hf;simp! [hf,tf];refine⟨_,_,rd_nl hf,rd_nl hd,zcv _,zcv _,_,rfl,?_⟩;rw[zgt,if_neg (by decide)]
 refine zax ?_;simp! [iList];refine⟨⟨_,.of hf⟩,fun D hD=>?_⟩;refine zau (xs:=natV ns) (fun i us H'=>Same H H'/\H' D=some (.lst us)/\us=natV (ns.take i)) ⟨za2 hD _,upd_same,rfl⟩ (fun i us H' q=>.of (q.1 _ _ hf)) ?_ ?_
 ·rintro i us H2 v hi hv ⟨g2,hD2,eu⟩;obtain⟨m,m1,rfl⟩:=zd9 hv;simp! [zfa];refine cw_put hi hD2 (small1000 (by rw[eu,zb1,kP];omega)) ⟨zar g2 hD,upd_same,?_⟩
  rw[eu,uA,m1,zfx];rfl
 ·rintro us H2 ⟨g2,hD2,eu⟩;rw[zb1,uh] at eu;subst eu;refine⟨D,rfl,_,.inl hD2,_,.inl (g2 _ _ hd),?_⟩;rw[decide_eq_true rfl];exact k H2 g2
theorem filt_rng{n:Nat}{f:Nat->Bool}{H2 H3:Hp}{D:Addr}{i:Nat}{us:List V}{c:Bool}(hi:i<n)(hn:n<=19999)(g:Same H2 H3)(hD:H2 D=none)(hD3:H3 D=some (.lst us))(eu:us=natV ((uP i).filter f))(ef:f i=c):
  if c=true then CPut n (fun j us H'=>Same H2 H'/\H' D=some (.lst us)/\us=natV ((uP j).filter f)) D i (.int (i:Int)) H3 else CSkip n (fun j us H'=>Same H2 H'/\H' D=some (.lst us)/\us=natV ((uP j).filter f)) i H3:=by
 have st:(uP (i+1)).filter f=(uP i).filter f++if f i=true then[i] else[]:=by
  rw[BX,AX]
  congr 1
  by_cases c:f i=true
  ·rw[if_pos c,ve,if_pos c];rfl
  ·rw[if_neg c,ve,if_neg c];rfl
 refine ite2 (fun c'=>cw_put hi hD3 (small10k ?_) ⟨zar g hD,upd_same,?_⟩) (fun c'=>cw_skip hi (ys:=us) ⟨g,hD3,?_⟩)
 ·rw[eu,zb1];refine kz (pb _ _) ?_;rw[pd];omega
 ·rw[st,ef,if_pos c',zfx,eu];rfl
 ·rw[st,ef,if_neg c',QL,eu]
theorem Told.two{ss:List (Q3×Q3)}{ps:List (Nat×Nat)}{g:Int}(T:Told ss ps g){q:Q3}{i m0:Nat}(h:LyT ss ps q i)(b0:bgF ss q=[])(e0:enF ss q=[])(hm:m0∈onF ss q):∃k,k∈onF ss q/\dt (ss.getD m0 zQ).1 (ss.getD m0 zQ).2 (ss.getD k zQ).2≠0:=by
 obtain⟨h0,o0⟩:=ze5.mp hm;have hq:=(T.lies h).2.1;have ne:∀{k:Nat},k<ss.length->OnI ss q k->(ss.getD k zQ).1≠q/\(ss.getD k zQ).2≠q:=fun{k} hk ok=>by
  have mo:=ze5.mpr ⟨hk,ok⟩
  constructor
  ·intro z;have:k∈bgF ss q:=uE.mpr ⟨mo,decide_eq_true z⟩;rw[b0] at this
   cases this
  ·intro z;have:k∈enF ss q:=uE.mpr ⟨mo,decide_eq_true z⟩;rw[e0] at this
   cases this
 have end_no:∀{k:Nat},EndOf ss q k->False:=fun{k} h=>by
  obtain⟨hk,z⟩:=zd6.mp h;obtain⟨_,_,ok⟩:=T.lies (.inl h:LyT ss ps q k);rcases z with z|z
  ·exact(ne hk ok).1 z.symm
  ·exact(ne hk ok).2 z.symm
 rcases h with h|⟨x,hx,hxi,hs⟩
 ·exact(end_no h).elim
 obtain⟨l1,l2⟩:=T.lt x hx;obtain⟨_,_,n1⟩:=T.lies (.inr ⟨x,hx,.inl rfl,hs⟩:LyT ss ps q x.1);obtain⟨_,_,n2⟩:=T.lies (.inr ⟨x,hx,.inr rfl,hs⟩:LyT ss ps q x.2);obtain⟨o1,o2,o3⟩:=T.ok _ (zbo l1);obtain⟨r1,r2,r3⟩:=T.ok _ (zbo l2);obtain⟨t1,t2,t3⟩:=T.ok _ (zbo h0);have cr:CrI ss x.1 x.2≠0:=fun c=>by
  have de:=zgs (ss.getD x.2 zQ).1 (ss.getD x.2 zQ).2;rcases zhr o1 o2 r1 r2 o3 r3 (zdj hq.pos r3 c (zc0 n1).1 (zc0 n2).1 de.1) (zdj hq.pos r3 c (zc0 n1).1 (zc0 n2).1 de.2) hs with z|z
  ·exact end_no (zd6.mpr ⟨l1,z⟩)
  ·exact end_no (zd6.mpr ⟨l2,z⟩)
 have far:∀{k:Nat},k<ss.length->OnI ss q k->CrI ss m0 k≠0->dt (ss.getD m0 zQ).1 (ss.getD m0 zQ).2 (ss.getD k zQ).2≠0:=fun{k} hk ok c z=>by
  obtain⟨x1,x2⟩:=cr_on (zc0 o0).1 (zc0 ok).1;obtain⟨y1,y2⟩:=cr_on z (zgs (ss.getD k zQ).1 (ss.getD k zQ).2).2;have c':crW (ss.getD m0 zQ).1 (ss.getD m0 zQ).2 (ss.getD k zQ).1 (ss.getD k zQ).2≠0:=c;have ex:∀{u v X:Int},u*crW (ss.getD m0 zQ).1 (ss.getD m0 zQ).2 (ss.getD k zQ).1 (ss.getD k zQ).2=X*q.w->v*crW (ss.getD m0 zQ).1 (ss.getD m0 zQ).2 (ss.getD k zQ).1 (ss.getD k zQ).2=X*(ss.getD k zQ).2.w->u*(ss.getD k zQ).2.w=v*q.w:=fun{u v X} e1 e2=>by
   have:crW (ss.getD m0 zQ).1 (ss.getD m0 zQ).2 (ss.getD k zQ).1 (ss.getD k zQ).2*(u*(ss.getD k zQ).2.w-v*q.w)=0:=by grind
   have:=(pL.mp this).resolve_left c';omega
  have hd:=(T.ok _ (zbo hk)).2.1;exact(ne hk ok).2 (Q3.ext' (zit hq (Pt.mono hd (by decide)) (ex x1 y1) (ex x2 y2))).symm
 by_cases c1:CrI ss m0 x.1=0
 ·by_cases c2:CrI ss m0 x.2=0
  ·exact absurd (zlw t3 c1 c2) cr
  ·exact⟨x.2,ze5.mpr ⟨l2,n2⟩,far l2 n2 c2⟩
 ·exact⟨x.1,ze5.mpr ⟨l1,n1⟩,far l1 n1 c1⟩
theorem zmc(ns:List Nat)(k:Nat):((dN ns).any fun e=>pj e (.int (k:Int)))=decide (k∈ns):=by
 induction ns with
 |nil=>rfl
 |cons m ns ih=>
  unfold dN at*;rw[pE,vh,ih];have e:pj (.int (m:Int)) (.int (k:Int))=decide (k=m):=by
   rw[pj]
   by_cases h:k=m
   ·subst h;simp
   ·rw[decide_eq_false h];simp only[beq_eq_false_iff_ne,ne_eq];omega
  rw[e]
  by_cases h:k=m
  ·subst h;simp
  ·simp[h]
def sp_stop(K:kC):Sp:=fun vs H Q _=>∃(p R:Addr)(ys:List V)(ss:List (Q3×Q3))(ps:List (Nat×Nat))(g:Int)(x:R4),vs=[.ref p,.ref R]/\SpY ss H p x/\H R=some (.lst ys)/\LR (StE 130) H ys ss/\ys.length<=63/\Told ss ps g/\(∃i,LyT ss ps x.1 i)/\∀H',Same H H'->Q (.bl true) H'
theorem ok_law_stop(T:Txt K mg ad fd):FnOk P w K mg base CX0 3 (ad 38) (fd 38) ["_law_row_here","_law_parts"] (sp_stop K):=by
 refine T.law_stop.fn.ok zcr (fun vs H Q E h=>?_) (fun cdv A outer s H vs Q E hr h=>?_)
 ·obtain⟨p,R,ys,ss,ps,g,x,rfl,_⟩:=h;rfl
 obtain⟨p,R,ys,ss,ps,g,⟨q,b1,b2,b3⟩,rfl,⟨a,hp,ha,hb1,hb2,hb3⟩,hR,hs,hn,TT,hl,k⟩:=h;have zoc:=@pss9;have zmu:=@ps_if;have zna:=@PW.pt;have znf:=@pw_or;have znc:=@zi4;have zn3:=@zfv;have zmy:=@zc5;have qpa2:=@pa2;have qpv:=@pv;have zni:=@zfr;have zmt:=@zav;have qpa1:=@pa1;have zmm:=@zaz;have znl:=@zi6;have zms:=@zb3;have zmn:=@pe_ix;have zmr:=@zae;have zmp:=@zao;have znd:=@pe_bl;have zmv:=@zb5;have zmq:=@zbl;have zne:=@zgi;unfold L2.CompBody at zne;have zng:=@zdc;have zmw:=@zby;have znj:=@zhm;have zn1:=@zdl;have zn9:=@zfo;unfold L2.CompBody at zn9;have zny:=@zk5;have znz:=@zir;have zn2:=@ze6;have zn6:=@zde;have qpa3:=@pa3;have znb:=@zf0;generalize @L2.PE=QE,@L2.PT=QT,@L2.PW=QW,@L2.PA=QA,@L2.PS=QS,@L2.PSs=QSs,@L2.PG=QG,@L2.PGs=QGs,@L2.PI=QI,@L2.PO=QO,@L2.PIf=QIf at zoc zmu zna znf znc zn3 zmy qpa2 qpv zni zmt qpa1 zmm znl zms zmn zmr zmp znd zmv zmq zne zng zmw znj zn1 zn9 zny znz zn2 zn6 qpa3 znb⊢;refine⟨_,
  (zoc
   (zmu (zna (znf (znc (zn3 (zmy (isiF zeo) rfl T.b_isinstance zbe (qpa2 (qpv 0) za1 (zni (v:=.ty "tuple") rfl T.b_tuple zja rfl) za1)))) (znf (zmt op_ne (zmy zbw rfl T.b_len zdd (qpa1 (qpv 0) za1)) zmm (nomark _)) (znl (znc (zn3 (zms (ok_law_is_point T) (hr.mono (by decide)) rfl T.law_is_point.mg T.law_is_point.fn.kp T.law_is_point.bn .nil pass0 (qpa1 (zmn za0 (qpv 0) zmm (fun _ _=>rfl)) za3)))))))) (zmr (zmp znd)) zmv)
   (zmq (i:=2) zcr.nd rfl (Ul rfl) (zne (dsc:=defScope zay) (N:=["_law_row_here","_law_parts","_law_on_here","_law_begins","_law_ends","_law_through","_law_others"]) (own:=["_law_k"]) (ix:=[0,1]) rfl rfl rfl ⟨rfl,by decide+kernel,by decide+kernel,by decide+kernel,by decide+kernel⟩ (zng rfl T.b_range (qpa1 (zmy zbw rfl T.b_len zdd (qpa1 (qpv 1) za1)) zak)) (fun cl C fp s2 H2 xe=>⟨(zmw (i:=0) (show uW (["_law_k","_law_row_here","_law_parts"]:List Str) from by decide+kernel) rfl (kc rfl)),(znj (zn3 (zms (ok_law_on T) (hr.mono (by decide)) rfl T.law_on.mg T.law_on.fn.kp T.law_on.bn .nil pass0 (qpa2 (zmn za0 (qpv 1) zmm (fun _ _=>rfl)) za3 (zmn zaa (qpv 2) (qpv 0) (fun _ _=>rfl)) za3)))),(qpv 0)⟩)))
   (zmq (i:=3) zcr.nd rfl (Ul rfl) (zne (dsc:=defScope zay) (N:=["_law_row_here","_law_parts","_law_on_here","_law_begins","_law_ends","_law_through","_law_others"]) (own:=["_law_k"]) (ix:=[0,1]) rfl rfl rfl ⟨rfl,by decide+kernel,by decide+kernel,by decide+kernel,by decide+kernel⟩ (zn1 (qpv 2)) (fun cl C fp s2 H2 xe=>⟨(zmw (i:=0) (show uW (["_law_k","_law_row_here","_law_parts"]:List Str) from by decide+kernel) rfl (kc rfl)),(znj (zmt (zk0 (K':=K) rfl (hu64 hr)) (zmn za0 (zmn zaa (qpv 2) (qpv 0) (fun _ _=>rfl)) zmm (fun _ _=>rfl)) (zmn za0 (qpv 1) zmm (fun _ _=>rfl)) (nomark _))),(qpv 0)⟩)))
   (zmq (i:=4) zcr.nd rfl (Ul rfl) (zne (dsc:=defScope zay) (N:=["_law_row_here","_law_parts","_law_on_here","_law_begins","_law_ends","_law_through","_law_others"]) (own:=["_law_k"]) (ix:=[0,1]) rfl rfl rfl ⟨rfl,by decide+kernel,by decide+kernel,by decide+kernel,by decide+kernel⟩ (zn1 (qpv 2)) (fun cl C fp s2 H2 xe=>⟨(zmw (i:=0) (show uW (["_law_k","_law_row_here","_law_parts"]:List Str) from by decide+kernel) rfl (kc rfl)),(znj (zmt (zk0 (K':=K) rfl (hu64 hr)) (zmn za0 (zmn zaa (qpv 2) (qpv 0) (fun _ _=>rfl)) zmm (fun _ _=>rfl)) (zmn za0 (qpv 1) zmm (fun _ _=>rfl)) (nomark _))),(qpv 0)⟩)))
   (zn9 (i:=5) zcr.nd rfl (kc rfl) (dsc:=defScope zay) (N:=["_law_row_here","_law_parts","_law_on_here","_law_begins","_law_ends","_law_through","_law_others"]) (own:=["_law_k"]) (ix:=[3,4]) rfl rfl rfl ⟨rfl,by decide+kernel,by decide+kernel,by decide+kernel,by decide+kernel⟩ (zn1 (qpv 2)) (fun cl C fp s2 H2 xe=>⟨(zmw (i:=0) (show uW (["_law_k","_law_begins","_law_ends"]:List Str) from by decide+kernel) rfl (kc rfl)),(znj (zna (zny (zmt (zi1 (K':=K) rfl (hu64 hr)) (qpv 0) (qpv 1) rfl) (znz (zmt (zi1 (K':=K) rfl (hu64 hr)) (qpv 0) (qpv 2) rfl))))),(qpv 0)⟩))
   (zmu (zna (znf (znc (zn3 (zms (zdi T) (hr.mono (by decide)) rfl T.law_numbers.mg T.law_numbers.fn.kp T.law_numbers.bn .nil pass0 (qpa2 (zmn za0 (qpv 0) zmm (fun _ _=>rfl)) za3 (qpv 3) za1)))) (znf (znc (zn3 (zms (zdi T) (hr.mono (by decide)) rfl T.law_numbers.mg T.law_numbers.fn.kp T.law_numbers.bn .nil pass0 (qpa2 (zmn za0 (qpv 0) zmm (fun _ _=>rfl)) za3 (qpv 5) za1)))) (znl (znc (zn3 (zms (zdi T) (hr.mono (by decide)) rfl T.law_numbers.mg T.law_numbers.fn.kp T.law_numbers.bn .nil pass0 (qpa2 (zmn za0 (qpv 0) zmm (fun _ _=>rfl)) za3 (qpv 4) za1)))))))) (zmr (zmp znd)) zmv)
   (zmu (zna (znf (zmt (zha (hu64 hr)) (qpv 3) (zn2 zn6) (nomark _)) (znl (zmt (zha (hu64 hr)) (qpv 4) (zn2 zn6) (nomark _))))) (zmr (zmp znd)) zmv)
   (zn9 (i:=6) zcr.nd rfl (kc rfl) (dsc:=defScope zay) (N:=["_law_row_here","_law_parts","_law_on_here","_law_begins","_law_ends","_law_through","_law_others"]) (own:=["_law_k"]) (ix:=[1,2]) rfl rfl rfl ⟨rfl,by decide+kernel,by decide+kernel,by decide+kernel,by decide+kernel⟩ (zn1 (qpv 2)) (fun cl C fp s2 H2 xe=>⟨(zmw (i:=0) (show uW (["_law_k","_law_parts","_law_on_here"]:List Str) from by decide+kernel) rfl (kc rfl)),(znj (zmt op_ne (zms (zgk T) (hr.mono (by decide)) rfl T.law_turn.mg T.law_turn.fn.kp T.law_turn.bn .nil pass0 (qpa3 (zmn za0 (zmn zaa (qpv 1) (zmn zaa (qpv 2) zmm (fun _ _=>rfl)) (fun _ _=>rfl)) zmm (fun _ _=>rfl)) za3 (zmn za0 (zmn zaa (qpv 1) (zmn zaa (qpv 2) zmm (fun _ _=>rfl)) (fun _ _=>rfl)) zmm (fun _ _=>rfl)) za3 (zmn za0 (zmn zaa (qpv 1) (qpv 0) (fun _ _=>rfl)) zmm (fun _ _=>rfl)) za3)) zmm (nomark _))),(qpv 0)⟩))
   (zmp (znb op_gt (zmy zbw rfl T.b_len zdd (qpa1 (qpv 6) za1)) zmm (nomark _))))
  ,?_⟩
 clear zoc zmu zna znf znc zn3 zmy qpa2 qpv zni zmt qpa1 zmm znl zms zmn zmr zmp znd zmv zmq zne zng zmw znj zn1 zn9 zny znz zn2 zn6 qpa3 znb QE QT QW QA QS QSs QG QGs QI QO QIf
 dsimp! [L2.start]
 have tp:=zki hp;simp! [hp,tp,hR];rw[if_neg (by decide)]
 refine⟨a,_,_,_,rfl,ha.1,ha.2.pos,ha.2.one,_,rfl,?_⟩;rw[if_neg (by decide)]
 refine zax ?_;simp! [iRng1,hR];refine⟨by omega,by omega,fun O hO=>?_⟩
 rw[show((ys.length:Int)).toNat=ys.length by omega]
 refine zfp (n:=ys.length) (fun i us H'=>Same H H'/\H' O=some (.lst us)/\us=natV ((uP i).filter fun k=>on3 (ss.getD k zQ).1 (ss.getD k zQ).2 q)) ⟨za2 hO _,upd_same,rfl⟩ ?_ ?_
 ·rintro i us H1 hi ⟨g1,hO1,eu⟩;obtain⟨b,e,e1,e2,c,c2,h1,h2,h3,hb⟩:=hs.at hi;have ai:atI ys (i:Int)=some (.ref b):=zaq e1;have hR1:=g1 _ _ hR;have hp1:=g1 _ _ hp;simp! [Ut,hR1,hp1,ai];refine⟨a,b,c,c2,_,_,_,_,_,_,_,_,_,rfl,g1 _ _ h1,(h2.same g1).tb,(h3.same g1).tb,(ha.same g1).tb,_,rfl,?_⟩;refine filt_rng hi (by omega) g1 hO hO1 eu ?_
  show on3 (ss.getD i zQ).1 (ss.getD i zQ).2 q=_
  rw[kB,e2];rfl
 rintro us1 H1 ⟨g1,hO1,eu1⟩;have eu1:us1=natV (onF ss q):=by rw[eu1,hs.1];rfl
 subst eu1;have lo:(onF ss q).length<=63:=by
  have:(onF ss q).length<=ss.length:=kz (pb _ _) (by rw[pd];exact kI _)
  have:=hs.1;omega
 have hk:∀{m:Nat},m∈onF ss q->m<ys.length:=fun h=>by rw[hs.1];exact(ze5.mp h).1
 refine zax ?_;simp! [iList];refine⟨⟨_,.of hO1⟩,fun B1 hB1=>?_⟩;refine zau (xs:=natV (onF ss q)) (fun i us H'=>Same H1 H'/\H' B1=some (.lst us)/\us=natV (((onF ss q).take i).filter fun k=>decide ((ss.getD k zQ).1=q))) ⟨za2 hB1 _,upd_same,rfl⟩ (fun i us H' q=>.of (q.1 _ _ hO1)) ?_ ?_
 ·rintro i us H2 v hi hv ⟨g2,hB2,eu⟩;obtain⟨m,m1,rfl⟩:=zd9 hv;obtain⟨b,e,e1,e2,c,c2,h1,h2,h3,hb⟩:=hs.at (hk (kg m1));have ai:atI ys (m:Int)=some (.ref b):=zaq e1;have g02:=g1.trans g2;have hR2:=g02 _ _ hR;have hp2:=g02 _ _ hp;have h12:=g02 _ _ h1;simp! [hR2,hp2,ai,h12];refine⟨_,_,rd_pt (.of (g02 _ _ h2.1)),rd_pt (.of (g02 _ _ ha.1)),zbc _ _ _,zbc _ _ _,_,rfl,?_⟩;rw[zey];refine zcm hi m1 (by omega) g2 hB1 hB2 eu ?_
  show decide ((ss.getD m zQ).1=q)=_
  rw[kB,e2];exact zi8 e.1 q
 rintro us2 H2 ⟨g2,hB12,eu2⟩;rw[zb1,uh] at eu2;have eu2:us2=natV (bgF ss q):=eu2;subst eu2;have g02:=g1.trans g2;have hO2:=g2 _ _ hO1;refine zax ?_;simp! [iList];refine⟨⟨_,.of hO2⟩,fun B3 hB3=>?_⟩;refine zau (xs:=natV (onF ss q)) (fun i us H'=>Same H2 H'/\H' B3=some (.lst us)/\us=natV (((onF ss q).take i).filter fun k=>decide ((ss.getD k zQ).2=q))) ⟨za2 hB3 _,upd_same,rfl⟩ (fun i us H' q=>.of (q.1 _ _ hO2)) ?_ ?_
 ·rintro i us H3 v hi hv ⟨g3,hB3',eu⟩;obtain⟨m,m1,rfl⟩:=zd9 hv;obtain⟨b,e,e1,e2,c,c2,h1,h2,h3,hb⟩:=hs.at (hk (kg m1));have ai:atI ys (m:Int)=some (.ref b):=zaq e1;have g03:=g02.trans g3;have hR3:=g03 _ _ hR;have hp3:=g03 _ _ hp;have h13:=g03 _ _ h1;simp! [hR3,hp3,ai,h13];refine⟨_,_,rd_pt (.of (g03 _ _ h3.1)),rd_pt (.of (g03 _ _ ha.1)),zbc _ _ _,zbc _ _ _,_,rfl,?_⟩;rw[zey];refine zcm hi m1 (by omega) g3 hB3 hB3' eu ?_
  show decide ((ss.getD m zQ).2=q)=_
  rw[kB,e2];exact zi8 e.2 q
 rintro us3 H3 ⟨g3,hB33,eu3⟩;rw[zb1,uh] at eu3;have eu3:us3=natV (enF ss q):=eu3;subst eu3;have g03:=g02.trans g3;have hO3:=g3 _ _ hO2;have hB13:=g3 _ _ hB12;refine zax ?_;simp! [iList];refine⟨⟨_,.of hO3⟩,fun B2 hB2=>?_⟩;refine zau (xs:=natV (onF ss q)) (fun i us H'=>Same H3 H'/\H' B2=some (.lst us)/\us=natV (((onF ss q).take i).filter fun k=>decide ((ss.getD k zQ).1≠q/\(ss.getD k zQ).2≠q))) ⟨za2 hB2 _,upd_same,rfl⟩ (fun i us H' q=>.of (q.1 _ _ hO3)) ?_ ?_
 ·rintro i us H4 v hi hv ⟨g4,hB24,eu⟩;obtain⟨m,m1,rfl⟩:=zd9 hv;have mo:=kg m1;simp! [];refine⟨.int (m:Int),dN (bgF ss q),by rw[RdD],rd_nl (g4 _ _ hB13),by rw[ug],(dN_ok _).1,by simp[ud],_,rfl,?_⟩
  rw[zmc];have mb:m∈bgF ss q↔(ss.getD m zQ).1=q:=by
   unfold bgF;rw[uE,decide_eq_true_iff];exact⟨fun h=>h.2,fun h=>⟨mo,h⟩⟩
  have me:m∈enF ss q↔(ss.getD m zQ).2=q:=by
   unfold enF;rw[uE,decide_eq_true_iff];exact⟨fun h=>h.2,fun h=>⟨mo,h⟩⟩
  have ft:=fun{c:Bool}=>zcm (c:=c) (f:=fun k=>decide ((ss.getD k zQ).1≠q/\(ss.getD k zQ).2≠q)) hi m1 (by omega) g4 hB2 hB24 eu
  refine ite2 (fun y=>?_) (fun y=>?_)
  ·have nb:¬(ss.getD m zQ).1=q:=fun z=>by rw[decide_eq_true (mb.mpr z)] at y;cases y
   refine⟨.int (m:Int),dN (enF ss q),by rw[RdD],rd_nl (g4 _ _ hB33),by rw[ug],(dN_ok _).1,by simp[ud],_,rfl,?_⟩
   rw[zmc];refine ft ?_
   by_cases z:(ss.getD m zQ).2=q
   ·rw[decide_eq_true (me.mpr z)];exact decide_eq_false fun h=>h.2 z
   ·rw[decide_eq_false (fun h=>z (me.mp h))];exact decide_eq_true ⟨nb,z⟩
  ·have ib:(ss.getD m zQ).1=q:=mb.mp (by
    by_cases z:m∈bgF ss q
    ·exact z
    ·exact absurd (by rw[decide_eq_false z];rfl) y)
   have:=ft (c:=false) (decide_eq_false fun h=>h.1 ib)
   rwa [if_neg (by decide)] at this
 rintro us4 H4 ⟨g4,hB24,eu4⟩;rw[zb1,uh] at eu4;have eu4:us4=natV (thF ss q):=eu4;subst eu4;have g04:=g03.trans g4;have hO4:=g4 _ _ hO3;have hB14:=g4 _ _ hB13;have hB34:=g4 _ _ hB33;have lb:(bgF ss q).length<=63:=kz (pb _ _) lo;have lt:(thF ss q).length<=63:=kz (pb _ _) lo;have le:(enF ss q).length<=63:=kz (pb _ _) lo;refine⟨_,g04 _ _ hp,_,at1,b1,B1,bgF ss q,rfl,g04 _ _ hb1,hB14,lb,fun H5 g5=>⟨_,rfl,?_⟩⟩;rw[if_neg (by decide)]
 have g05:=g04.trans g5;refine⟨_,g05 _ _ hp,_,at2,b2,B2,thF ss q,rfl,g05 _ _ hb2,g5 _ _ hB24,lt,fun H6 g6=>⟨_,rfl,?_⟩⟩;rw[if_neg (by decide)]
 have g06:=g05.trans g6;refine⟨_,g06 _ _ hp,_,at3,b3,B3,enF ss q,rfl,g06 _ _ hb3,(g5.trans g6) _ _ hB34,le,fun H7 g7=>⟨_,rfl,?_⟩⟩;rw[if_neg (by decide)]
 have g47:=g5.trans (g6.trans g7);intro p1 hp1;have g8:=za2 hp1 (HO.lst []);have ep1:upd H7 p1 (HO.lst []) p1=some (HO.lst (natV [])):=upd_same;generalize upd H7 p1 (HO.lst [])=H8 at*;have g48:=g47.trans g8;refine⟨_,_,rd_nl (g48 _ _ hB14),rd_nl ep1,zcv _,zcv _,_,rfl,?_⟩;rw[zmh];refine ite2 (fun _=>k H8 (g04.trans g48)) (fun y1=>?_);have b0:bgF ss q=[]:=by
  by_cases z:bgF ss q=[]
  ·exact z
  ·exact absurd (by rw[decide_eq_false z];rfl) y1
 intro p2 hp2;have g9:=za2 hp2 (HO.lst []);have ep2:upd H8 p2 (HO.lst []) p2=some (HO.lst (natV [])):=upd_same;generalize upd H8 p2 (HO.lst [])=H9 at*;have g49:=g48.trans g9;refine⟨_,_,rd_nl (g49 _ _ hB34),rd_nl ep2,zcv _,zcv _,_,rfl,?_⟩;rw[zmh];refine ite2 (fun _=>k H9 (g04.trans g49)) (fun y2=>?_);have e0:enF ss q=[]:=by
  by_cases z:enF ss q=[]
  ·exact z
  ·exact absurd (by rw[decide_eq_false z];rfl) y2
 have g09:=g04.trans g49;have hO9:=g49 _ _ hO4;obtain⟨i0,hi0⟩:=hl;have mo:i0∈onF ss q:=ze5.mpr ⟨(TT.lies hi0).1,(TT.lies hi0).2.2⟩;obtain⟨m0,rest,eO⟩:∃m0 rest,onF ss q=m0::rest:=by
  cases e:onF ss q with
  |nil=>rw[e] at mo;cases mo
  |cons a l=>exact⟨a,l,rfl⟩
 have m0m:m0∈onF ss q:=by rw[eO];exact ku
 obtain⟨kk,km,kd⟩:=TT.two hi0 b0 e0 m0m;have a0:atI (natV (onF ss q)) 0=some (.int (m0:Int)):=by rw[eO];exact at0
 obtain⟨s0,f0,i1,i2,c0,d0,u1,u2,u3,_⟩:=hs.at (hk m0m);have ai0:atI ys (m0:Int)=some (.ref s0):=zaq i1;have f0e:ss.getD m0 zQ=f0:=by rw[kB,i2];rfl
 refine zax ?_;simp! [iList];refine⟨⟨_,.of hO9⟩,fun W hW=>?_⟩;refine zau (xs:=natV (onF ss q)) (fun i us H'=>Same H9 H'/\H' W=some (.lst us)/\us=natV (((onF ss q).take i).filter fun k=> !decide (sgn (dt (ss.getD m0 zQ).1 (ss.getD m0 zQ).2 (ss.getD k zQ).2)=0))) ⟨za2 hW _,upd_same,rfl⟩ (fun i us H' q=>.of (q.1 _ _ hO9)) ?_ ?_
 ·rintro i us HA v hi hv ⟨gA,hWA,eu⟩;obtain⟨m,m1,rfl⟩:=zd9 hv;obtain⟨b,e,e1,e2,c,c2,h1,h2,h3,hb⟩:=hs.at (hk (kg m1));have ai:atI ys (m:Int)=some (.ref b):=zaq e1;have g0A:=g09.trans gA;have hRA:=g0A _ _ hR;have hOA:=gA _ _ hO9;have h1A:=g0A _ _ h1;have u1A:=g0A _ _ u1;simp! [hRA,hOA,a0,ai0,ai,h1A,u1A];refine⟨c0,d0,c2,_,_,_,_,_,_,_,_,_,rfl,(u2.same g0A).tb,(u3.same g0A).tb,(h3.same g0A).tb,rfl,?_⟩;refine zcm hi m1 (by omega) gA hW hWA eu ?_
  show(!decide (sgn (dt (ss.getD m0 zQ).1 (ss.getD m0 zQ).2 (ss.getD m zQ).2)=0))=_
  rw[f0e,kB,e2,dec_yint];rfl
 rintro us5 HA ⟨gA,hWA,eu5⟩;rw[zb1,uh] at eu5;refine⟨W,rfl,us5,.inl hWA,?_⟩;have:0<us5.length:=by
  rw[eu5,zb1];refine gU (a:=kk) (uE.mpr ⟨km,?_⟩);rw[decide_eq_false (fun z=>kd (zaf.mp z))];rfl
 rw[decide_eq_true (show(0:Int)<(us5.length:Int) by omega)]
 exact k HA (g09.trans gA)
def dQ(r:Q3):PyData:=.tuple [.int r.x,.int r.y,.int r.w]
theorem rd_q{K:kC}{H:Hp}{p:Addr}{r:Q3}(h:QH H p r):RdD K H (dQ r) (.ref p):=by
 unfold dQ;rw[RdD];refine⟨p,_,rfl,.of h.1,?_⟩;rw[RdDs];refine⟨_,_,rfl,by rw[RdD],?_⟩
 rw[RdDs];refine⟨_,_,rfl,by rw[RdD],?_⟩
 rw[RdDs];refine⟨_,_,rfl,by rw[RdD],?_⟩
 rw[RdDs]
theorem dQ_lay(r:Q3):(dQ r).canLay0=true/\(dQ r).depth<=3:=by
 simp[dQ,ug,pN,ud,uF]
theorem zkw(a b:Q3):pj (dQ a) (dQ b)=decide (a=b):=by
 rw[Uc];obtain⟨x,y,w⟩:=a;obtain⟨x',y',w'⟩:=b
 simp[dQ,pj,pU]
def dS(s:Q3×Q3):PyData:=.tuple [dQ s.1,dQ s.2]
theorem rd_s{K:kC}{H:Hp}{p:Addr}{s:Q3×Q3}(h:S2H H p s):RdD K H (dS s) (.ref p):=by
 obtain⟨c,d,h1,h2,h3⟩:=h;unfold dS;rw[RdD];refine⟨p,_,rfl,.of h1,?_⟩;rw[RdDs];refine⟨_,_,rfl,rd_q h2,?_⟩;rw[RdDs];refine⟨_,_,rfl,rd_q h3,?_⟩;rw[RdDs]
theorem rd_ss{K:kC}{H:Hp}:∀{zs:List V}{F:List (Q3×Q3)},LR S2H H zs F->RdDs K H (F.map dS) zs
 |[],[],_=>by rw[Qg,RdDs]
 |[],_::_,h=>by cases h.1
 |v::zs,F,h=>by
  obtain⟨a,as,rfl,⟨p,rfl,hp⟩,t⟩:=h.cons_inv;rw[pE,RdDs];exact⟨_,_,rfl,rd_s hp,rd_ss t⟩
theorem rd_sl{K:kC}{H:Hp}{l:Addr}{zs:List V}{F:List (Q3×Q3)}(h:H l=some (.lst zs))(hz:LR S2H H zs F):RdD K H (.list (F.map dS)) (.ref l):=by
 rw[RdD];exact⟨l,_,rfl,.of h,rd_ss hz⟩
theorem dS_lay(r:Q3×Q3):(dS r).canLay0=true/\(dS r).depth<=4:=by
 simp[dS,dQ,ug,pN,ud,uF]
theorem dSs_lay(F:List (Q3×Q3)):pN (F.map dS)=true/\uF (F.map dS)<=4:=by
 induction F with
 |nil=>exact⟨rfl,by simp[uF]⟩
 |cons r F ih=>
  have h:=dS_lay r;rw[pE]
  constructor
  ·rw[pN,h.1,ih.1];rfl
  ·rw[uF];have:=h.2;have:=ih.2;omega
theorem zgz(F:List (Q3×Q3)):uv (.list (F.map dS))=true:=by
 have h:=dSs_lay F;unfold uv
 simp[ug,ud,h.1]
 have:=h.2;omega
theorem zje:∀F:List (Q3×Q3),pU (F.map dS) (F.map dS)=true
 |[]=>by simp[pU]
 |a::F=>by
  have e:pj (dS a) (dS a)=true:=by
   unfold dS;rw[pj,pU,pU,pU,zkw,zkw]
   simp
  rw[pE,pU,e,zje F];rfl
theorem dSs_eqv(F:List (Q3×Q3)):pj (.list (F.map dS)) (.list (F.map dS))=true:=by
 rw[pj,zje]
theorem zma:∀{l L:List Q3},l.Nodup->(∀x,x∈l->x∈L)->l.length<=L.length
 |[],_,_,_=>pI _
 |a::l,L,nd,h=>by
  have nd':=Ud.mp nd;have ha:=h a ku;have:=zma (l:=l) (L:=L.erase a) nd'.2 fun x hx=>(List.mem_erase_of_ne (fun z=>nd'.1 (by rw[←z];exact hx))).mpr (h x (pB _ hx))
  rw[List.length_erase_of_mem ha] at this;have hp:0<L.length:=gU ha;show l.length+1<=L.length;omega
theorem cut_less(xs:List V):cutV xs none (some (-1))=xs.take (xs.length-1):=by
 unfold cutV;rw[HT.sIx_none,UT,Am];have:HT.sIx xs.length xs.length (some (-1))=xs.length-1:=by
  unfold HT.sIx;dsimp only;rw[if_pos (by decide)]
  omega
 rw[this]
theorem zj9(xs:List V):cutV xs (some 1) none=xs.drop 1:=by
 unfold cutV;have:HT.sIx xs.length 0 (some 1)=min 1 xs.length:=HT.sIx_nat _ _ 1;rw[HT.sIx_none,this]
 cases xs with
 |nil=>rfl
 |cons x xs=>
  rw[show min 1 (x::xs).length=1 by simp only[pQ];omega,kx (by rw[ki];exact kI _)]
theorem Told.lift{ss ss':List (Q3×Q3)}{ps ps':List (Nat×Nat)}{g g':Int}(T:Told ss ps g)(T':Told ss' ps' g')(φ:Nat->Nat)(hφ:∀i,i<ss'.length->φ i<ss.length/\ss.getD (φ i) zQ=ss'.getD i zQ){q:Q3}{i:Nat}(h:LyT ss' ps' q i):∃j,LyT ss ps q j:=by
 have hq:=(T'.lies h).2.1;rcases h with h|⟨x,hx,hxi,hs⟩
 ·obtain⟨hi,z⟩:=zd6.mp h;obtain⟨h1,h2⟩:=hφ i hi;exact⟨φ i,.inl (zd6.mpr ⟨h1,by rw[h2];exact z⟩)⟩
 ·obtain⟨l1,l2⟩:=T'.lt x hx;obtain⟨_,_,n1⟩:=T'.lies (.inr ⟨x,hx,.inl rfl,hs⟩:LyT ss' ps' q x.1);obtain⟨_,_,n2⟩:=T'.lies (.inr ⟨x,hx,.inr rfl,hs⟩:LyT ss' ps' q x.2);obtain⟨o1,o2,o3⟩:=T'.ok _ (zbo l1);obtain⟨r1,r2,r3⟩:=T'.ok _ (zbo l2);obtain⟨a1,a2⟩:=hφ x.1 l1;obtain⟨b1,b2⟩:=hφ x.2 l2
  by_cases c:CrI ss' x.1 x.2=0
  ·have de:=zgs (ss'.getD x.2 zQ).1 (ss'.getD x.2 zQ).2;rcases zhr o1 o2 r1 r2 o3 r3 (zdj hq.pos r3 c (zc0 n1).1 (zc0 n2).1 de.1) (zdj hq.pos r3 c (zc0 n1).1 (zc0 n2).1 de.2) hs with z|z
   ·exact⟨φ x.1,.inl (zd6.mpr ⟨a1,by rw[a2];exact z⟩)⟩
   ·exact⟨φ x.2,.inl (zd6.mpr ⟨b1,by rw[b2];exact z⟩)⟩
  ·exact⟨φ x.1,T.cross (kI _) a1 b1 hq (by unfold OnI;rw[a2];exact n1) (by unfold OnI;rw[b2];exact n2) (by unfold CrI;rw[a2,b2];exact c)⟩
theorem zj5:∀{a b:List Q3},a.Pairwise (Lt 1)->b.Pairwise (Lt 1)->(∀x,x∈a↔x∈b)->a=b
 |[],[],_,_,_=>rfl
 |[],y::b,_,_,h=>absurd ((h y).mpr ku) (by simp)
 |x::a,[],_,_,h=>absurd ((h x).mp ku) (by simp)
 |x::a,y::b,ha,hb,h=>by
  obtain⟨a1,a2⟩:=Ub.mp ha;obtain⟨b1,b2⟩:=Ub.mp hb;have e:x=y:=by
   rcases kh.mp ((h x).mp ku) with z|z
   ·exact z
   ·rcases kh.mp ((h y).mpr ku) with z'|z'
    ·exact z'.symm
    ·exact(zle (a1 y z') (b1 x z)).elim
  subst e;rw[zj5 a2 b2 fun z=>?_]
  constructor
  ·intro hz;rcases kh.mp ((h z).mp (pB _ hz)) with q|q
   ·exact(zkg (q▸a1 z hz)).elim
   ·exact q
  ·intro hz;rcases kh.mp ((h z).mpr (pB _ hz)) with q|q
   ·exact(zkg (q▸b1 z hz)).elim
   ·exact q
def pk(x:R4)(j:Nat):Addr:=[x.2.1,x.2.2.1,x.2.2.2].getD j 0
def pkL(ss:List (Q3×Q3))(q:Q3)(j:Nat):List Nat:=[bgF ss q,thF ss q,enF ss q].getD j []
theorem zmb{ss:List (Q3×Q3)}{H:Hp}{p:Addr}{x:R4}(h:SpY ss H p x){j:Nat}(hj:j<3):∃us,H p=some (.tup us)/\atI us (1+(j:Int))=some (.ref (pk x j))/\H (pk x j)=some (.lst (natV (pkL ss x.1 j))):=by
 obtain⟨a,h1,h2,h3,h4,h5⟩:=h
 match j,hj with
 |0,_=>exact⟨_,h1,at1,h3⟩
 |1,_=>exact⟨_,h1,at2,h4⟩
 |2,_=>exact⟨_,h1,at3,h5⟩
theorem zj2:∀{xs:List R4}{i:Nat}{x:R4},xs[i]?=some x->∀{j:Nat},j<3->(fl xs).drop (3*i+j)=pk x j::(fl xs).drop (3*i+j+1)
 |y::ys,0,x,h,j,hj=>by
  cases h
  match j,hj with
  |0,_=>rfl
  |1,_=>rfl
  |2,_=>rfl
 |y::ys,i+1,x,h,j,hj=>by
  have:=zj2 (xs:=ys) (i:=i) h hj;have e:∀n,(fl (y::ys)).drop (3+n)=(fl ys).drop n:=fun n=>by
   show([y.2.1,y.2.2.1,y.2.2.2]++fl ys).drop (3+n)=_
   rw[List.drop_append]
   simp
  rw[show 3*(i+1)+j=3+(3*i+j) by omega,e,this,show 3+(3*i+j)+1=3+(3*i+j+1) by omega,e]
theorem pkL_len{ss:List (Q3×Q3)}{q:Q3}{j:Nat}(h:(onF ss q).length<=63):(pkL ss q j).length<=63:=by
 match j with
 |0=>exact kz (pb _ _) h
 |1=>exact kz (pb _ _) h
 |2=>exact kz (pb _ _) h
 |n+3=>exact pI _
def dY(ss:List (Q3×Q3))(q:Q3):PyData:=.tuple [dQ q,.list (dN (bgF ss q)),.list (dN (thF ss q)),.list (dN (enF ss q))]
theorem rd_y{K:kC}{ss:List (Q3×Q3)}{H:Hp}{p:Addr}{x:R4}(h:SpY ss H p x):RdD K H (dY ss x.1) (.ref p):=by
 obtain⟨a,h1,h2,h3,h4,h5⟩:=h;unfold dY;rw[RdD];refine⟨p,_,rfl,.of h1,?_⟩;rw[RdDs];refine⟨_,_,rfl,rd_q h2,?_⟩;rw[RdDs];refine⟨_,_,rfl,rd_nl h3,?_⟩;rw[RdDs];refine⟨_,_,rfl,rd_nl h4,?_⟩;rw[RdDs];refine⟨_,_,rfl,rd_nl h5,?_⟩;rw[RdDs]
theorem rd_ys{K:kC}{ss:List (Q3×Q3)}{H:Hp}:∀{zs:List V}{xs:List R4},LR (SpY ss) H zs xs->RdDs K H ((xs.map (·.1)).map (dY ss)) zs
 |[],[],_=>by rw[Qg,Qg,RdDs]
 |[],_::_,h=>by cases h.1
 |v::zs,F,h=>by
  obtain⟨a,as,rfl,⟨p,rfl,hp⟩,t⟩:=h.cons_inv;rw[pE,pE,RdDs];exact⟨_,_,rfl,rd_y hp,rd_ys t⟩
theorem rd_yl{K:kC}{ss:List (Q3×Q3)}{H:Hp}{l:Addr}{zs:List V}{xs:List R4}(h:H l=some (.lst zs))(hz:LR (SpY ss) H zs xs):RdD K H (.list ((xs.map (·.1)).map (dY ss))) (.ref l):=by
 rw[RdD];exact⟨l,_,rfl,.of h,rd_ys hz⟩
theorem dY_ok(ss:List (Q3×Q3))(q:Q3):(dY ss q).canLay0=true/\(dY ss q).depth<=5/\pj (dY ss q) (dY ss q)=true:=by
 have h1:=dN_ok (bgF ss q);have h2:=dN_ok (thF ss q);have h3:=dN_ok (enF ss q);have h4:=dQ_lay q;unfold dY;refine⟨?_,?_,?_⟩
 ·simp[ug,pN,h1.1,h2.1,h3.1,h4.1]
 ·simp only[ud,uF];have:=h1.2.1;have:=h2.2.1;have:=h3.2.1;have:=h4.2;omega
 ·rw[pj,pU,pU,pU,pU,pU,zgt,zgt,zgt,zkw]
  simp
theorem zlp(ss:List (Q3×Q3)):∀qs:List Q3,pN (qs.map (dY ss))=true/\uF (qs.map (dY ss))<=5/\pU (qs.map (dY ss)) (qs.map (dY ss))=true
 |[]=>by simp[pN,uF,pU]
 |q::qs=>by
  obtain⟨h1,h2,h3⟩:=zlp ss qs;obtain⟨e1,e2,e3⟩:=dY_ok ss q;rw[pE];refine⟨?_,?_,?_⟩
  ·rw[pN,e1,h1];rfl
  ·simp only[uF];omega
  ·rw[pU,e3,h3];rfl
theorem zf7(ss:List (Q3×Q3))(qs:List Q3):uv (.list (qs.map (dY ss)))=true:=by
 obtain⟨h1,h2,_⟩:=zlp ss qs;unfold uv;rw[ug,h1,AM,ud];exact decide_eq_true (by omega)
theorem zm8(ss:List (Q3×Q3))(qs:List Q3):pj (.list (qs.map (dY ss))) (.list (qs.map (dY ss)))=true:=by
 rw[pj];exact(zlp ss qs).2.2
theorem lamTab_new{H:Hp}{b:Addr}{pos:Pos}{q:Str}(h:H b=some (.tbl #[])):LamTab H b pos q:=⟨#[],h,by trivial,.inl rfl⟩
def zhu(K:kC)(ts:List Addr):Sp:=fun vs H Q _=>∃(a:Addr)(ns:List Int),vs=[.ref a]/\SqL K H a (ns.map V.int)/\ns.length<=63/\(∀b,b∈ts->∀lp ql,LamTab H b lp ql)/\∀H',Q (.bl true) H'
theorem ok_law(T:Txt K mg ad fd)(hK:K.In base)(hB:∀b,b∈([ad 41,ad 43]:List Addr)->base.BuiltinsAt mg b):FnOk P w K mg base CX0 7 (ad 39) (fd 39) ["_law_script"] (zhu K [(ad 41),(ad 43)]):=by
 refine T.law.fn.ok zef (fun vs H Q E h=>?_) (fun cdv A outer s H vs Q E hr h=>?_)
 ·obtain⟨a,ns,rfl,_⟩:=h;rfl
 obtain⟨a,ns,rfl,hS,hn,hT,k⟩:=h;have ltB:=hT (ad 41) (by simp) lposB qlB
 have ltN:=hT (ad 43) (by simp) lposN qlN
 have zos:=@pss11;have zmq:=@zbl;have zms:=@zb3;have qpa3:=@pa3;have qpv:=@pv;have zmm:=@zaz;have zns:=@zgf;have qpa1:=@pa1;have zmu:=@ps_if;have zna:=@PW.pt;have znf:=@pw_or;have znc:=@zi4;have zn3:=@zfv;have zmy:=@zc5;have qpa2:=@pa2;have zni:=@zfr;have znl:=@zi6;have zmt:=@zav;have zmr:=@zae;have zmp:=@zao;have znd:=@pe_bl;have zmv:=@zb5;have zn0:=@ze4;have zn1:=@zdl;have zmw:=@zby;have zog:=@pi_zip;have znt:=@zhn;have znv:=@ziz;have znu:=@ziv;have znp:=@pe_un;have zo4:=@zl9;have znk:=@zg5;have zno:=@zhj;have zmn:=@pe_ix;have zn9:=@zfo;unfold L2.CompBody at zn9;have znh:=@zfn;have zmx:=@zcu;have qpa4:=@pa4;have zob:=@zij;have zmz:=@pss2;have zn5:=@zdz;have zn8:=@pe_bm;have zot:=@pe_bm0;have znb:=@zf0;generalize @L2.PE=QE,@L2.PT=QT,@L2.PW=QW,@L2.PA=QA,@L2.PS=QS,@L2.PSs=QSs,@L2.PG=QG,@L2.PGs=QGs,@L2.PI=QI,@L2.PO=QO,@L2.PIf=QIf at zos zmq zms qpa3 qpv zmm zns qpa1 zmu zna znf znc zn3 zmy qpa2 zni znl zmt zmr zmp znd zmv zn0 zn1 zmw zog znt znv znu znp zo4 znk zno zmn zn9 znh zmx qpa4 zob zmz zn5 zn8 zot znb⊢;refine⟨_,
  (zos
   (zmq (i:=1) zef.nd rfl (kc rfl) (zms (ok_law_stretches T) (hr.mono (by decide)) rfl T.law_stretches.mg T.law_stretches.fn.kp T.law_stretches.bn .nil pass0 (qpa3 (qpv 0) za1 zmm za4 zmm za4)))
   (zmq (i:=2) zef.nd rfl (kc rfl) (zns zeg rfl T.b_list zdv (qpa1 (qpv 1) za1)))
   (zmq (i:=3) zef.nd rfl (kc rfl) (zms (zhz T hK hB) (hr.mono (by decide)) rfl T.stops.mg T.stops.fn.kp T.stops.bn .nil pass0 (qpa1 (qpv 2) za1)))
   (zmu (zna (znf (znc (zn3 (zmy (isiF zfh) rfl T.b_isinstance zbe (qpa2 (qpv 3) za1 (zni (v:=.ty "list") rfl T.b_list zdv rfl) za1)))) (znl (zmt (zha (hu64 hr)) (qpv 2) (qpv 1) (nomark _))))) (zmr (zmp znd)) zmv)
   (zn0 pM rfl (zn1 (qpv 3)) (zmw (i:=4) zef.nd rfl (kc rfl)) (zmr (zmu (znc (zn3 (zms (ok_law_stop T) (hr.mono (by decide)) rfl T.law_stop.mg T.law_stop.fn.kp T.law_stop.bn .nil pass0 (qpa2 (qpv 4) za1 (qpv 1) za1)))) (zmr (zmp znd)) zmv)))
   (zn0 pM rfl (zog rfl T.b_zip (qpa2 (znt zek (qpv 3) znv (znu (znp zig zmm))) za3 (znt zek (qpv 3) (znu zmm) znv) za3)) (zo4 (n:=2) rfl (znk (zmw (i:=5) zef.nd rfl (kc rfl)) (znk (zmw (i:=6) zef.nd rfl (kc rfl)) zno))) (zmr (zmu (znc (zn3 (zms (zd2 T) (hr.mono (by decide)) rfl T.law_before.mg T.law_before.fn.kp T.law_before.bn .nil pass0 (qpa2 (zmn za0 (qpv 5) zmm (fun _ _=>rfl)) za3 (zmn za0 (qpv 6) zmm (fun _ _=>rfl)) za3)))) (zmr (zmp znd)) zmv)))
   (zn9 (i:=7) zef.nd rfl (kc rfl) (dsc:=defScope s_law) (N:=["_law_script","_law_parts","_law_handed","_law_found","_law_row_here","_law_one","_law_other","_law_kept","_law_old","_law_k"]) (own:=["_law_row_here"]) (ix:=[]) rfl rfl rfl ⟨rfl,by decide+kernel,by decide+kernel,by decide+kernel,by decide+kernel⟩ (zn1 (qpv 3)) (fun cl C fp s2 H2 xe=>⟨(zmw (i:=0) (show uW (["_law_row_here"]:List Str) from by decide+kernel) rfl (kc rfl)),znh,(zmx (qpa4 (zmn za0 (qpv 0) zmm (fun _ _=>rfl)) za3 (zns zeg rfl T.b_list zdv (qpa1 (zmn za0 (qpv 0) zmm (fun _ _=>rfl)) za3)) zak (zns zeg rfl T.b_list zdv (qpa1 (zmn za0 (qpv 0) zmm (fun _ _=>rfl)) za3)) zak (zns zeg rfl T.b_list zdv (qpa1 (zmn za0 (qpv 0) zmm (fun _ _=>rfl)) za3)) zak))⟩))
   (zmu (zna (znf (zmt op_gt (zmy zbw rfl T.b_len zdd (qpa1 (zms (zhz T hK hB) (hr.mono (by decide)) rfl T.stops.mg T.stops.fn.kp T.stops.bn .nil pass0 (qpa1 (znt zek (qpv 1) (znu zmm) znv) za3)) zak)) (zmy zbw rfl T.b_len zdd (qpa1 (qpv 7) za1)) (nomark _)) (znl (zmt (zha (hu64 hr)) (qpv 3) (qpv 7) (nomark _))))) (zmr (zmp znd)) zmv)
   (zn0 pM rfl (zog rfl T.b_zip (qpa2 (qpv 3) za1 (qpv 7) za1)) (zo4 (n:=2) rfl (znk (zmw (i:=4) zef.nd rfl (kc rfl)) (znk (zmw (i:=8) zef.nd rfl (kc rfl)) zno))) (zmr (zn0 pM rfl (zob rfl T.b_range (qpa2 zmm za4 zmm za4)) (zmw (i:=9) zef.nd rfl (kc rfl)) (zmz
   (zmu (zmt (zha (hu64 hr)) (zmn za0 (qpv 4) (qpv 9) (fun _ _=>rfl)) (zmn za0 (qpv 8) (qpv 9) (fun _ _=>rfl)) (nomark _)) (zmr (zmp znd)) zmv)
   (zn5 (zn8 pV uQ uR zcg (zmn za0 (qpv 4) (qpv 9) (fun _ _=>rfl)) (qpa1 (znp zig zmm) zgv)))))))
   (zn5 (zot pV PySem.F.slot_list_clear PySem.F.type_list_clear mt_clear (qpv 3)))
   (zmp (znb (ziq (hu64 hr)) (zms (zhz T hK hB) (hr.mono (by decide)) rfl T.stops.mg T.stops.fn.kp T.stops.bn .nil pass0 (qpa1 (qpv 2) za1)) (qpv 7) (nomark _))))
  ,?_⟩
 clear zos zmq zms qpa3 qpv zmm zns qpa1 zmu zna znf znc zn3 zmy qpa2 zni znl zmt zmr zmp znd zmv zn0 zn1 zmw zog znt znv znu znp zo4 znk zno zmn zn9 znh zmx qpa4 zob zmz zn5 zn8 zot znb QE QT QW QA QS QSs QG QGs QI QO QIf
 dsimp! [L2.start]
 simp! [];refine⟨a,ns,0,8,rfl,hS,hn,by omega,by omega,fun R ys ss H1 nR g1 hR hl hs=>?_⟩
 simp! [hR];intro Lh hLh;have g2:=za2 hLh (HO.lst ys);have eLh:upd H1 Lh (HO.lst ys) Lh=some (HO.lst ys):=upd_same;generalize upd H1 Lh (HO.lst ys)=H2 at*;have g02:=g1.trans g2;have hs2:=hs.ts zbv (zan g2);have ltB2:=ltB.same g02;have ltN2:=ltN.same g02;refine⟨Lh,ys,ss,rfl,eLh,by omega,hs2,ltB2,ltN2,fun D zs xs ps g H3 st3 ltB3 ltN3 hD3 lz hz TT pw ho nd hfr hDn=>?_⟩
 have lst3:∀{b:Addr}{us:List V},H2 b=some (.lst us)->H3 b=some (.lst us):=fun h=>st3 _ _ (ltB2.ne h fun _ z=>nomatch z) (ltN2.ne h fun _ z=>nomatch z) h;have tup3:∀b us,H2 b=some (.tup us)->H3 b=some (.tup us):=fun b us h=>st3 _ _ (ltB2.ne h fun _ z=>nomatch z) (ltN2.ne h fun _ z=>nomatch z) h;have hR3:=lst3 (g2 _ _ hR);have hLh3:=lst3 eLh;have hs3:LR (StE 130) H3 ys ss:=hs2.ts zbv tup3;refine⟨_,zld hD3,?_⟩;rw[isi_ll,if_neg (by decide)]
 refine⟨_,_,rd_sl hLh3 (s2_of hs3),rd_sl hR3 (s2_of hs3),zgz _,zgz _,_,rfl,?_⟩;rw[dSs_eqv,if_neg (by decide)]
 refine zbz ?_;simp! [iList];refine⟨⟨_,.of hD3⟩,?_⟩;refine zdp (K:=K) (a:=D) (xs:=zs) (fun i σ H'=>Same H3 H'/\∃o4:Option V,σ=[some (.ref a),some (.ref R),some (.ref Lh),some (.ref D),o4,none,none,none,none,none]) ⟨.refl _,none,rfl⟩ (fun i σ H' _ iv=>.of (iv.1 _ _ hD3)) ?_ ?_
 ·intro _ _;rintro i v σ H4 hi ⟨g4,o4,rfl⟩;obtain⟨p,x,rfl,hx,hsp⟩:=hz.2 i v hi;simp! [];refine⟨p,R,ys,ss,ps,g,x,rfl,zm1 hsp (zan g4) (fun b _ us h=>g4 _ _ h),g4 _ _ hR3,hs3.ts zbv (zan g4),by omega,TT,(ho x.1).mp (uD.mpr ⟨x,kg hx,rfl⟩),fun H5 g5=>⟨true,rfl,?_⟩⟩
  rw[if_neg (by decide)]
  exact g4.trans g5
 ·rintro σ H4 ⟨g4,o4,rfl⟩;have hD4:=g4 _ _ hD3;have hz4:=zcy hz (zan g4) fun b _ us h=>g4 _ _ h;simp! [];refine zbz ?_;simp! [iZip,hD4];intro q1 hq1;have g5:=za2 hq1 (HO.lst (cutV zs none (some (-1))));have eq1:upd H4 q1 (HO.lst (cutV zs none (some (-1)))) q1=some (HO.lst (cutV zs none (some (-1)))):=upd_same;generalize upd H4 q1 (HO.lst (cutV zs none (some (-1))))=H5 at*;refine⟨zs,g5 _ _ hD4,fun q2 hq2=>?_⟩;have g6:=za2 hq2 (HO.lst (cutV zs (some 1) none));have eq2:upd H5 q2 (HO.lst (cutV zs (some 1) none)) q2=some (HO.lst (cutV zs (some 1) none)):=upd_same;have eq1':=g6 _ _ eq1;generalize upd H5 q2 (HO.lst (cutV zs (some 1) none))=H6 at*;rw[cut_less] at eq1';rw[zj9] at eq2;have g46:=g5.trans g6;refine⟨⟨_,.of eq1'⟩,⟨_,.of eq2⟩,?_⟩;refine zls (xs:=zs.take (zs.length-1)) (ys:=zs.drop 1) (fun i σ H'=>Same H6 H'/\∃o5 o6:Option V,σ=[some (.ref a),some (.ref R),some (.ref Lh),some (.ref D),o4,o5,o6,none,none,none]) ⟨.refl _,none,none,rfl⟩ (fun i σ H' iv=>⟨.of (iv.1 _ _ eq1'),.of (iv.1 _ _ eq2)⟩) (by rw[kP,ki];omega) ?_ ?_
  ·rintro i x y Tn σ H7 hx hy ⟨g7,o5,o6,rfl⟩ hTn;have hx':zs[i]?=some x:=by
    rw[vH] at hx
    split at hx
    ·exact hx
    ·cases hx
   have hy':zs[i+1]?=some y:=by
    rw[Qe,gI] at hy;exact hy
   obtain⟨p1,x1,rfl,e1,a1,v1,w1,_⟩:=hz4.2 i x hx';obtain⟨p2,x2,rfl,e2,a2,v2,w2,_⟩:=hz4.2 (i+1) y hy';have g8:=za2 hTn (HO.tup [V.ref p1,V.ref p2]);have t8:upd H7 Tn (HO.tup [V.ref p1,V.ref p2]) Tn=some (HO.tup [V.ref p1,V.ref p2]):=upd_same;generalize upd H7 Tn (HO.tup [V.ref p1,V.ref p2])=H8 at*;have g48:=g46.trans (g7.trans g8);have v18:=g48 _ _ v1;have v28:=g48 _ _ v2;simp! [gTup];refine⟨_,.of t8,rfl,_,_,rfl,_,_,rfl,rfl,?_⟩;simp! [v18,v28];refine⟨a1,a2,_,_,_,_,_,_,rfl,(w1.same g48).tb,(w2.same g48).tb,_,rfl,?_⟩;have lt:bef x1.1.x x1.1.y x1.1.w x2.1.x x2.1.y x2.1.w=true:=by
    have m1:(xs.map (·.1))[i]?=some x1.1:=by rw[ke,e1];rfl
    have m2:(xs.map (·.1))[i+1]?=some x2.1:=by rw[ke,e2];rfl
    obtain⟨l1,m1⟩:=kG.mp m1;obtain⟨l2,m2⟩:=kG.mp m2;have:=Qc.mp pw i (i+1) l1 l2 (by omega)
    rw[m1,m2] at this;exact bq_lt.mpr this
   rw[lt,if_neg (by decide)]
   exact g7.trans g8
  ·rintro σ H7 ⟨g7,o5,o6,rfl⟩;have g47:=g46.trans g7;simp! [];have hD7:=g47 _ _ hD4;have hz7:=zcy hz4 (zan g47) fun b _ us h=>g47 _ _ h;refine zax ?_;simp! [iList];refine⟨⟨_,.of hD7⟩,fun KL hKL=>?_⟩;refine zau (xs:=zs) (fun i us H'=>Same H7 H'/\H' KL=some (.lst us)/\us.length=i/\∃ks:List R4,ks.map (·.1)=(xs.map (·.1)).take i/\LR (SpY ss) H' us ks/\∀b,b∈fl ks->H7 b=none/\b≠KL) ⟨za2 hKL _,upd_same,rfl,[],by rw[uO];rfl,.nil,fun b hb=>by cases hb⟩ (fun i us H' q=>.of (q.1 _ _ hD7)) ?_ ?_
   ·rintro i us H8 v hi hv ⟨g8,hK8,lu,ks,ek,hk,hf⟩;obtain⟨p,x,rfl,hx,b,v1,v2,v3,v4,v5⟩:=hz7.2 i v hv;have v18:=g8 _ _ v1;have v38:=g8 _ _ v3;simp! [v18,v38];intro c1 hc1;have s1:=za2 hc1 (HO.lst (natV (bgF ss x.1)));have t1:upd H8 c1 (HO.lst (natV (bgF ss x.1))) c1=some (HO.lst (natV (bgF ss x.1))):=upd_same;generalize upd H8 c1 (HO.lst (natV (bgF ss x.1)))=H9 at*;refine⟨_,s1 _ _ v18,_,at2,_,rfl,_,.inl ((g8.trans s1) _ _ v4),fun c2 hc2=>?_⟩;have s2:=za2 hc2 (HO.lst (natV (thF ss x.1)));have t2:upd H9 c2 (HO.lst (natV (thF ss x.1))) c2=some (HO.lst (natV (thF ss x.1))):=upd_same;generalize upd H9 c2 (HO.lst (natV (thF ss x.1)))=H10 at*;have s12:=s1.trans s2;refine⟨_,s12 _ _ v18,_,at3,_,rfl,_,.inl ((g8.trans s12) _ _ v5),fun c3 hc3 t ht=>?_⟩;have s3:=za2 hc3 (HO.lst (natV (enF ss x.1)));have t3:upd H10 c3 (HO.lst (natV (enF ss x.1))) c3=some (HO.lst (natV (enF ss x.1))):=upd_same;generalize upd H10 c3 (HO.lst (natV (enF ss x.1)))=H11 at*;have s4:=za2 ht (HO.tup [V.ref b,V.ref c1,V.ref c2,V.ref c3]);have t4:upd H11 t (HO.tup [V.ref b,V.ref c1,V.ref c2,V.ref c3]) t=some (HO.tup [V.ref b,V.ref c1,V.ref c2,V.ref c3]):=upd_same;generalize upd H11 t (HO.tup [V.ref b,V.ref c1,V.ref c2,V.ref c3])=H12 at*;have sA:=s12.trans (s3.trans s4);have hK12:=sA _ _ hK8;have n1:c1≠KL:=(za8 hK8 hc1).symm;have n2:c2≠KL:=(za8 (s1 _ _ hK8) hc2).symm;have n3:c3≠KL:=(za8 (s12 _ _ hK8) hc3).symm;have hf':∀b',b'∈fl (ks++[(x.1,c1,c2,c3)])->H7 b'=none/\b'≠KL:=fun b' hb=>by
     rw[zhf] at hb;rcases kf.mp hb with hb|hb
     ·exact hf b' hb
     ·simp only[kh,pP,or_false] at hb;rcases hb with rfl|rfl|rfl
      ·exact⟨g8.free hc1,n1⟩
      ·exact⟨(g8.trans s1).free hc2,n2⟩
      ·exact⟨(g8.trans s12).free hc3,n3⟩
    refine cw_put hi hK12 (small10k (by omega)) ⟨zar (g8.trans sA) hKL,upd_same,by rw[kK,lu];rfl,ks++[(x.1,c1,c2,c3)],?_,?_,hf'⟩
    ·rw[pg,ek,uA,ke,hx];rfl
    ·have sx:SpY ss H12 t (x.1,c1,c2,c3):=⟨b,t4,(v2.same g8).same sA,(s2.trans (s3.trans s4)) _ _ t1,(s3.trans s4) _ _ t2,s4 _ _ t3⟩;refine zcy ((zcy hk (zan sA) fun b _ us h=>sA _ _ h).snoc sx) (zf8 hK12) fun b' hb us h=>?_;rw[za6 (hf' b' hb).2];exact h
   ·rintro us H8 ⟨g8,hK8,lu,ks,ek,hk,hf⟩;rw[kx (by rw[kN,hz.1];exact kI _)] at ek
    have g48:=g47.trans g8;have g38:=g4.trans g48;have hR8:=g38 _ _ hR3;refine⟨ys,hR8,fun q3 hq3=>?_⟩;rw[zj9];have s9:=za2 hq3 (HO.lst (ys.drop 1));have e9:upd H8 q3 (HO.lst (ys.drop 1)) q3=some (HO.lst (ys.drop 1)):=upd_same;generalize upd H8 q3 (HO.lst (ys.drop 1))=H9 at*;have g39:=g38.trans s9;have hs9:LR (StE 130) H9 (ys.drop 1) (ss.drop 1):=(hs3.drop 1).ts zbv (zan g39);have ltB9:=ltB3.same g39;have ltN9:=ltN3.same g39;refine⟨q3,ys.drop 1,ss.drop 1,rfl,e9,by rw[ki];omega,hs9,ltB9,ltN9,fun D2 zs2 xs2 ps2 g2' H10 st10 ltB10 ltN10 hD10 lz2 hz2 TT2 pw2 ho2 _ hfr2 _=>?_⟩
    have lst10:∀{b:Addr}{us:List V},H9 b=some (.lst us)->H10 b=some (.lst us):=fun h=>st10 _ _ (ltB9.ne h fun _ z=>nomatch z) (ltN9.ne h fun _ z=>nomatch z) h;have tup10:∀b us,H9 b=some (.tup us)->H10 b=some (.tup us):=fun b us h=>st10 _ _ (ltB9.ne h fun _ z=>nomatch z) (ltN9.ne h fun _ z=>nomatch z) h;have len2:zs2.length<=us.length:=by
     have h1:=zma (l:=xs2.map (·.1)) (L:=ks.map (·.1)) (List.Pairwise.imp (R:=Lt 1) (S:=(·≠·)) (fun{a b} h z=>zkg (s:=1) (a:=b) (by rw[z] at h;exact h)) pw2) fun q hq=>by
      obtain⟨i,hi⟩:=(ho2 q).mp hq;rw[ek,ho q];refine TT.lift TT2 (fun i=>i+1) (fun i hi=>?_) hi;rw[ki] at hi;refine⟨by omega,?_⟩
      rw[kB,kB,Qe,gI]
     rw[kN,kN,←hz2.1,←hk.1] at h1;exact h1
    have hK10:=lst10 (s9 _ _ hK8);have hD10':=lst10 ((g38.trans s9) _ _ hD3);have hz10:LR (SpY ss) H10 zs xs:=zcy (zcy hz (zan g39) fun b _ us h=>g39 _ _ h) tup10 fun b _ us h=>lst10 h;have hk10:LR (SpY ss) H10 us ks:=zcy (zcy hk (zan s9) fun b _ us h=>s9 _ _ h) tup10 fun b _ us h=>lst10 h;refine⟨D2,rfl,_,.inl hD10,KL,rfl,_,.inl hK10,?_⟩;rw[if_neg (fun z=>by have:=of_decide_eq_true z;omega)]
    refine⟨_,_,rd_yl hD10' hz10,rd_yl hK10 hk10,zf7 _ _,zf7 _ _,_,rfl,?_⟩;rw[ek,zm8,if_neg (by decide)]
    refine zbz ?_;simp! [iZip];refine⟨⟨_,.of hD10'⟩,⟨_,.of hK10⟩,?_⟩;have nfD:D∉fl xs:=fun z=>(hfr D z).2 rfl;have live:∀b,b∈fl xs->∃us,H7 b=some (.lst us):=fun b hb=>by
     obtain⟨x,hx,hb'⟩:=List.mem_flatMap.mp hb;obtain⟨i,hi⟩:=pZ.mp hx;obtain⟨p,x',_,e2,a',_,_,w3,w4,w5⟩:=hz7.at (j:=i) (by rw[hz7.1];exact(kG.mp hi).1)
     rw[hi] at e2
     cases e2;simp only[kh,pP,or_false] at hb';rcases hb' with rfl|rfl|rfl
     ·exact⟨_,w3⟩
     ·exact⟨_,w4⟩
     ·exact⟨_,w5⟩
    have live10:∀b,b∈fl xs->∃us,H10 b=some (.lst us):=fun b hb=>by
     obtain⟨us,h⟩:=live b hb;exact⟨us,lst10 ((g8.trans s9) _ _ h)⟩
    have nfK:KL∉fl xs:=fun z=>by
     obtain⟨us,h⟩:=live KL z;rw[hKL] at h
     cases h
    have nfk:∀b,b∈fl ks->b∉fl xs:=fun b hb z=>by
     obtain⟨us,h⟩:=live b z;rw[(hf b hb).1] at h
     cases h
    have lnx:∀q,(onF ss q).length<=63:=fun q=>by
     have:(onF ss q).length<=ss.length:=kz (pb _ _) (by rw[pd];exact kI _)
     have:=hs.1;omega
    have lxs:xs.length=us.length:=by rw[←hz.1,lu]
    refine zls (xs:=zs) (ys:=us) (fun i σ H'=>∃p4 p8 p9:Option V,σ=[some (.ref a),some (.ref R),some (.ref Lh),some (.ref D),p4,o5,o6,some (.ref KL),p8,p9]/\(∀b o,b∉fl xs->H10 b=some o->H' b=some o)/\∀b o,b∈(fl xs).drop (3*i)->H10 b=some o->H' b=some o) ⟨_,_,_,rfl,fun b o _ h=>h,fun b o _ h=>h⟩ (fun i σ H' iv=>?_) (by omega) ?_ ?_
    ·obtain⟨_,_,_,_,f1,_⟩:=iv;exact⟨.of (f1 _ _ nfD hD10'),.of (f1 _ _ nfK hK10)⟩
    ·rintro i x y Tn σ HA hx hy ⟨p4,p8,p9,rfl,f1,f2⟩ hTn;obtain⟨p1,x1,rfl,e1,hs1⟩:=hz10.2 i x hx;obtain⟨p2,x2,rfl,e2,hs2'⟩:=hk10.2 i y hy;have eqq:x2.1=x1.1:=by
      have m:=congrArg (fun l=>l[i]?) ek;simp only[ke,e1,e2,uM,QB] at m;exact m
     have gT:=za2 hTn (HO.tup [V.ref p1,V.ref p2]);have tT:upd HA Tn (HO.tup [V.ref p1,V.ref p2]) Tn=some (HO.tup [V.ref p1,V.ref p2]):=upd_same;generalize upd HA Tn (HO.tup [V.ref p1,V.ref p2])=HB at*;simp! [gTup];refine⟨_,.of tT,rfl,_,_,rfl,_,_,rfl,rfl,?_⟩;refine zbz ?_;simp! [iRng2];refine⟨by decide,by decide,by decide,by decide,?_⟩
     rw[show vN 3=3 from rfl];refine zd4 (lo:=1) (n:=3) (fun j σ H'=>∃p9:Option V,σ=[some (.ref a),some (.ref R),some (.ref Lh),some (.ref D),some (.ref p1),o5,o6,some (.ref KL),some (.ref p2),p9]/\(∀b o,b∉fl xs->HB b=some o->H' b=some o)/\∀b o,b∈(fl xs).drop (3*i+j)->H10 b=some o->H' b=some o) ⟨p9,rfl,fun b o _ h=>h,fun b o hb h=>gT _ _ (f2 b o hb h)⟩ ?_ ?_
     ·intro _ _;rintro j σ HC hj ⟨p9',rfl,c1,c2⟩;obtain⟨us1,r1,r2,r3⟩:=zmb hs1 hj;obtain⟨us2,r4,r5,r6⟩:=zmb hs2' hj;rw[eqq] at r6;have dr:=zj2 e1 hj;have mp:pk x1 j∈(fl xs).drop (3*i+j):=by rw[dr];exact ku
      have mk:pk x2 j∈fl ks:=QU (i:=3*i+j) (by rw[zj2 e2 hj];exact ku)
      have k1:HC (pk x1 j)=some (.lst (natV (pkL ss x1.1 j))):=c2 _ _ mp r3;have k2:HC (pk x2 j)=some (.lst (natV (pkL ss x1.1 j))):=c1 _ _ (nfk _ mk) (gT _ _ (f1 _ _ (nfk _ mk) r6));have nt:∀{b:Addr}{us:List V},H10 b=some (.tup us)->HC b=some (.tup us):=fun{b us} h=>by
       have nb:b∉fl xs:=fun z=>by
        obtain⟨vs,hv⟩:=live10 b z;rw[h] at hv
        cases hv
       exact c1 _ _ nb (gT _ _ (f1 _ _ nb h))
      have q1:=nt r1;have q2:=nt r4;simp! [q1,q2,r2,r5];refine⟨_,_,rd_nl k1,rd_nl k2,zcv _,zcv _,_,rfl,?_⟩;rw[zgt,if_neg (by decide)]
      have ndd:((fl xs).drop (3*i+j)).Nodup:=nd.sublist (Ap _ _);rw[dr,List.nodup_cons] at ndd;refine⟨us1,q1,_,r2,ze3 k1,pk x1 j,rfl,_,k1,small1000 (by rw[zb1];have:=pkL_len (j:=j) (lnx x1.1);omega),?_⟩
      refine⟨fun b o nb h=>?_,fun b o hb h=>?_⟩
      ·rw[za6 (fun z=>nb (by rw[z];exact QU mp))]
       exact c1 b o nb h
      ·rw[za6 (fun z=>ndd.1 (by rw[←z];exact hb))]
       exact c2 b o (by rw[dr];exact pB _ hb) h
     ·rintro σ HC ⟨p9',rfl,c1,c2⟩;simp! [];exact⟨fun b o nb h=>c1 b o nb (gT _ _ (f1 b o nb h)),fun b o hb h=>c2 b o (by rw[show 3*i+3=3*(i+1) by omega];exact hb) h⟩
    ·rintro σ HA ⟨p4,p8,p9,rfl,f1,f2⟩;simp! [];refine⟨ze3 (f1 _ _ nfD hD10'),⟨_,f1 _ _ nfD hD10'⟩,?_⟩;have hDA:=f1 _ _ nfD hD10';have tupA:∀b us,H10 b=some (.tup us)->upd HA D (HO.lst []) b=some (.tup us):=fun b us h=>by
      have nb:b∉fl xs:=fun z=>by
       obtain⟨vs,hv⟩:=live10 b z;rw[h] at hv
       cases hv
      have:=f1 _ _ nb h;rw[za6 (fun z=>by rw[z,hDA] at this;cases this)]
      exact this
     have othA:∀{b:Addr}{o:HO},H10 b=some o->(∀us,o≠.lst us)->upd HA D (HO.lst []) b=some o:=fun{b o} h n=>by
      have nb:b∉fl xs:=fun z=>by
       obtain⟨vs,hv⟩:=live10 b z;rw[h] at hv;exact n vs (pJ hv)
      have:=f1 _ _ nb h;rw[za6 (fun z=>by rw[z,hDA] at this;exact n _ (pJ this).symm)]
      exact this
     have lamA:∀{tb:Addr}{lp:Pos}{ql:Str},LamTab H10 tb lp ql->LamTab (upd HA D (HO.lst [])) tb lp ql:=fun{tb lp ql} h=>by
      obtain⟨tp,h1,h2,h3⟩:=h;exact⟨tp,othA h1 (fun _ z=>nomatch z),h2,h3.imp id fun⟨c,e,hc⟩=>⟨c,e,othA hc fun _ z=>nomatch z⟩⟩
     have nLh:Lh∉fl xs:=fun z=>by
      have:=(hfr Lh z).1;rw[eLh] at this
      cases this
     have hLA:upd HA D (HO.lst []) Lh=some (.lst ys):=by
      rw[za6 (za8 eLh hDn)];exact f1 _ _ nLh (lst10 (g39 _ _ hLh3))
     have hKA:upd HA D (HO.lst []) KL=some (.lst us):=by
      rw[za6 (fun z=>by rw[z,hD7] at hKL;cases hKL)]
      exact f1 _ _ nfK hK10
     have hkA:LR (SpY ss) (upd HA D (HO.lst [])) us ks:=zcy hk10 tupA fun b hb vs h=>by
      rw[za6 (fun z=>by have:=(hf b hb).1;rw[z,hD7] at this;cases this)]
      exact f1 _ _ (nfk b hb) h
     have hsA:LR (StE 130) (upd HA D (HO.lst [])) ys ss:=hs3.ts zbv fun b vs h=>tupA _ _ (tup10 _ _ (g39 _ _ h));have ltBA:=lamA ltB10;have ltNA:=lamA ltN10;generalize upd HA D (HO.lst [])=HE at*;refine⟨Lh,ys,ss,rfl,hLA,by omega,hsA,ltBA,ltNA,fun D4 zs4 xs4 ps4 g4' HF stF _ _ hDF _ hzF TT4 pw4 ho4 _ _ _=>?_⟩
     have lstF:∀{b:Addr}{us:List V},HE b=some (.lst us)->HF b=some (.lst us):=fun h=>stF _ _ (ltBA.ne h fun _ z=>nomatch z) (ltNA.ne h fun _ z=>nomatch z) h;have tupF:∀b us,HE b=some (.tup us)->HF b=some (.tup us):=fun b us h=>stF _ _ (ltBA.ne h fun _ z=>nomatch z) (ltNA.ne h fun _ z=>nomatch z) h;have eq4:xs4.map (·.1)=xs.map (·.1):=zj5 pw4 pw fun q=>by
      rw[ho4 q,ho q];exact⟨fun⟨i,h⟩=>TT.lift TT4 id (fun i hi=>⟨hi,rfl⟩) h,fun⟨i,h⟩=>TT4.lift TT id (fun i hi=>⟨hi,rfl⟩) h⟩
     refine⟨_,_,rd_yl hDF hzF,rd_yl (lstF hKA) (zcy hkA tupF fun b _ us h=>lstF h),zf7 _ _,zf7 _ _,?_⟩;rw[eq4,ek,zm8];exact k HF
end
theorem all_mk{l:gW}{w:World}{K:kC}{h:Heap}{mg:Str->Option Value}{fa f0 f1 f2 f3 f4 f5 f6 f7 f8 f9 cT0 pT0 f10 f11 f12 f13 f14 f15 f16 f17 f18 cT1 pT1 f19 f20 f21 f22 f23 f24 f25 f26 f27 f28 f29 f30 f31 f32 f33 f34 f35 f36 f37 f38 f39:Addr}(X:K.In h)(G:h.Ns mainGlobals mg)(hfa:mg "law"=some (.ref fa))
  {od0 an0:Option Addr}{sl0:Array (Option Value)}{oc0 kV0 dc0 pm0 cd0 ct0:Value}
  {od1 an1:Option Addr}{sl1:Array (Option Value)}{oc1 kV1 dc1 pm1 cd1 ct1:Value}
  {od2 an2:Option Addr}{sl2:Array (Option Value)}{oc2 kV2 dc2 pm2 cd2 ct2:Value}
  {od3 an3:Option Addr}{sl3:Array (Option Value)}{oc3 kV3 dc3 pm3 cd3 ct3:Value}
  {od4 an4:Option Addr}{sl4:Array (Option Value)}{oc4 kV4 dc4 pm4 cd4 ct4:Value}
  {od5 an5:Option Addr}{sl5:Array (Option Value)}{oc5 kV5 dc5 pm5 cd5 ct5:Value}
  {od6 an6:Option Addr}{sl6:Array (Option Value)}{oc6 kV6 dc6 pm6 cd6 ct6:Value}
  {od7 an7:Option Addr}{sl7:Array (Option Value)}{oc7 kV7 dc7 pm7 cd7 ct7:Value}
  {od8 an8:Option Addr}{sl8:Array (Option Value)}{oc8 kV8 dc8 pm8 cd8 ct8:Value}
  {od9 an9:Option Addr}{sl9:Array (Option Value)}{oc9 kV9 dc9 pm9 ct9:Value}
  {tdT0:Option Addr}{tvT0:Array Value}{tsT0:Array (Option Value)}{tcT0:Value}
  {od10 an10:Option Addr}{sl10:Array (Option Value)}{oc10 kV10 dc10 pm10 cd10 ct10:Value}
  {od11 an11:Option Addr}{sl11:Array (Option Value)}{oc11 kV11 dc11 pm11 cd11 ct11:Value}
  {od12 an12:Option Addr}{sl12:Array (Option Value)}{oc12 kV12 dc12 pm12 cd12 ct12:Value}
  {od13 an13:Option Addr}{sl13:Array (Option Value)}{oc13 kV13 dc13 pm13 cd13 ct13:Value}
  {od14 an14:Option Addr}{sl14:Array (Option Value)}{oc14 kV14 dc14 pm14 cd14 ct14:Value}
  {od15 an15:Option Addr}{sl15:Array (Option Value)}{oc15 kV15 dc15 pm15 cd15 ct15:Value}
  {od16 an16:Option Addr}{sl16:Array (Option Value)}{oc16 kV16 dc16 pm16 cd16 ct16:Value}
  {od17 an17:Option Addr}{sl17:Array (Option Value)}{oc17 kV17 dc17 pm17 cd17 ct17:Value}
  {od18 an18:Option Addr}{sl18:Array (Option Value)}{oc18 kV18 dc18 pm18 ct18:Value}
  {tdT1:Option Addr}{tvT1:Array Value}{tsT1:Array (Option Value)}{tcT1:Value}
  {od19 an19:Option Addr}{sl19:Array (Option Value)}{oc19 kV19 dc19 pm19 cd19 ct19:Value}
  {od20 an20:Option Addr}{sl20:Array (Option Value)}{oc20 kV20 dc20 pm20 cd20 ct20:Value}
  {od21 an21:Option Addr}{sl21:Array (Option Value)}{oc21 kV21 dc21 pm21 cd21 ct21:Value}
  {od22 an22:Option Addr}{sl22:Array (Option Value)}{oc22 kV22 dc22 pm22 cd22 ct22:Value}
  {od23 an23:Option Addr}{sl23:Array (Option Value)}{oc23 kV23 dc23 pm23 cd23 ct23:Value}
  {od24 an24:Option Addr}{sl24:Array (Option Value)}{oc24 kV24 dc24 pm24 cd24 ct24:Value}
  {od25 an25:Option Addr}{sl25:Array (Option Value)}{oc25 kV25 dc25 pm25 cd25 ct25:Value}
  {od26 an26:Option Addr}{sl26:Array (Option Value)}{oc26 kV26 dc26 pm26 cd26 ct26:Value}
  {od27 an27:Option Addr}{sl27:Array (Option Value)}{oc27 kV27 dc27 pm27 cd27 ct27:Value}
  {od28 an28:Option Addr}{sl28:Array (Option Value)}{oc28 kV28 dc28 pm28 cd28 ct28:Value}
  {od29 an29:Option Addr}{sl29:Array (Option Value)}{oc29 kV29 dc29 pm29 cd29 ct29:Value}
  {od30 an30:Option Addr}{sl30:Array (Option Value)}{oc30 kV30 dc30 pm30 cd30 ct30:Value}
  {od31 an31:Option Addr}{sl31:Array (Option Value)}{oc31 kV31 dc31 pm31 cd31 ct31:Value}
  {od32 an32:Option Addr}{sl32:Array (Option Value)}{oc32 kV32 dc32 pm32 cd32 ct32:Value}
  {od33 an33:Option Addr}{sl33:Array (Option Value)}{oc33 kV33 dc33 pm33 cd33 ct33:Value}
  {od34 an34:Option Addr}{sl34:Array (Option Value)}{oc34 kV34 dc34 pm34 cd34 ct34:Value}
  {od35 an35:Option Addr}{sl35:Array (Option Value)}{oc35 kV35 dc35 pm35 cd35 ct35:Value}
  {od36 an36:Option Addr}{sl36:Array (Option Value)}{oc36 kV36 dc36 pm36 cd36 ct36:Value}
  {od37 an37:Option Addr}{sl37:Array (Option Value)}{oc37 kV37 dc37 pm37 cd37 ct37:Value}
  {od38 an38:Option Addr}{sl38:Array (Option Value)}{oc38 kV38 dc38 pm38 cd38 ct38:Value}
  {od39 an39:Option Addr}{sl39:Array (Option Value)}{oc39 kV39 dc39 pm39 cd39 ct39:Value}
  (a0:kU K mainGlobals "is_whole"=some (some (.ref f0)))(l0:K.lookup f0=some ⟨oc0,od0,.func (kH "is_whole" "is_whole" (defArgs zbd) (defBody zbd) (defScope zbd) .none kV0 dc0 pm0 an0 cd0 ct0),sl0⟩)(c0:kW K cd0 "is_whole"=true)(k0:kX K (.ref f0)=true)
  (a1:kU K mainGlobals "divisor"=some (some (.ref f1)))(l1:K.lookup f1=some ⟨oc1,od1,.func (kH "divisor" "divisor" (defArgs zca) (defBody zca) (defScope zca) .none kV1 dc1 pm1 an1 cd1 ct1),sl1⟩)(c1:kW K cd1 "divisor"=true)(k1:kX K (.ref f1)=true)
  (a2:kU K mainGlobals "point"=some (some (.ref f2)))(l2:K.lookup f2=some ⟨oc2,od2,.func (kH "point" "point" (defArgs zdx) (defBody zdx) (defScope zdx) .none kV2 dc2 pm2 an2 cd2 ct2),sl2⟩)(c2:kW K cd2 "point"=true)(k2:kX K (.ref f2)=true)
  (a3:kU K mainGlobals "before"=some (some (.ref f3)))(l3:K.lookup f3=some ⟨oc3,od3,.func (kH "before" "before" (defArgs zd1) (defBody zd1) (defScope zd1) .none kV3 dc3 pm3 an3 cd3 ct3),sl3⟩)(c3:kW K cd3 "before"=true)(k3:kX K (.ref f3)=true)
  (a4:kU K mainGlobals "sign_of"=some (some (.ref f4)))(l4:K.lookup f4=some ⟨oc4,od4,.func (kH "sign_of" "sign_of" (defArgs zce) (defBody zce) (defScope zce) .none kV4 dc4 pm4 an4 cd4 ct4),sl4⟩)(c4:kW K cd4 "sign_of"=true)(k4:kX K (.ref f4)=true)
  (a5:kU K mainGlobals "line_of"=some (some (.ref f5)))(l5:K.lookup f5=some ⟨oc5,od5,.func (kH "line_of" "line_of" (defArgs zch) (defBody zch) (defScope zch) .none kV5 dc5 pm5 an5 cd5 ct5),sl5⟩)(c5:kW K cd5 "line_of"=true)(k5:kX K (.ref f5)=true)
  (a6:kU K mainGlobals "side_of"=some (some (.ref f6)))(l6:K.lookup f6=some ⟨oc6,od6,.func (kH "side_of" "side_of" (defArgs zcb) (defBody zcb) (defScope zcb) .none kV6 dc6 pm6 an6 cd6 ct6),sl6⟩)(c6:kW K cd6 "side_of"=true)(k6:kX K (.ref f6)=true)
  (a7:kU K mainGlobals "met"=some (some (.ref f7)))(l7:K.lookup f7=some ⟨oc7,od7,.func (kH "met" "met" (defArgs s_met) (defBody s_met) (defScope s_met) .none kV7 dc7 pm7 an7 cd7 ct7),sl7⟩)(c7:kW K cd7 "met"=true)(k7:kX K (.ref f7)=true)
  (a8:kU K mainGlobals "order_keys"=some (some (.ref f8)))(l8:K.lookup f8=some ⟨oc8,od8,.func (kH "order_keys" "order_keys" (defArgs zb7) (defBody zb7) (defScope zb7) .none kV8 dc8 pm8 an8 cd8 ct8),sl8⟩)(c8:kW K cd8 "order_keys"=true)(k8:kX K (.ref f8)=true)
  (a9:kU K mainGlobals "in_order"=some (some (.ref f9)))(l9:K.lookup f9=some ⟨oc9,od9,.func (kH "in_order" "in_order" (defArgs zb8) (defBody zb8) (defScope zb8) .none kV9 dc9 pm9 an9 (.ref cT0) ct9),sl9⟩)(c9:kW K (.ref cT0) "in_order"=true)(k9:kX K (.ref f9)=true)
  (lT0:K.lookup cT0=some ⟨tcT0,tdT0,.fields tvT0,tsT0⟩)(vT0:tvT0[11]?=some (.ref pT0))(hT0:BH K cT0 pT0=true)(tT0:vg K "in_order"=some (cT0,pT0))(nT0:K.lookup pT0=none)
  (a10:kU K mainGlobals "ends_of"=some (some (.ref f10)))(l10:K.lookup f10=some ⟨oc10,od10,.func (kH "ends_of" "ends_of" (defArgs zcc) (defBody zcc) (defScope zcc) .none kV10 dc10 pm10 an10 cd10 ct10),sl10⟩)(c10:kW K cd10 "ends_of"=true)(k10:kX K (.ref f10)=true)
  (a11:kU K mainGlobals "meet"=some (some (.ref f11)))(l11:K.lookup f11=some ⟨oc11,od11,.func (kH "meet" "meet" (defArgs zfb) (defBody zfb) (defScope zfb) .none kV11 dc11 pm11 an11 cd11 ct11),sl11⟩)(c11:kW K cd11 "meet"=true)(k11:kX K (.ref f11)=true)
  (a12:kU K mainGlobals "meet_on_line"=some (some (.ref f12)))(l12:K.lookup f12=some ⟨oc12,od12,.func (kH "meet_on_line" "meet_on_line" (defArgs zai) (defBody zai) (defScope zai) .none kV12 dc12 pm12 an12 cd12 ct12),sl12⟩)(c12:kW K cd12 "meet_on_line"=true)(k12:kX K (.ref f12)=true)
  (a13:kU K mainGlobals "stops"=some (some (.ref f13)))(l13:K.lookup f13=some ⟨oc13,od13,.func (kH "stops" "stops" (defArgs zdk) (defBody zdk) (defScope zdk) .none kV13 dc13 pm13 an13 cd13 ct13),sl13⟩)(c13:kW K cd13 "stops"=true)(k13:kX K (.ref f13)=true)
  (a14:kU K mainGlobals "stop_at"=some (some (.ref f14)))(l14:K.lookup f14=some ⟨oc14,od14,.func (kH "stop_at" "stop_at" (defArgs zbu) (defBody zbu) (defScope zbu) .none kV14 dc14 pm14 an14 cd14 ct14),sl14⟩)(c14:kW K cd14 "stop_at"=true)(k14:kX K (.ref f14)=true)
  (a15:kU K mainGlobals "lying_at"=some (some (.ref f15)))(l15:K.lookup f15=some ⟨oc15,od15,.func (kH "lying_at" "lying_at" (defArgs zc2) (defBody zc2) (defScope zc2) .none kV15 dc15 pm15 an15 cd15 ct15),sl15⟩)(c15:kW K cd15 "lying_at"=true)(k15:kX K (.ref f15)=true)
  (a16:kU K mainGlobals "note"=some (some (.ref f16)))(l16:K.lookup f16=some ⟨oc16,od16,.func (kH "note" "note" (defArgs zfl) (defBody zfl) (defScope zfl) .none kV16 dc16 pm16 an16 cd16 ct16),sl16⟩)(c16:kW K cd16 "note"=true)(k16:kX K (.ref f16)=true)
  (a17:kU K mainGlobals "shared_ends"=some (some (.ref f17)))(l17:K.lookup f17=some ⟨oc17,od17,.func (kH "shared_ends" "shared_ends" (defArgs zb2) (defBody zb2) (defScope zb2) .none kV17 dc17 pm17 an17 cd17 ct17),sl17⟩)(c17:kW K cd17 "shared_ends"=true)(k17:kX K (.ref f17)=true)
  (a18:kU K mainGlobals "near_pairs"=some (some (.ref f18)))(l18:K.lookup f18=some ⟨oc18,od18,.func (kH "near_pairs" "near_pairs" (defArgs zab) (defBody zab) (defScope zab) .none kV18 dc18 pm18 an18 (.ref cT1) ct18),sl18⟩)(c18:kW K (.ref cT1) "near_pairs"=true)(k18:kX K (.ref f18)=true)
  (lT1:K.lookup cT1=some ⟨tcT1,tdT1,.fields tvT1,tsT1⟩)(vT1:tvT1[11]?=some (.ref pT1))(hT1:BH K cT1 pT1=true)(tT1:vg K "near_pairs"=some (cT1,pT1))(nT1:K.lookup pT1=none)
  (a19:kU K mainGlobals "_law_cell_at"=some (some (.ref f19)))(l19:K.lookup f19=some ⟨oc19,od19,.func (kH "_law_cell_at" "_law_cell_at" (defArgs zb0) (defBody zb0) (defScope zb0) .none kV19 dc19 pm19 an19 cd19 ct19),sl19⟩)(c19:kW K cd19 "_law_cell_at"=true)(k19:kX K (.ref f19)=true)
  (a20:kU K mainGlobals "_law_whole"=some (some (.ref f20)))(l20:K.lookup f20=some ⟨oc20,od20,.func (kH "_law_whole" "_law_whole" (defArgs zbr) (defBody zbr) (defScope zbr) .none kV20 dc20 pm20 an20 cd20 ct20),sl20⟩)(c20:kW K cd20 "_law_whole"=true)(k20:kX K (.ref f20)=true)
  (a21:kU K mainGlobals "_law_stream"=some (some (.ref f21)))(l21:K.lookup f21=some ⟨oc21,od21,.func (kH "_law_stream" "_law_stream" (defArgs zbg) (defBody zbg) (defScope zbg) .none kV21 dc21 pm21 an21 cd21 ct21),sl21⟩)(c21:kW K cd21 "_law_stream"=true)(k21:kX K (.ref f21)=true)
  (a22:kU K mainGlobals "_law_divisor"=some (some (.ref f22)))(l22:K.lookup f22=some ⟨oc22,od22,.func (kH "_law_divisor" "_law_divisor" (defArgs zb4) (defBody zb4) (defScope zb4) .none kV22 dc22 pm22 an22 cd22 ct22),sl22⟩)(c22:kW K cd22 "_law_divisor"=true)(k22:kX K (.ref f22)=true)
  (a23:kU K mainGlobals "_law_lowest"=some (some (.ref f23)))(l23:K.lookup f23=some ⟨oc23,od23,.func (kH "_law_lowest" "_law_lowest" (defArgs zbh) (defBody zbh) (defScope zbh) .none kV23 dc23 pm23 an23 cd23 ct23),sl23⟩)(c23:kW K cd23 "_law_lowest"=true)(k23:kX K (.ref f23)=true)
  (a24:kU K mainGlobals "_law_point"=some (some (.ref f24)))(l24:K.lookup f24=some ⟨oc24,od24,.func (kH "_law_point" "_law_point" (defArgs zbt) (defBody zbt) (defScope zbt) .none kV24 dc24 pm24 an24 cd24 ct24),sl24⟩)(c24:kW K cd24 "_law_point"=true)(k24:kX K (.ref f24)=true)
  (a25:kU K mainGlobals "_law_before"=some (some (.ref f25)))(l25:K.lookup f25=some ⟨oc25,od25,.func (kH "_law_before" "_law_before" (defArgs zbf) (defBody zbf) (defScope zbf) .none kV25 dc25 pm25 an25 cd25 ct25),sl25⟩)(c25:kW K cd25 "_law_before"=true)(k25:kX K (.ref f25)=true)
  (a26:kU K mainGlobals "_law_turn"=some (some (.ref f26)))(l26:K.lookup f26=some ⟨oc26,od26,.func (kH "_law_turn" "_law_turn" (defArgs zc3) (defBody zc3) (defScope zc3) .none kV26 dc26 pm26 an26 cd26 ct26),sl26⟩)(c26:kW K cd26 "_law_turn"=true)(k26:kX K (.ref f26)=true)
  (a27:kU K mainGlobals "_law_on"=some (some (.ref f27)))(l27:K.lookup f27=some ⟨oc27,od27,.func (kH "_law_on" "_law_on" (defArgs zcz) (defBody zcz) (defScope zcz) .none kV27 dc27 pm27 an27 cd27 ct27),sl27⟩)(c27:kW K cd27 "_law_on"=true)(k27:kX K (.ref f27)=true)
  (a28:kU K mainGlobals "_law_is_point"=some (some (.ref f28)))(l28:K.lookup f28=some ⟨oc28,od28,.func (kH "_law_is_point" "_law_is_point" (defArgs zas) (defBody zas) (defScope zas) .none kV28 dc28 pm28 an28 cd28 ct28),sl28⟩)(c28:kW K cd28 "_law_is_point"=true)(k28:kX K (.ref f28)=true)
  (a29:kU K mainGlobals "_law_part"=some (some (.ref f29)))(l29:K.lookup f29=some ⟨oc29,od29,.func (kH "_law_part" "_law_part" (defArgs zbp) (defBody zbp) (defScope zbp) .none kV29 dc29 pm29 an29 cd29 ct29),sl29⟩)(c29:kW K cd29 "_law_part"=true)(k29:kX K (.ref f29)=true)
  (a30:kU K mainGlobals "_law_fan"=some (some (.ref f30)))(l30:K.lookup f30=some ⟨oc30,od30,.func (kH "_law_fan" "_law_fan" (defArgs zc9) (defBody zc9) (defScope zc9) .none kV30 dc30 pm30 an30 cd30 ct30),sl30⟩)(c30:kW K cd30 "_law_fan"=true)(k30:kX K (.ref f30)=true)
  (a31:kU K mainGlobals "_law_net"=some (some (.ref f31)))(l31:K.lookup f31=some ⟨oc31,od31,.func (kH "_law_net" "_law_net" (defArgs zci) (defBody zci) (defScope zci) .none kV31 dc31 pm31 an31 cd31 ct31),sl31⟩)(c31:kW K cd31 "_law_net"=true)(k31:kX K (.ref f31)=true)
  (a32:kU K mainGlobals "_law_row"=some (some (.ref f32)))(l32:K.lookup f32=some ⟨oc32,od32,.func (kH "_law_row" "_law_row" (defArgs zcn) (defBody zcn) (defScope zcn) .none kV32 dc32 pm32 an32 cd32 ct32),sl32⟩)(c32:kW K cd32 "_law_row"=true)(k32:kX K (.ref f32)=true)
  (a33:kU K mainGlobals "_law_drawn"=some (some (.ref f33)))(l33:K.lookup f33=some ⟨oc33,od33,.func (kH "_law_drawn" "_law_drawn" (defArgs zbj) (defBody zbj) (defScope zbj) .none kV33 dc33 pm33 an33 cd33 ct33),sl33⟩)(c33:kW K cd33 "_law_drawn"=true)(k33:kX K (.ref f33)=true)
  (a34:kU K mainGlobals "_law_comb"=some (some (.ref f34)))(l34:K.lookup f34=some ⟨oc34,od34,.func (kH "_law_comb" "_law_comb" (defArgs zbx) (defBody zbx) (defScope zbx) .none kV34 dc34 pm34 an34 cd34 ct34),sl34⟩)(c34:kW K cd34 "_law_comb"=true)(k34:kX K (.ref f34)=true)
  (a35:kU K mainGlobals "_law_put_off"=some (some (.ref f35)))(l35:K.lookup f35=some ⟨oc35,od35,.func (kH "_law_put_off" "_law_put_off" (defArgs zb6) (defBody zb6) (defScope zb6) .none kV35 dc35 pm35 an35 cd35 ct35),sl35⟩)(c35:kW K cd35 "_law_put_off"=true)(k35:kX K (.ref f35)=true)
  (a36:kU K mainGlobals "_law_stretches"=some (some (.ref f36)))(l36:K.lookup f36=some ⟨oc36,od36,.func (kH "_law_stretches" "_law_stretches" (defArgs zad) (defBody zad) (defScope zad) .none kV36 dc36 pm36 an36 cd36 ct36),sl36⟩)(c36:kW K cd36 "_law_stretches"=true)(k36:kX K (.ref f36)=true)
  (a37:kU K mainGlobals "_law_numbers"=some (some (.ref f37)))(l37:K.lookup f37=some ⟨oc37,od37,.func (kH "_law_numbers" "_law_numbers" (defArgs zat) (defBody zat) (defScope zat) .none kV37 dc37 pm37 an37 cd37 ct37),sl37⟩)(c37:kW K cd37 "_law_numbers"=true)(k37:kX K (.ref f37)=true)
  (a38:kU K mainGlobals "_law_stop"=some (some (.ref f38)))(l38:K.lookup f38=some ⟨oc38,od38,.func (kH "_law_stop" "_law_stop" (defArgs zay) (defBody zay) (defScope zay) .none kV38 dc38 pm38 an38 cd38 ct38),sl38⟩)(c38:kW K cd38 "_law_stop"=true)(k38:kX K (.ref f38)=true)
  (a39:kU K mainGlobals "law"=some (some (.ref f39)))(l39:K.lookup f39=some ⟨oc39,od39,.func (kH "law" "law" (defArgs s_law) (defBody s_law) (defScope s_law) .none kV39 dc39 pm39 an39 cd39 ct39),sl39⟩)(c39:kW K cd39 "law"=true)(k39:kX K (.ref f39)=true)
  (eT01:pT0≠pT1)
  (z0:kU K mainGlobals "abs"=some none)
  (z1:kU K mainGlobals "bool"=some none)
  (z2:kU K mainGlobals "enumerate"=some none)
  (z3:kU K mainGlobals "int"=some none)
  (z4:kU K mainGlobals "isinstance"=some none)
  (z5:kU K mainGlobals "len"=some none)
  (z6:kU K mainGlobals "list"=some none)
  (z7:kU K mainGlobals "max"=some none)
  (z8:kU K mainGlobals "min"=some none)
  (z9:kU K mainGlobals "range"=some none)
  (z10:kU K mainGlobals "sorted"=some none)
  (z11:kU K mainGlobals "tuple"=some none)
  (z12:kU K mainGlobals "zip"=some none)
  :∃(fd:FuncData)(ts:List Addr),(∀b,b∈ts->K.lookup b=none/\∃y c,y∈([pK "in_order",pK "near_pairs"]:List Str)/\vg K y=some (c,b))/\(∀(s:Shared)(v:Value),Ac s fd ⟨[v],[]⟩ [("_law_script",v)])/\∀base:Heap,K.In base->base.Ns mainGlobals mg->(∀b,b∈ts->base.BuiltinsAt mg b)->FnOk l.prog w K mg base CX0 7 fa fd ["_law_script"] (zhu K ts):=by
 have e:=hfa.symm.trans (kn X G a39)
 cases e;have F0:=zam (st:=zbd) l0 c0 k0;have b0:=F0.binds (ps:=["thing"]) fun _ _ _ _ _ _ us hl=>match us,hl with|[_],_=>rfl
 have F1:=zam (st:=zca) l1 c1 k1;have b1:=F1.binds (ps:=["one","other"]) fun _ _ _ _ _ _ us hl=>match us,hl with|[_,_],_=>rfl
 have F2:=zam (st:=zdx) l2 c2 k2;have b2:=F2.binds (ps:=["x","y","w"]) fun _ _ _ _ _ _ us hl=>match us,hl with|[_,_,_],_=>rfl
 have F3:=zam (st:=zd1) l3 c3 k3;have b3:=F3.binds (ps:=["P","Q"]) fun _ _ _ _ _ _ us hl=>match us,hl with|[_,_],_=>rfl
 have F4:=zam (st:=zce) l4 c4 k4;have b4:=F4.binds (ps:=["number"]) fun _ _ _ _ _ _ us hl=>match us,hl with|[_],_=>rfl
 have F5:=zam (st:=zch) l5 c5 k5;have b5:=F5.binds (ps:=["P","Q"]) fun _ _ _ _ _ _ us hl=>match us,hl with|[_,_],_=>rfl
 have F6:=zam (st:=zcb) l6 c6 k6;have b6:=F6.binds (ps:=["line","P"]) fun _ _ _ _ _ _ us hl=>match us,hl with|[_,_],_=>rfl
 have F7:=zam (st:=s_met) l7 c7 k7;have b7:=F7.binds (ps:=["one","other"]) fun _ _ _ _ _ _ us hl=>match us,hl with|[_,_],_=>rfl
 have F8:=zam (st:=zb7) l8 c8 k8;have b8:=F8.binds (ps:=["points"]) fun _ _ _ _ _ _ us hl=>match us,hl with|[_],_=>rfl
 have F9:=zam (st:=zb8) l9 c9 k9;have FC9:FunC K "in_order" "in_order" zb8 f9 _ cT0 pT0:=⟨⟨_,_,_,_,_,_,_,_,rfl,l9,c9⟩,hT0⟩;have b9:=F9.binds (ps:=["points"]) fun _ _ _ _ _ _ us hl=>match us,hl with|[_],_=>rfl
 have F10:=zam (st:=zcc) l10 c10 k10;have b10:=F10.binds (ps:=["stretches"]) fun _ _ _ _ _ _ us hl=>match us,hl with|[_],_=>rfl
 have F11:=zam (st:=zfb) l11 c11 k11;have b11:=F11.binds (ps:=["one","other"]) fun _ _ _ _ _ _ us hl=>match us,hl with|[_,_],_=>rfl
 have F12:=zam (st:=zai) l12 c12 k12;have b12:=F12.binds (ps:=["one","other"]) fun _ _ _ _ _ _ us hl=>match us,hl with|[_,_],_=>rfl
 have F13:=zam (st:=zdk) l13 c13 k13;have b13:=F13.binds (ps:=["stretches"]) fun _ _ _ _ _ _ us hl=>match us,hl with|[_],_=>rfl
 have F14:=zam (st:=zbu) l14 c14 k14;have b14:=F14.binds (ps:=["P","numbers","stretches"]) fun _ _ _ _ _ _ us hl=>match us,hl with|[_,_,_],_=>rfl
 have F15:=zam (st:=zc2) l15 c15 k15;have b15:=F15.binds (ps:=["stretches"]) fun _ _ _ _ _ _ us hl=>match us,hl with|[_],_=>rfl
 have F16:=zam (st:=zfl) l16 c16 k16;have b16:=F16.binds (ps:=["lying","P","number"]) fun _ _ _ _ _ _ us hl=>match us,hl with|[_,_,_],_=>rfl
 have F17:=zam (st:=zb2) l17 c17 k17;have b17:=F17.binds (ps:=["common"]) fun _ _ _ _ _ _ us hl=>match us,hl with|[_],_=>rfl
 have F18:=zam (st:=zab) l18 c18 k18;have FC18:FunC K "near_pairs" "near_pairs" zab f18 _ cT1 pT1:=⟨⟨_,_,_,_,_,_,_,_,rfl,l18,c18⟩,hT1⟩;have b18:=F18.binds (ps:=["stretches"]) fun _ _ _ _ _ _ us hl=>match us,hl with|[_],_=>rfl
 have F19:=zam (st:=zb0) l19 c19 k19;have b19:=F19.binds (ps:=["_law_script","_law_k"]) fun _ _ _ _ _ _ us hl=>match us,hl with|[_,_],_=>rfl
 have F20:=zam (st:=zbr) l20 c20 k20;have b20:=F20.binds (ps:=["_law_found"]) fun _ _ _ _ _ _ us hl=>match us,hl with|[_],_=>rfl
 have F21:=zam (st:=zbg) l21 c21 k21;have b21:=F21.binds (ps:=["_law_cell","_law_many"]) fun _ _ _ _ _ _ us hl=>match us,hl with|[_,_],_=>rfl
 have F22:=zam (st:=zb4) l22 c22 k22;have b22:=F22.binds (ps:=["_law_one","_law_other"]) fun _ _ _ _ _ _ us hl=>match us,hl with|[_,_],_=>rfl
 have F23:=zam (st:=zbh) l23 c23 k23;have b23:=F23.binds (ps:=["_law_x","_law_y","_law_w"]) fun _ _ _ _ _ _ us hl=>match us,hl with|[_,_,_],_=>rfl
 have F24:=zam (st:=zbt) l24 c24 k24;have b24:=F24.binds (ps:=["_law_number","_law_kind"]) fun _ _ _ _ _ _ us hl=>match us,hl with|[_,_],_=>rfl
 have F25:=zam (st:=zbf) l25 c25 k25;have b25:=F25.binds (ps:=["_law_one","_law_other"]) fun _ _ _ _ _ _ us hl=>match us,hl with|[_,_],_=>rfl
 have F26:=zam (st:=zc3) l26 c26 k26;have b26:=F26.binds (ps:=["_law_a","_law_b","_law_c"]) fun _ _ _ _ _ _ us hl=>match us,hl with|[_,_,_],_=>rfl
 have F27:=zam (st:=zcz) l27 c27 k27;have b27:=F27.binds (ps:=["_law_spot","_law_part_here"]) fun _ _ _ _ _ _ us hl=>match us,hl with|[_,_],_=>rfl
 have F28:=zam (st:=zas) l28 c28 k28;have b28:=F28.binds (ps:=["_law_found"]) fun _ _ _ _ _ _ us hl=>match us,hl with|[_],_=>rfl
 have F29:=zam (st:=zbp) l29 c29 k29;have b29:=F29.binds (ps:=["_law_one","_law_other"]) fun _ _ _ _ _ _ us hl=>match us,hl with|[_,_],_=>rfl
 have F30:=zam (st:=zc9) l30 c30 k30;have b30:=F30.binds (ps:=["_law_xs","_law_many"]) fun _ _ _ _ _ _ us hl=>match us,hl with|[_,_],_=>rfl
 have F31:=zam (st:=zci) l31 c31 k31;have b31:=F31.binds (ps:=["_law_xs","_law_many"]) fun _ _ _ _ _ _ us hl=>match us,hl with|[_,_],_=>rfl
 have F32:=zam (st:=zcn) l32 c32 k32;have b32:=F32.binds (ps:=["_law_xs","_law_many"]) fun _ _ _ _ _ _ us hl=>match us,hl with|[_,_],_=>rfl
 have F33:=zam (st:=zbj) l33 c33 k33;have b33:=F33.binds (ps:=["_law_cell","_law_many","_law_kind"]) fun _ _ _ _ _ _ us hl=>match us,hl with|[_,_,_],_=>rfl
 have F34:=zam (st:=zbx) l34 c34 k34;have b34:=F34.binds (ps:=["_law_cell"]) fun _ _ _ _ _ _ us hl=>match us,hl with|[_],_=>rfl
 have F35:=zam (st:=zb6) l35 c35 k35;have b35:=F35.binds (ps:=["_law_parts","_law_far"]) fun _ _ _ _ _ _ us hl=>match us,hl with|[_,_],_=>rfl
 have F36:=zam (st:=zad) l36 c36 k36;have b36:=F36.binds (ps:=["_law_script","_law_start","_law_most"]) fun _ _ _ _ _ _ us hl=>match us,hl with|[_,_,_],_=>rfl
 have F37:=zam (st:=zat) l37 c37 k37;have b37:=F37.binds (ps:=["_law_found","_law_due"]) fun _ _ _ _ _ _ us hl=>match us,hl with|[_,_],_=>rfl
 have F38:=zam (st:=zay) l38 c38 k38;have b38:=F38.binds (ps:=["_law_row_here","_law_parts"]) fun _ _ _ _ _ _ us hl=>match us,hl with|[_,_],_=>rfl
 have F39:=zam (st:=s_law) l39 c39 k39;have b39:=F39.binds (ps:=["_law_script"]) fun _ _ _ _ _ _ us hl=>match us,hl with|[_],_=>rfl
 have T:Txt K mg (fun n=>[f0,f1,f2,f3,f4,f5,f6,f7,f8,f9,f10,f11,f12,f13,f14,f15,f16,f17,f18,f19,f20,f21,f22,f23,f24,f25,f26,f27,f28,f29,f30,f31,f32,f33,f34,f35,f36,f37,f38,fa,cT0,pT0,cT1,pT1].getD n 0) (fun n=>[kH "is_whole" "is_whole" (defArgs zbd) (defBody zbd) (defScope zbd) .none kV0 dc0 pm0 an0 cd0 ct0,kH "divisor" "divisor" (defArgs zca) (defBody zca) (defScope zca) .none kV1 dc1 pm1 an1 cd1 ct1,kH "point" "point" (defArgs zdx) (defBody zdx) (defScope zdx) .none kV2 dc2 pm2 an2 cd2 ct2,kH "before" "before" (defArgs zd1) (defBody zd1) (defScope zd1) .none kV3 dc3 pm3 an3 cd3 ct3,kH "sign_of" "sign_of" (defArgs zce) (defBody zce) (defScope zce) .none kV4 dc4 pm4 an4 cd4 ct4,kH "line_of" "line_of" (defArgs zch) (defBody zch) (defScope zch) .none kV5 dc5 pm5 an5 cd5 ct5,kH "side_of" "side_of" (defArgs zcb) (defBody zcb) (defScope zcb) .none kV6 dc6 pm6 an6 cd6 ct6,kH "met" "met" (defArgs s_met) (defBody s_met) (defScope s_met) .none kV7 dc7 pm7 an7 cd7 ct7,kH "order_keys" "order_keys" (defArgs zb7) (defBody zb7) (defScope zb7) .none kV8 dc8 pm8 an8 cd8 ct8,kH "in_order" "in_order" (defArgs zb8) (defBody zb8) (defScope zb8) .none kV9 dc9 pm9 an9 (.ref cT0) ct9,kH "ends_of" "ends_of" (defArgs zcc) (defBody zcc) (defScope zcc) .none kV10 dc10 pm10 an10 cd10 ct10,kH "meet" "meet" (defArgs zfb) (defBody zfb) (defScope zfb) .none kV11 dc11 pm11 an11 cd11 ct11,kH "meet_on_line" "meet_on_line" (defArgs zai) (defBody zai) (defScope zai) .none kV12 dc12 pm12 an12 cd12 ct12,kH "stops" "stops" (defArgs zdk) (defBody zdk) (defScope zdk) .none kV13 dc13 pm13 an13 cd13 ct13,kH "stop_at" "stop_at" (defArgs zbu) (defBody zbu) (defScope zbu) .none kV14 dc14 pm14 an14 cd14 ct14,kH "lying_at" "lying_at" (defArgs zc2) (defBody zc2) (defScope zc2) .none kV15 dc15 pm15 an15 cd15 ct15,kH "note" "note" (defArgs zfl) (defBody zfl) (defScope zfl) .none kV16 dc16 pm16 an16 cd16 ct16,kH "shared_ends" "shared_ends" (defArgs zb2) (defBody zb2) (defScope zb2) .none kV17 dc17 pm17 an17 cd17 ct17,kH "near_pairs" "near_pairs" (defArgs zab) (defBody zab) (defScope zab) .none kV18 dc18 pm18 an18 (.ref cT1) ct18,kH "_law_cell_at" "_law_cell_at" (defArgs zb0) (defBody zb0) (defScope zb0) .none kV19 dc19 pm19 an19 cd19 ct19,kH "_law_whole" "_law_whole" (defArgs zbr) (defBody zbr) (defScope zbr) .none kV20 dc20 pm20 an20 cd20 ct20,kH "_law_stream" "_law_stream" (defArgs zbg) (defBody zbg) (defScope zbg) .none kV21 dc21 pm21 an21 cd21 ct21,kH "_law_divisor" "_law_divisor" (defArgs zb4) (defBody zb4) (defScope zb4) .none kV22 dc22 pm22 an22 cd22 ct22,kH "_law_lowest" "_law_lowest" (defArgs zbh) (defBody zbh) (defScope zbh) .none kV23 dc23 pm23 an23 cd23 ct23,kH "_law_point" "_law_point" (defArgs zbt) (defBody zbt) (defScope zbt) .none kV24 dc24 pm24 an24 cd24 ct24,kH "_law_before" "_law_before" (defArgs zbf) (defBody zbf) (defScope zbf) .none kV25 dc25 pm25 an25 cd25 ct25,kH "_law_turn" "_law_turn" (defArgs zc3) (defBody zc3) (defScope zc3) .none kV26 dc26 pm26 an26 cd26 ct26,kH "_law_on" "_law_on" (defArgs zcz) (defBody zcz) (defScope zcz) .none kV27 dc27 pm27 an27 cd27 ct27,kH "_law_is_point" "_law_is_point" (defArgs zas) (defBody zas) (defScope zas) .none kV28 dc28 pm28 an28 cd28 ct28,kH "_law_part" "_law_part" (defArgs zbp) (defBody zbp) (defScope zbp) .none kV29 dc29 pm29 an29 cd29 ct29,kH "_law_fan" "_law_fan" (defArgs zc9) (defBody zc9) (defScope zc9) .none kV30 dc30 pm30 an30 cd30 ct30,kH "_law_net" "_law_net" (defArgs zci) (defBody zci) (defScope zci) .none kV31 dc31 pm31 an31 cd31 ct31,kH "_law_row" "_law_row" (defArgs zcn) (defBody zcn) (defScope zcn) .none kV32 dc32 pm32 an32 cd32 ct32,kH "_law_drawn" "_law_drawn" (defArgs zbj) (defBody zbj) (defScope zbj) .none kV33 dc33 pm33 an33 cd33 ct33,kH "_law_comb" "_law_comb" (defArgs zbx) (defBody zbx) (defScope zbx) .none kV34 dc34 pm34 an34 cd34 ct34,kH "_law_put_off" "_law_put_off" (defArgs zb6) (defBody zb6) (defScope zb6) .none kV35 dc35 pm35 an35 cd35 ct35,kH "_law_stretches" "_law_stretches" (defArgs zad) (defBody zad) (defScope zad) .none kV36 dc36 pm36 an36 cd36 ct36,kH "_law_numbers" "_law_numbers" (defArgs zat) (defBody zat) (defScope zat) .none kV37 dc37 pm37 an37 cd37 ct37,kH "_law_stop" "_law_stop" (defArgs zay) (defBody zay) (defScope zay) .none kV38 dc38 pm38 an38 cd38 ct38,kH "law" "law" (defArgs s_law) (defBody s_law) (defScope s_law) .none kV39 dc39 pm39 an39 cd39 ct39].getD n (kH "is_whole" "is_whole" (defArgs zbd) (defBody zbd) (defScope zbd) .none kV0 dc0 pm0 an0 cd0 ct0)):=
  ⟨⟨F0,b0,kn X G a0⟩,⟨F1,b1,kn X G a1⟩,⟨F2,b2,kn X G a2⟩,⟨F3,b3,kn X G a3⟩,⟨F4,b4,kn X G a4⟩,⟨F5,b5,kn X G a5⟩,⟨F6,b6,kn X G a6⟩,⟨F7,b7,kn X G a7⟩,⟨F8,b8,kn X G a8⟩,⟨F9,b9,kn X G a9⟩,FC9,⟨F10,b10,kn X G a10⟩,⟨F11,b11,kn X G a11⟩,⟨F12,b12,kn X G a12⟩,⟨F13,b13,kn X G a13⟩,⟨F14,b14,kn X G a14⟩,⟨F15,b15,kn X G a15⟩,⟨F16,b16,kn X G a16⟩,⟨F17,b17,kn X G a17⟩,⟨F18,b18,kn X G a18⟩,FC18,⟨F19,b19,kn X G a19⟩,⟨F20,b20,kn X G a20⟩,⟨F21,b21,kn X G a21⟩,⟨F22,b22,kn X G a22⟩,⟨F23,b23,kn X G a23⟩,⟨F24,b24,kn X G a24⟩,⟨F25,b25,kn X G a25⟩,⟨F26,b26,kn X G a26⟩,⟨F27,b27,kn X G a27⟩,⟨F28,b28,kn X G a28⟩,⟨F29,b29,kn X G a29⟩,⟨F30,b30,kn X G a30⟩,⟨F31,b31,kn X G a31⟩,⟨F32,b32,kn X G a32⟩,⟨F33,b33,kn X G a33⟩,⟨F34,b34,kn X G a34⟩,⟨F35,b35,kn X G a35⟩,⟨F36,b36,kn X G a36⟩,⟨F37,b37,kn X G a37⟩,⟨F38,b38,kn X G a38⟩,⟨F39,b39,kn X G a39⟩,eT01,uB X G z0,uB X G z1,uB X G z2,uB X G z3,uB X G z4,uB X G z5,uB X G z6,uB X G z7,uB X G z8,uB X G z9,uB X G z10,uB X G z11,uB X G z12⟩
 refine⟨kH "law" "law" (defArgs s_law) (defBody s_law) (defScope s_law) .none kV39 dc39 pm39 an39 cd39 ct39,[pT0,pT1],fun b hb=>?_,fun s v=>.of_eq rfl,fun base hK _ hB=>ok_law T hK hB⟩;simp only[kh,pP,or_false] at hb;rcases hb with rfl|rfl
 ·exact⟨nT0,_,cT0,by simp,tT0⟩
 ·exact⟨nT1,_,cT1,by simp,tT1⟩
theorem walk{l:gW}{q:Program}{loose:List Str}{XP:(Str->Option Value)->Heap->Prop}{YP:World->Heap->Prop}{d:DefRec}{K:Params->kC}(hn:l.most=some 63)(hdf:d.params.defaults=[])
  (hY:∀(w:World)(h:Heap),YP w h->(K w.params).In h)(hD:∀y,y∈([pK "in_order",pK "near_pairs"]:List Str)->∃e,(PyProof.Rows.recsOf q).find? (fun e=>e.name==y)=some e)
  (F:∀(w:World)(mg:Str->Option Value)(fa:Addr)(h:Heap),(K w.params).In h->h.Ns mainGlobals mg->mg d.name=some (.ref fa)->
   ∃(fd:FuncData)(ts:List Addr),(∀b,b∈ts->(K w.params).lookup b=none/\∃y c,y∈([pK "in_order",pK "near_pairs"]:List Str)/\vg (K w.params) y=some (c,b))/\(∀(s:Shared)(u:Value),Ac s fd ⟨[u],[]⟩ [("_law_script",u)])/\∀base:Heap,(K w.params).In base->base.Ns mainGlobals mg->(∀b,b∈ts->base.BuiltinsAt mg b)->FnOk l.prog w (K w.params) mg base CX0 7 fa fd ["_law_script"] (zhu (K w.params) ts)):
  Bu q loose XP YP l.row.toRowW d [] (fun f vs=>Bi f vs):=
 L2.walk_ofT (n:=63) (k:=7) (x:="_law_script") (CX:=fun _=>CX0) (sp:=fun w ts=>zhu (K w.params) ts) (ds:=[pK "in_order",pK "near_pairs"]) hn (by decide) hdf ⟨rfl,by decide,by decide⟩ hY hD F (fun _ _ a ns ts hl hO hS=>⟨a,ns,rfl,hS,hl,fun b hb _ _=>lamTab_new (hO.tabs b hb),fun _=>rfl⟩) fun _ _ _ _ _ z=>z
end Mine
def PySem.W.Fast.tw744307031711146252:Nat:=0
def PySem.W.Fast.tw17592533510919913253:Nat:=0
def PySem.W.Fast.tw18327926164422318625:Nat:=0
def PySem.W.Fast.tw107702818169655203:Nat:=0
def PySem.W.Fast.tw5353589703251619249:Nat:=0
def PySem.W.Fast.tw6573214791483057104:Nat:=0
def PySem.W.Fast.tw17248461235983709869:Nat:=0
def PySem.W.Fast.tw39698804942421244:Nat:=0
def PySem.W.Fast.tw15593765253638416863:Nat:=0
def PySem.W.Fast.tw1349573362321927849:Nat:=0
def PySem.W.Fast.tw9978679947025087326:Nat:=0
def PySem.W.Fast.tw3191914995413990350:Nat:=0
def PySem.W.Fast.tw3117977005415463845:Nat:=0
def PySem.W.Fast.tw7478651515310654139:Nat:=0
def PySem.W.Fast.tw3507780972441042388:Nat:=0
def PySem.W.Fast.tw4371110876005759779:Nat:=0
def PySem.W.Fast.tw16168414985075468713:Nat:=0
def PySem.W.Fast.tw3996439960069794755:Nat:=0
def PySem.W.Fast.tw18007989340264508854:Nat:=0
def PySem.W.Fast.tw14388996492829076127:Nat:=0
def PySem.W.Fast.tw1726682005300435501:Nat:=0
def PySem.W.Fast.tw8370358647650587577:Nat:=0
def PySem.W.Fast.tw1591529654657109889:Nat:=0
def PySem.W.Fast.tw15398536759650120925:Nat:=0
def PySem.W.Fast.tw6724180183486640424:Nat:=0
def PySem.W.Fast.tw1699303738049600060:Nat:=0
def PySem.W.Fast.tw16770840017761066528:Nat:=0
def PySem.W.Fast.tw8707843061267484920:Nat:=0
def PySem.W.Fast.tw3453059132867892882:Nat:=0
def PySem.W.Fast.tw2675782050913089201:Nat:=0
def PySem.W.Fast.tw17308442394408457851:Nat:=0
def PySem.W.Fast.tw15972411056388498193:Nat:=0
def PySem.W.Fast.tw3391920125302641488:Nat:=0
def PySem.W.Fast.tw1943581637793506558:Nat:=0
def PySem.W.Fast.tw1113017939543447725:Nat:=0
def PySem.W.Fast.tw15039152829883419588:Nat:=0
def PySem.W.Fast.tw15848471058550918449:Nat:=0
def PySem.W.Fast.tw7616888335933257526:Nat:=0
def PySem.W.Fast.tw14022259479466475145:Nat:=0
def PySem.W.Fast.tw12527520627208432587:Nat:=0
def PySem.W.Fast.tw2211296175139852341:Nat:=0
def PySem.W.Fast.tw8345284884011302526:Nat:=0
def PySem.W.Fast.tw10186193593150330994:Nat:=0
def PySem.W.Fast.tw10174251804523412100:Nat:=0
def PySem.W.Fast.tw10181006334845250621:Nat:=0
def PySem.W.Fast.tw7873486403738292100:Nat:=0
def PySem.W.Fast.tw17532596631597885161:Nat:=0
def PySem.W.Fast.tw5782046253995310118:Nat:=0
def PySem.W.Fast.tw5681107789157129330:Nat:=0
def PySem.W.Fast.tw17652324258768502025:Nat:=0
def PySem.W.Fast.tw8458568467188086921:Nat:=0
def PySem.W.Fast.tw3101954040147154005:Nat:=0
def PySem.W.Fast.tw15264317760289518168:Nat:=0
def PySem.W.Fast.tw6044813474577065144:Nat:=0
def PySem.W.Fast.tw14384219182836257637:Nat:=0
def PySem.W.Fast.tw6176281167815776766:Nat:=0
def PySem.W.Fast.tw2925469836572077605:Nat:=0
def PySem.W.Fast.tw15345625651202160207:Nat:=0
def PySem.W.Fast.tw10056712590906818226:Nat:=0
def PySem.W.Fast.tw4569657389943997949:Nat:=0
def PySem.W.Fast.tw5533829696481416211:Nat:=0
def PySem.W.Fast.tw12682447123195347061:Nat:=0
def PySem.W.Fast.tw10175690932733883185:Nat:=0
def PySem.W.Fast.tw16535790792775032960:Nat:=0
def PySem.W.Fast.tw15410318692486826775:Nat:=0
def PySem.W.Fast.tw14094732315023969557:Nat:=0
def PySem.W.Fast.tw5991723345660441200:Nat:=0
def PySem.W.Fast.tw17214659842247905429:Nat:=0
def PySem.W.Fast.tw6712578317142833535:Nat:=0
def PySem.W.Fast.tw5838686891759345527:Nat:=0
def PySem.W.Fast.tw10284170900689416599:Nat:=0
def PySem.W.Fast.tw11352166034852820350:Nat:=0
def PySem.W.Fast.tw245806056487734841:Nat:=0
def PySem.W.Fast.tw14785771404158413847:Nat:=0
def PySem.W.Fast.tw11548936190816870886:Nat:=0
def PySem.W.Fast.tw3227505795355931061:Nat:=0
def PySem.W.Fast.tw12749753725840951687:Nat:=0
def PySem.W.Fast.tw16940835391957431176:Nat:=0
def PySem.W.Fast.tw18176377938035852196:Nat:=0
def PySem.W.Fast.tw18265502991476098148:Nat:=0
def PySem.W.Fast.tw1074311209543989401:Nat:=0
def PySem.W.Fast.tw1683103251021555011:Nat:=0
def PySem.W.Fast.tw13941676125817507655:Nat:=0
def PySem.W.Fast.tw10604755154854751873:Nat:=0
def PySem.W.Fast.tw12124344397472034736:Nat:=0
def PySem.W.Fast.tw13673367977942207583:Nat:=0
def PySem.W.Fast.tw5180694894636681182:Nat:=0
def PySem.W.Fast.tw8631902288767057651:Nat:=0
def PySem.W.Fast.tw14830246667195355555:Nat:=0
def PySem.W.Fast.tw5571505699901725350:Nat:=0
def PySem.W.Fast.tw13985530201455909507:Nat:=0
def PySem.W.Fast.tw11495479416026775649:Nat:=0
def PySem.W.Fast.tw18315319822628323390:Nat:=0
def PySem.W.Fast.tw2073121031850998771:Nat:=0
def PySem.W.Fast.tw13957462371857876448:Nat:=0
def PySem.W.Fast.tw4564954037111140714:Nat:=0
def PySem.W.Fast.tw9773344076005131748:Nat:=0
def PySem.W.Fast.tw17973233382192248066:Nat:=0
def PySem.W.Fast.tw8723823084685111646:Nat:=0
def PySem.W.Fast.tw1141085950952545235:Nat:=0
def PySem.W.Fast.tw12184284500291685678:Nat:=0
def PySem.W.Fast.tw15364715403481070112:Nat:=0
def PySem.W.Fast.tw1055916893039497867:Nat:=0
def PySem.W.Fast.tw9299788835560612922:Nat:=0
def PySem.W.Fast.tw15176757977682815268:Nat:=0
def PySem.W.Fast.tw11367203807531374031:Nat:=0
def PySem.W.Fast.tw1256697519084059475:Nat:=0
def PySem.W.Fast.tw3768779493541093232:Nat:=0
def PySem.W.Fast.tw18240031042054608667:Nat:=0
def PySem.W.Fast.tw10734916436839241060:Nat:=0
def PySem.W.Fast.tw17369774727767923172:Nat:=0
def PySem.W.Fast.tw9037723744200499086:Nat:=0
def PySem.W.Fast.tw16062102533155803907:Nat:=0
def PySem.W.Fast.tw2999374760461247825:Nat:=0
def PySem.W.Fast.tw745788116312564615:Nat:=0
def PySem.W.Fast.tw8829580371269581027:Nat:=0
def PySem.W.Fast.tw12004761172011999288:Nat:=0
def PySem.W.Fast.tw8743604336326707304:Nat:=0
def PySem.W.Fast.tw11565124283614665937:Nat:=0
def PySem.W.Fast.tw12822221115342307623:Nat:=0
def PySem.W.Fast.tw16185894813144097214:Nat:=0
def PySem.W.Fast.tw10765962897076511362:Nat:=0
def PySem.W.Fast.tw13015128812915174689:Nat:=0
def PySem.W.Fast.tw4685923365443766768:Nat:=0
def PySem.W.Fast.tw10336828716382145027:Nat:=0
def PySem.W.Fast.tw16943342169273952363:Nat:=0
def PySem.W.Fast.tw12209386078681104238:Nat:=0
def PySem.W.Fast.tw13559139123960907725:Nat:=0
def PySem.W.Fast.tw9997979597407258885:Nat:=0
def PySem.W.Fast.tw2670397508079321142:Nat:=0
def PySem.W.Fast.tw9698150501403704330:Nat:=0
def PySem.W.Fast.tw6114349318492123856:Nat:=0
def PySem.W.Fast.tw8699768112008908577:Nat:=0
def PySem.W.Fast.tw16414298489326754342:Nat:=0
def PySem.W.Fast.tw385368316009785194:Nat:=0
def PySem.W.Fast.tw16831945606643340464:Nat:=0
def PySem.W.Fast.tw10384456950326410159:Nat:=0
def PySem.W.Fast.tw7402047677830897121:Nat:=0
def PySem.W.Fast.tw7589801480628637752:Nat:=0
def PySem.W.Fast.tw4330851122951915154:Nat:=0
def PySem.W.Fast.tw13982875918260857675:Nat:=0
def PySem.W.Fast.tw3740554121400981955:Nat:=0
def PySem.W.Fast.tw6302660066691413884:Nat:=0
def PySem.W.Fast.tw14168526197801159184:Nat:=0
def PySem.W.Fast.tw8722270389112883259:Nat:=0
def PySem.W.Fast.tw12567268549782816530:Nat:=0
def PySem.W.Fast.tw15880040555301187545:Nat:=0
def PySem.W.Fast.tw4794712056977887856:Nat:=0
def PySem.W.Fast.tw17434510261588586968:Nat:=0
def PySem.W.Fast.tw10497442387815678922:Nat:=0
def PySem.W.Fast.tw14610072859922046709:Nat:=0
def PySem.W.Fast.tw3673074421499311046:Nat:=0
def PySem.W.Fast.tw7926403754667657487:Nat:=0
def PySem.W.Fast.tw15481179270350030526:Nat:=0
def PySem.W.Fast.tw7685475746477127878:Nat:=0
def PySem.W.Fast.tw14490073902920634795:Nat:=0
def PySem.W.Fast.tw3163799100796344170:Nat:=0
def PySem.W.Fast.tw18385548995192866993:Nat:=0
def PySem.W.Fast.tw8268298415834756589:Nat:=0
def PySem.W.Fast.tw10778336980582389951:Nat:=0
def PySem.W.Fast.tw16865477202699459684:Nat:=0
def PySem.W.Fast.tw16465791026656597946:Nat:=0
def PySem.W.Fast.tw11258288720828785554:Nat:=0
def PySem.W.Fast.tw16210275401606750051:Nat:=0
def PySem.W.Fast.tw12498431053790725358:Nat:=0
def PySem.W.Fast.tw4393540841979682695:Nat:=0
def PySem.W.Fast.tw12397106759638534402:Nat:=0
def PySem.W.Fast.tw4645681795160521538:Nat:=0
def PySem.W.Fast.tw10116933520170474399:Nat:=0
def PySem.W.Fast.tw14104705268805584153:Nat:=0
def PySem.W.Fast.tw8431471428398783260:Nat:=0
def PySem.W.Fast.tw8418315104861816786:Nat:=0
def PySem.W.Fast.tw17696407374044007082:Nat:=0
def PySem.W.Fast.tw5379862612944440638:Nat:=0
def PySem.W.Fast.tw16716213286552323927:Nat:=0
def PySem.W.Fast.tw6664124676438701253:Nat:=0
def PySem.W.Fast.tw5946795448511008980:Nat:=0
open PySem PySem.W PyProof.Rows
set_option maxRecDepth 100000 in
set_option maxHeartbeats 0 in
theorem PySem.Challenge.cw_acre_k13_stops_by_stretches_holds : PySem.Challenge.rw_acre_k13_stops_by_stretches.Holds := by
 w_on;o_law;k_head;(case hw=>w_witness2)
 k_fill
 refine Mine.walk (l:=PySem.Challenge.rw_acre_k13_stops_by_stretches) rfl rfl (fun w h Y=>PySem.W.km_in_of Y) (fun y hy=>by simp only[kh,pP,or_false] at hy;rcases hy with rfl|rfl<;>exact⟨_,rfl⟩) ?F
 case F=>
  intro w mg fa h KX G hmg
  refine' Mine.all_mk KX G hmg ?a0 ?l0 ?c0 ?k0 ?a1 ?l1 ?c1 ?k1 ?a2 ?l2 ?c2 ?k2 ?a3 ?l3 ?c3 ?k3 ?a4 ?l4 ?c4 ?k4 ?a5 ?l5 ?c5 ?k5 ?a6 ?l6 ?c6 ?k6 ?a7 ?l7 ?c7 ?k7 ?a8 ?l8 ?c8 ?k8 ?a9 ?l9 ?c9 ?k9 ?lT0 ?vT0 ?hT0 ?tT0 ?nT0 ?a10 ?l10 ?c10 ?k10 ?a11 ?l11 ?c11 ?k11 ?a12 ?l12 ?c12 ?k12 ?a13 ?l13 ?c13 ?k13 ?a14 ?l14 ?c14 ?k14 ?a15 ?l15 ?c15 ?k15 ?a16 ?l16 ?c16 ?k16 ?a17 ?l17 ?c17 ?k17 ?a18 ?l18 ?c18 ?k18 ?lT1 ?vT1 ?hT1 ?tT1 ?nT1 ?a19 ?l19 ?c19 ?k19 ?a20 ?l20 ?c20 ?k20 ?a21 ?l21 ?c21 ?k21 ?a22 ?l22 ?c22 ?k22 ?a23 ?l23 ?c23 ?k23 ?a24 ?l24 ?c24 ?k24 ?a25 ?l25 ?c25 ?k25 ?a26 ?l26 ?c26 ?k26 ?a27 ?l27 ?c27 ?k27 ?a28 ?l28 ?c28 ?k28 ?a29 ?l29 ?c29 ?k29 ?a30 ?l30 ?c30 ?k30 ?a31 ?l31 ?c31 ?k31 ?a32 ?l32 ?c32 ?k32 ?a33 ?l33 ?c33 ?k33 ?a34 ?l34 ?c34 ?k34 ?a35 ?l35 ?c35 ?k35 ?a36 ?l36 ?c36 ?k36 ?a37 ?l37 ?c37 ?k37 ?a38 ?l38 ?c38 ?k38 ?a39 ?l39 ?c39 ?k39 ?eT01 ?z0 ?z1 ?z2 ?z3 ?z4 ?z5 ?z6 ?z7 ?z8 ?z9 ?z10 ?z11 ?z12
  (case a0=>k_is)
  (case l0=>k_is)
  (case c0=>k_is)
  (case k0=>k_is)
  (case a1=>k_is)
  (case l1=>k_is)
  (case c1=>k_is)
  (case k1=>k_is)
  (case a2=>k_is)
  (case l2=>k_is)
  (case c2=>k_is)
  (case k2=>k_is)
  (case a3=>k_is)
  (case l3=>k_is)
  (case c3=>k_is)
  (case k3=>k_is)
  (case a4=>k_is)
  (case l4=>k_is)
  (case c4=>k_is)
  (case k4=>k_is)
  (case a5=>k_is)
  (case l5=>k_is)
  (case c5=>k_is)
  (case k5=>k_is)
  (case a6=>k_is)
  (case l6=>k_is)
  (case c6=>k_is)
  (case k6=>k_is)
  (case a7=>k_is)
  (case l7=>k_is)
  (case c7=>k_is)
  (case k7=>k_is)
  (case a8=>k_is)
  (case l8=>k_is)
  (case c8=>k_is)
  (case k8=>k_is)
  (case a9=>k_is)
  (case l9=>k_is)
  (case c9=>k_is)
  (case k9=>k_is)
  (case lT0=>k_is)
  (case vT0=>rfl)
  (case hT0=>kernel_rfl)
  (case tT0=>kernel_rfl)
  (case nT0=>kernel_rfl)
  (case a10=>k_is)
  (case l10=>k_is)
  (case c10=>k_is)
  (case k10=>k_is)
  (case a11=>k_is)
  (case l11=>k_is)
  (case c11=>k_is)
  (case k11=>k_is)
  (case a12=>k_is)
  (case l12=>k_is)
  (case c12=>k_is)
  (case k12=>k_is)
  (case a13=>k_is)
  (case l13=>k_is)
  (case c13=>k_is)
  (case k13=>k_is)
  (case a14=>k_is)
  (case l14=>k_is)
  (case c14=>k_is)
  (case k14=>k_is)
  (case a15=>k_is)
  (case l15=>k_is)
  (case c15=>k_is)
  (case k15=>k_is)
  (case a16=>k_is)
  (case l16=>k_is)
  (case c16=>k_is)
  (case k16=>k_is)
  (case a17=>k_is)
  (case l17=>k_is)
  (case c17=>k_is)
  (case k17=>k_is)
  (case a18=>k_is)
  (case l18=>k_is)
  (case c18=>k_is)
  (case k18=>k_is)
  (case lT1=>k_is)
  (case vT1=>rfl)
  (case hT1=>kernel_rfl)
  (case tT1=>kernel_rfl)
  (case nT1=>kernel_rfl)
  (case a19=>k_is)
  (case l19=>k_is)
  (case c19=>k_is)
  (case k19=>k_is)
  (case a20=>k_is)
  (case l20=>k_is)
  (case c20=>k_is)
  (case k20=>k_is)
  (case a21=>k_is)
  (case l21=>k_is)
  (case c21=>k_is)
  (case k21=>k_is)
  (case a22=>k_is)
  (case l22=>k_is)
  (case c22=>k_is)
  (case k22=>k_is)
  (case a23=>k_is)
  (case l23=>k_is)
  (case c23=>k_is)
  (case k23=>k_is)
  (case a24=>k_is)
  (case l24=>k_is)
  (case c24=>k_is)
  (case k24=>k_is)
  (case a25=>k_is)
  (case l25=>k_is)
  (case c25=>k_is)
  (case k25=>k_is)
  (case a26=>k_is)
  (case l26=>k_is)
  (case c26=>k_is)
  (case k26=>k_is)
  (case a27=>k_is)
  (case l27=>k_is)
  (case c27=>k_is)
  (case k27=>k_is)
  (case a28=>k_is)
  (case l28=>k_is)
  (case c28=>k_is)
  (case k28=>k_is)
  (case a29=>k_is)
  (case l29=>k_is)
  (case c29=>k_is)
  (case k29=>k_is)
  (case a30=>k_is)
  (case l30=>k_is)
  (case c30=>k_is)
  (case k30=>k_is)
  (case a31=>k_is)
  (case l31=>k_is)
  (case c31=>k_is)
  (case k31=>k_is)
  (case a32=>k_is)
  (case l32=>k_is)
  (case c32=>k_is)
  (case k32=>k_is)
  (case a33=>k_is)
  (case l33=>k_is)
  (case c33=>k_is)
  (case k33=>k_is)
  (case a34=>k_is)
  (case l34=>k_is)
  (case c34=>k_is)
  (case k34=>k_is)
  (case a35=>k_is)
  (case l35=>k_is)
  (case c35=>k_is)
  (case k35=>k_is)
  (case a36=>k_is)
  (case l36=>k_is)
  (case c36=>k_is)
  (case k36=>k_is)
  (case a37=>k_is)
  (case l37=>k_is)
  (case c37=>k_is)
  (case k37=>k_is)
  (case a38=>k_is)
  (case l38=>k_is)
  (case c38=>k_is)
  (case k38=>k_is)
  (case a39=>k_is)
  (case l39=>k_is)
  (case c39=>k_is)
  (case k39=>k_is)
  (case eT01=>decide)
  (case z0=>k_is)
  (case z1=>k_is)
  (case z2=>k_is)
  (case z3=>k_is)
  (case z4=>k_is)
  (case z5=>k_is)
  (case z6=>k_is)
  (case z7=>k_is)
  (case z8=>k_is)
  (case z9=>k_is)
  (case z10=>k_is)
  (case z11=>k_is)
  (case z12=>k_is)
